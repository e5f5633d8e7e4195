/- What the functions do, round by round: P24. -/
import Derived.Test.YtojjhhhbdcopmaaP20
namespace Gv
open Go
set_option maxRecDepth 100000

/-! ### glidepathref01_Added -/

def Eglidepathref01_Added : List Entry := [.inl 19 a19 s19, .out 51 (RSh.agg [(CK.int IntKind.i64), (CK.int IntKind.i64)]), .out 119 (RSh.agg [(CK.int IntKind.i64), (CK.int IntKind.i64)]), .out 63 (RSh.agg [(CK.int IntKind.i64), (CK.int IntKind.i64)]), .out 102 (RSh.one CK.bool)]
theorem Eglidepathref01_Added_ok : ∀ e ∈ Eglidepathref01_Added, EntOK env e := (ent_inl rfl (ent_out (ent_out (ent_out (ent_out ent_nil)))))
def Tglidepathref01_Added_0a (n0 : Nat) (c1 : List PV) (n2 : Nat) (c3 : List PV) (n4 : Nat) (c5 : List PV) (i6 : Int) (i7 : Int) (n8 : Nat) : Q := ⟨(tm 74 [(2, (AV.loc 2 0)), (4, (AV.loc 4 0)), (6, (AV.app 13 n0 2 c1)), (7, (AV.loc 7 0)), (8, (AV.p (PV.int IntKind.i64 (0 : Int))))]), (mm 74 [(2, (Bk.cells true [(AV.p (PV.list n2 c3)), (AV.p (PV.list n4 c5)), (AV.p (PV.int IntKind.i64 i6))])), (4, (Bk.cells true [AV.nilS, AV.nilS, (AV.p (PV.int IntKind.i64 (0 : Int)))])), (7, (Bk.cells true [AV.nilS, AV.nilS, (AV.p (PV.int IntKind.i64 i7))])), (13, (Bk.buf n8))])⟩
def Tglidepathref01_Added_0b (n0 : Nat) (c1 : List PV) (i2 : Int) (n3 : Nat) (c4 : List PV) (n5 : Nat) (c6 : List PV) (i7 : Int) (n8 : Nat) (c9 : List PV) (i10 : Int) (n11 : Nat) (n12 : Nat) : Q := ⟨(tm 74 [(2, (AV.loc 2 0)), (4, (AV.loc 4 0)), (6, (AV.app 13 n0 2 c1)), (7, (AV.loc 7 0)), (8, (AV.p (PV.int IntKind.i64 i2)))]), (mm 74 [(2, (Bk.cells true [(AV.p (PV.list n3 c4)), (AV.p (PV.list n5 c6)), (AV.p (PV.int IntKind.i64 i7))])), (4, (Bk.cells true [AV.nilS, AV.nilS, (AV.p (PV.int IntKind.i64 (0 : Int)))])), (7, (Bk.cells true [(AV.app 52 n8 2 c9), AV.nilS, (AV.p (PV.int IntKind.i64 i10))])), (13, (Bk.buf n11)), (52, (Bk.buf n12))])⟩
def Xglidepathref01_Added_0a (_y : Unit) : Ext × Q := (Ext.ret, ⟨(tm 74 [(4, (AV.loc 4 0)), (5, (AV.p (PV.bool false)))]), (mm 74 [(4, (Bk.cells true [AV.nilS, AV.nilS, (AV.p (PV.int IntKind.i64 (0 : Int)))]))])⟩)
def Iglidepathref01_Added_0a (_q : Ext × S) : Unit := ()
def Xglidepathref01_Added_0b (y : Nat × List PV × Nat × List PV × Nat × List PV × Int × Int × Nat) : Ext × Q := (Ext.normal, ⟨(tm 74 [(2, (AV.loc 2 0)), (4, (AV.loc 4 0)), (6, (AV.app 13 y.1 2 y.2.1)), (7, (AV.loc 7 0))]), (mm 74 [(2, (Bk.cells true [(AV.p (PV.list y.2.2.1 y.2.2.2.1)), (AV.p (PV.list y.2.2.2.2.1 y.2.2.2.2.2.1)), (AV.p (PV.int IntKind.i64 y.2.2.2.2.2.2.1))])), (4, (Bk.cells true [AV.nilS, AV.nilS, (AV.p (PV.int IntKind.i64 (0 : Int)))])), (7, (Bk.cells true [AV.nilS, AV.nilS, (AV.p (PV.int IntKind.i64 y.2.2.2.2.2.2.2.1))])), (13, (Bk.buf y.2.2.2.2.2.2.2.2))])⟩)
def Iglidepathref01_Added_0b (q : Ext × S) : Nat × List PV × Nat × List PV × Nat × List PV × Int × Int × Nat := ((pA_app1 (avT q.2 6)), (pA_app3 (avT q.2 6)), (pP_list0 (pA_p (hdA (pB_cells1 (avM q.2 2))))), (pP_list1 (pA_p (hdA (pB_cells1 (avM q.2 2))))), (pP_list0 (pA_p (hdA (List.tail (pB_cells1 (avM q.2 2)))))), (pP_list1 (pA_p (hdA (List.tail (pB_cells1 (avM q.2 2)))))), (pP_int1 (pA_p (hdA (List.tail (List.tail (pB_cells1 (avM q.2 2))))))), (pP_int1 (pA_p (hdA (List.tail (List.tail (pB_cells1 (avM q.2 7))))))), (pB_buf0 (avM q.2 13)))
def Xglidepathref01_Added_0c (y : Nat) : Ext × Q := (Ext.ret, ⟨(tm 74 [(4, (AV.loc 4 0)), (5, (AV.p (PV.bool false)))]), (mm 74 [(4, (Bk.cells true [AV.nilS, AV.nilS, (AV.p (PV.int IntKind.i64 (0 : Int)))])), (52, (Bk.buf y))])⟩)
def Iglidepathref01_Added_0c (q : Ext × S) : Nat := (pB_buf0 (avM q.2 52))
def Xglidepathref01_Added_0d (y : Nat × List PV × Nat × List PV × Nat × List PV × Int × Nat × List PV × Int × Nat × Nat) : Ext × Q := (Ext.normal, ⟨(tm 74 [(2, (AV.loc 2 0)), (4, (AV.loc 4 0)), (6, (AV.app 13 y.1 2 y.2.1)), (7, (AV.loc 7 0))]), (mm 74 [(2, (Bk.cells true [(AV.p (PV.list y.2.2.1 y.2.2.2.1)), (AV.p (PV.list y.2.2.2.2.1 y.2.2.2.2.2.1)), (AV.p (PV.int IntKind.i64 y.2.2.2.2.2.2.1))])), (4, (Bk.cells true [AV.nilS, AV.nilS, (AV.p (PV.int IntKind.i64 (0 : Int)))])), (7, (Bk.cells true [(AV.app 52 y.2.2.2.2.2.2.2.1 2 y.2.2.2.2.2.2.2.2.1), AV.nilS, (AV.p (PV.int IntKind.i64 y.2.2.2.2.2.2.2.2.2.1))])), (13, (Bk.buf y.2.2.2.2.2.2.2.2.2.2.1)), (52, (Bk.buf y.2.2.2.2.2.2.2.2.2.2.2))])⟩)
def Iglidepathref01_Added_0d (q : Ext × S) : Nat × List PV × Nat × List PV × Nat × List PV × Int × Nat × List PV × Int × Nat × Nat := ((pA_app1 (avT q.2 6)), (pA_app3 (avT q.2 6)), (pP_list0 (pA_p (hdA (pB_cells1 (avM q.2 2))))), (pP_list1 (pA_p (hdA (pB_cells1 (avM q.2 2))))), (pP_list0 (pA_p (hdA (List.tail (pB_cells1 (avM q.2 2)))))), (pP_list1 (pA_p (hdA (List.tail (pB_cells1 (avM q.2 2)))))), (pP_int1 (pA_p (hdA (List.tail (List.tail (pB_cells1 (avM q.2 2))))))), (pA_app1 (hdA (pB_cells1 (avM q.2 7)))), (pA_app3 (hdA (pB_cells1 (avM q.2 7)))), (pP_int1 (pA_p (hdA (List.tail (List.tail (pB_cells1 (avM q.2 7))))))), (pB_buf0 (avM q.2 13)), (pB_buf0 (avM q.2 52)))
abbrev Yglidepathref01_Added_0 : Type := (Unit) ⊕ ((Nat × List PV × Nat × List PV × Nat × List PV × Int × Int × Nat) ⊕ ((Nat) ⊕ ((Nat × List PV × Nat × List PV × Nat × List PV × Int × Nat × List PV × Int × Nat × Nat))))
def XLglidepathref01_Added_0 : XL Yglidepathref01_Added_0 := .more Xglidepathref01_Added_0a (.more Xglidepathref01_Added_0b (.more Xglidepathref01_Added_0c (.one Xglidepathref01_Added_0d)))
def Iglidepathref01_Added_0 (q : Ext × S) : Yglidepathref01_Added_0 := bif (cE q.1 == 2) && (cB (avM q.2 52) == 0) then (Sum.inl (Iglidepathref01_Added_0a q)) else bif (cE q.1 == 0) && (cA (hdA (pB_cells1 (avM q.2 7))) == 1) then (Sum.inr (Sum.inl (Iglidepathref01_Added_0b q))) else bif (cE q.1 == 2) then (Sum.inr (Sum.inr (Sum.inl (Iglidepathref01_Added_0c q)))) else (Sum.inr (Sum.inr (Sum.inr (Iglidepathref01_Added_0d q))))
theorem XIglidepathref01_Added_0a (y : Unit) : Iglidepathref01_Added_0 (xe (Xglidepathref01_Added_0a y)) = (Sum.inl y) := rfl
theorem XIglidepathref01_Added_0b (y : Nat × List PV × Nat × List PV × Nat × List PV × Int × Int × Nat) : Iglidepathref01_Added_0 (xe (Xglidepathref01_Added_0b y)) = (Sum.inr (Sum.inl y)) := rfl
theorem XIglidepathref01_Added_0c (y : Nat) : Iglidepathref01_Added_0 (xe (Xglidepathref01_Added_0c y)) = (Sum.inr (Sum.inr (Sum.inl y))) := rfl
theorem XIglidepathref01_Added_0d (y : Nat × List PV × Nat × List PV × Nat × List PV × Int × Nat × List PV × Int × Nat × Nat) : Iglidepathref01_Added_0 (xe (Xglidepathref01_Added_0d y)) = (Sum.inr (Sum.inr (Sum.inr y))) := rfl
theorem XIglidepathref01_Added_0 (y : Yglidepathref01_Added_0) : Iglidepathref01_Added_0 (xe (XLglidepathref01_Added_0.fn y)) = y := (match y with | .inl y => XIglidepathref01_Added_0a y | .inr y => (match y with | .inl y => XIglidepathref01_Added_0b y | .inr y => (match y with | .inl y => XIglidepathref01_Added_0c y | .inr y => XIglidepathref01_Added_0d y)))
noncomputable abbrev Lglidepathref01_Added_0 : Q → Option Yglidepathref01_Added_0 := lpO env a60.body 0 XLglidepathref01_Added_0
noncomputable abbrev Rglidepathref01_Added_0 : Q → Option (Ext × S) := lpR env a60.body 0
theorem Lglidepathref01_Added_0a_of {s : Q} {y : Unit} (h : Rglidepathref01_Added_0 s = exO (Xglidepathref01_Added_0a y)) : Lglidepathref01_Added_0 s = some (Sum.inl y) := lpO_of Iglidepathref01_Added_0 XIglidepathref01_Added_0 (y := (Sum.inl y)) h
theorem Lglidepathref01_Added_0b_of {s : Q} {y : Nat × List PV × Nat × List PV × Nat × List PV × Int × Int × Nat} (h : Rglidepathref01_Added_0 s = exO (Xglidepathref01_Added_0b y)) : Lglidepathref01_Added_0 s = some (Sum.inr (Sum.inl y)) := lpO_of Iglidepathref01_Added_0 XIglidepathref01_Added_0 (y := (Sum.inr (Sum.inl y))) h
theorem Lglidepathref01_Added_0c_of {s : Q} {y : Nat} (h : Rglidepathref01_Added_0 s = exO (Xglidepathref01_Added_0c y)) : Lglidepathref01_Added_0 s = some (Sum.inr (Sum.inr (Sum.inl y))) := lpO_of Iglidepathref01_Added_0 XIglidepathref01_Added_0 (y := (Sum.inr (Sum.inr (Sum.inl y)))) h
theorem Lglidepathref01_Added_0d_of {s : Q} {y : Nat × List PV × Nat × List PV × Nat × List PV × Int × Nat × List PV × Int × Nat × Nat} (h : Rglidepathref01_Added_0 s = exO (Xglidepathref01_Added_0d y)) : Lglidepathref01_Added_0 s = some (Sum.inr (Sum.inr (Sum.inr y))) := lpO_of Iglidepathref01_Added_0 XIglidepathref01_Added_0 (y := (Sum.inr (Sum.inr (Sum.inr y)))) h
theorem Uglidepathref01_Added : uniq ((blocksOf a60.body).map (·.1)) = true := by kernel_rfl
def Bglidepathref01_Added_0a (F : FnT) (N : Q → Option (Ext × S)) (E : Ext × Q → Option (Ext × S)) (_L0 : Q → Option Yglidepathref01_Added_0) (n0 : Nat) (c1 : List PV) (n2 : Nat) (c3 : List PV) (n4 : Nat) (c5 : List PV) (i6 : Int) (i7 : Int) (n8 : Nat) : Option (Ext × S) :=
  bif (decide ((0 : Int) < (n2 : Int))) then
    bindO (F 51 (RSh.agg [(CK.int IntKind.i64), (CK.int IntKind.i64)]) [(PV.list n0 c1), (PV.int IntKind.i64 (0 : Int))]) fun (y0 : ((Int) × (Int))) =>
    bindO (F 51 (RSh.agg [(CK.int IntKind.i64), (CK.int IntKind.i64)]) [(PV.list n4 c5), (PV.int IntKind.i64 (0 : Int))]) fun (y1 : ((Int) × (Int))) =>
    bindO (F 119 (RSh.agg [(CK.int IntKind.i64), (CK.int IntKind.i64)]) [(PV.agg [(PV.int IntKind.i64 y0.1), (PV.int IntKind.i64 y0.2)]), (PV.agg [(PV.int IntKind.i64 y1.1), (PV.int IntKind.i64 y1.2)])]) fun (y2 : ((Int) × (Int))) =>
    bif (decide (((0 : Int) ≤ (0 : Int)) ∧ ((0 : Int) < (n2 : Int)))) then
      bindO (intC IntKind.i64 (c3[0]?)) fun x3 =>
      bindO (intC IntKind.i64 (c3[1]?)) fun x4 =>
      bindO (F 63 (RSh.agg [(CK.int IntKind.i64), (CK.int IntKind.i64)]) [(PV.agg [(PV.int IntKind.i64 y2.1), (PV.int IntKind.i64 y2.2)]), (PV.agg [(PV.int IntKind.i64 x3), (PV.int IntKind.i64 x4)])]) fun (y5 : ((Int) × (Int))) =>
      bindO (F 102 (RSh.one CK.bool) [(PV.agg [(PV.int IntKind.i64 y5.1), (PV.int IntKind.i64 y5.2)]), (PV.int IntKind.i64 (1000000000000 : Int))]) fun (y6 : (Bool)) =>
      bif y6 then
        N (Tglidepathref01_Added_0b n0 c1 (1 : Int) n2 c3 n4 c5 i6 1 [(PV.int IntKind.i64 y5.1), (PV.int IntKind.i64 y5.2)] i7 n8 1)
      else E (Xglidepathref01_Added_0a ())
    else none
  else E (Xglidepathref01_Added_0b (n0, c1, n2, c3, n4, c5, i6, i7, n8))
theorem Bglidepathref01_Added_0a_eq (F : FnT) (N : Q → Option (Ext × S)) (E : Ext × Q → Option (Ext × S)) (L0 : Q → Option Yglidepathref01_Added_0) (n0 : Nat) (c1 : List PV) (n2 : Nat) (c3 : List PV) (n4 : Nat) (c5 : List PV) (i6 : Int) (i7 : Int) (n8 : Nat) : semB (callP F Eglidepathref01_Added 20) s60 (loopT [⟨0, Yglidepathref01_Added_0, L0, XLglidepathref01_Added_0⟩]) 400 (blkIn a60.body 0) N E (Tglidepathref01_Added_0a n0 c1 n2 c3 n4 c5 i6 i7 n8) = Bglidepathref01_Added_0a F N E L0 n0 c1 n2 c3 n4 c5 i6 i7 n8 := by kernel_rfl
theorem Rglidepathref01_Added_0a_of  (n0 : Nat) (c1 : List PV) (n2 : Nat) (c3 : List PV) (n4 : Nat) (c5 : List PV) (i6 : Int) (i7 : Int) (n8 : Nat) {r : Ext × S} (h : Bglidepathref01_Added_0a (Fn env) Rglidepathref01_Added_0 exO Lglidepathref01_Added_0 n0 c1 n2 c3 n4 c5 i6 i7 n8 = some r) : Rglidepathref01_Added_0 (Tglidepathref01_Added_0a n0 c1 n2 c3 n4 c5 i6 i7 n8) = some r :=
  lp_of Eglidepathref01_Added_ok (by kernel_rfl) (lo_cons (lpO_ok Uglidepathref01_Added) lo_nil) (by kernel_rfl) ((Bglidepathref01_Added_0a_eq _ _ _ _ _ _ _ _ _ _ _ _ _).trans h)
def Bglidepathref01_Added_0b (F : FnT) (N : Q → Option (Ext × S)) (E : Ext × Q → Option (Ext × S)) (_L0 : Q → Option Yglidepathref01_Added_0) (n0 : Nat) (c1 : List PV) (i2 : Int) (n3 : Nat) (c4 : List PV) (n5 : Nat) (c6 : List PV) (i7 : Int) (n8 : Nat) (c9 : List PV) (i10 : Int) (n11 : Nat) (n12 : Nat) : Option (Ext × S) :=
  bif (decide (i2 < (n3 : Int))) then
    bindO (F 51 (RSh.agg [(CK.int IntKind.i64), (CK.int IntKind.i64)]) [(PV.list n0 c1), (PV.int IntKind.i64 i2)]) fun (y0 : ((Int) × (Int))) =>
    bindO (F 51 (RSh.agg [(CK.int IntKind.i64), (CK.int IntKind.i64)]) [(PV.list n5 c6), (PV.int IntKind.i64 i2)]) fun (y1 : ((Int) × (Int))) =>
    bindO (F 119 (RSh.agg [(CK.int IntKind.i64), (CK.int IntKind.i64)]) [(PV.agg [(PV.int IntKind.i64 y0.1), (PV.int IntKind.i64 y0.2)]), (PV.agg [(PV.int IntKind.i64 y1.1), (PV.int IntKind.i64 y1.2)])]) fun (y2 : ((Int) × (Int))) =>
    bif (decide (((0 : Int) ≤ i2) ∧ (i2 < (n3 : Int)))) then
      bindO (intC IntKind.i64 (c4[((Int.toNat i2) * 2)]?)) fun x3 =>
      bindO (intC IntKind.i64 (c4[(((Int.toNat i2) * 2) + 1)]?)) fun x4 =>
      bindO (F 63 (RSh.agg [(CK.int IntKind.i64), (CK.int IntKind.i64)]) [(PV.agg [(PV.int IntKind.i64 y2.1), (PV.int IntKind.i64 y2.2)]), (PV.agg [(PV.int IntKind.i64 x3), (PV.int IntKind.i64 x4)])]) fun (y5 : ((Int) × (Int))) =>
      bindO (F 102 (RSh.one CK.bool) [(PV.agg [(PV.int IntKind.i64 y5.1), (PV.int IntKind.i64 y5.2)]), (PV.int IntKind.i64 (1000000000000 : Int))]) fun (y6 : (Bool)) =>
      bif y6 then
        bif (decide ((n12 = n8) ∧ ((n8 + 1) ≤ big))) then
          N (Tglidepathref01_Added_0b n0 c1 (w64 (i2 + (1 : Int))) n3 c4 n5 c6 i7 (n8 + 1) (c9 ++ [(PV.int IntKind.i64 y5.1), (PV.int IntKind.i64 y5.2)]) i10 n11 (n8 + 1))
        else none
      else E (Xglidepathref01_Added_0c n12)
    else none
  else E (Xglidepathref01_Added_0d (n0, c1, n3, c4, n5, c6, i7, n8, c9, i10, n11, n12))
theorem Bglidepathref01_Added_0b_eq (F : FnT) (N : Q → Option (Ext × S)) (E : Ext × Q → Option (Ext × S)) (L0 : Q → Option Yglidepathref01_Added_0) (n0 : Nat) (c1 : List PV) (i2 : Int) (n3 : Nat) (c4 : List PV) (n5 : Nat) (c6 : List PV) (i7 : Int) (n8 : Nat) (c9 : List PV) (i10 : Int) (n11 : Nat) (n12 : Nat) : semB (callP F Eglidepathref01_Added 20) s60 (loopT [⟨0, Yglidepathref01_Added_0, L0, XLglidepathref01_Added_0⟩]) 400 (blkIn a60.body 0) N E (Tglidepathref01_Added_0b n0 c1 i2 n3 c4 n5 c6 i7 n8 c9 i10 n11 n12) = Bglidepathref01_Added_0b F N E L0 n0 c1 i2 n3 c4 n5 c6 i7 n8 c9 i10 n11 n12 := by kernel_rfl
theorem Rglidepathref01_Added_0b_of  (n0 : Nat) (c1 : List PV) (i2 : Int) (n3 : Nat) (c4 : List PV) (n5 : Nat) (c6 : List PV) (i7 : Int) (n8 : Nat) (c9 : List PV) (i10 : Int) (n11 : Nat) (n12 : Nat) {r : Ext × S} (h : Bglidepathref01_Added_0b (Fn env) Rglidepathref01_Added_0 exO Lglidepathref01_Added_0 n0 c1 i2 n3 c4 n5 c6 i7 n8 c9 i10 n11 n12 = some r) : Rglidepathref01_Added_0 (Tglidepathref01_Added_0b n0 c1 i2 n3 c4 n5 c6 i7 n8 c9 i10 n11 n12) = some r :=
  lp_of Eglidepathref01_Added_ok (by kernel_rfl) (lo_cons (lpO_ok Uglidepathref01_Added) lo_nil) (by kernel_rfl) ((Bglidepathref01_Added_0b_eq _ _ _ _ _ _ _ _ _ _ _ _ _ _ _ _ _).trans h)
def tglidepathref01_Added (_F : FnT) (L0 : Q → Option Yglidepathref01_Added_0) (p0_0n : Nat) (p0_0c : List PV) (p0_1n : Nat) (p0_1c : List PV) (p0_2 : Int) (p1n : Nat) (p1c : List PV) : Option (((Nat) × (List PV)) × (((Nat) × (List PV)) × ((Int) × (Bool)))) :=
  bif (decide (p0_1n = 0)) then
    bif (decide (p1n = 0)) then
      bindO (L0 (Tglidepathref01_Added_0a 0 [] p0_0n p0_0c p0_1n p0_1c p0_2 (w64 (p0_2 + (p1n : Int))) 0)) fun z =>
      Sum.elim (fun _y0 =>
        some ((0, []), ((0, []), ((0 : Int), false)))) (fun z0 => Sum.elim (fun y1 =>
        bif (decide (y1.2.2.2.2.2.2.2.1 > (1000000000000 : Int))) then
          some ((0, []), ((0, []), ((0 : Int), false)))
        else bif (decide (((0 : Int) ≤ (w64 ((y1.1 : Int) - (if ((w64 ((y1.2.2.1 : Int) - (1 : Int))) < (y1.1 : Int)) then (w64 ((y1.2.2.1 : Int) - (1 : Int))) else (y1.1 : Int))))) ∧ ((w64 ((y1.1 : Int) - (if ((w64 ((y1.2.2.1 : Int) - (1 : Int))) < (y1.1 : Int)) then (w64 ((y1.2.2.1 : Int) - (1 : Int))) else (y1.1 : Int)))) ≤ ((Prod.mk y1.1 y1.2.1).1 : Int)))) then
          bif (decide (((Int.toNat (w64 ((y1.1 : Int) - (if ((w64 ((y1.2.2.1 : Int) - (1 : Int))) < (y1.1 : Int)) then (w64 ((y1.2.2.1 : Int) - (1 : Int))) else (y1.1 : Int))))) = (Prod.mk y1.1 y1.2.1).1) ∨ ((((Int.toNat (w64 ((y1.1 : Int) - (if ((w64 ((y1.2.2.1 : Int) - (1 : Int))) < (y1.1 : Int)) then (w64 ((y1.2.2.1 : Int) - (1 : Int))) else (y1.1 : Int))))) * 2) + (((Prod.mk y1.1 y1.2.1).1 - (Int.toNat (w64 ((y1.1 : Int) - (if ((w64 ((y1.2.2.1 : Int) - (1 : Int))) < (y1.1 : Int)) then (w64 ((y1.2.2.1 : Int) - (1 : Int))) else (y1.1 : Int)))))) * 2)) ≤ (List.length y1.2.1)))) then
            bif (decide (((Prod.mk y1.1 y1.2.1).1 - (Int.toNat (w64 ((y1.1 : Int) - (if ((w64 ((y1.2.2.1 : Int) - (1 : Int))) < (y1.1 : Int)) then (w64 ((y1.2.2.1 : Int) - (1 : Int))) else (y1.1 : Int)))))) = 0)) then
              some ((0, []), ((0, []), (y1.2.2.2.2.2.2.2.1, true)))
            else bif (decide ((List.length (List.take (((Prod.mk y1.1 y1.2.1).1 - (Int.toNat (w64 ((y1.1 : Int) - (if ((w64 ((y1.2.2.1 : Int) - (1 : Int))) < (y1.1 : Int)) then (w64 ((y1.2.2.1 : Int) - (1 : Int))) else (y1.1 : Int)))))) * 2) (List.drop ((Int.toNat (w64 ((y1.1 : Int) - (if ((w64 ((y1.2.2.1 : Int) - (1 : Int))) < (y1.1 : Int)) then (w64 ((y1.2.2.1 : Int) - (1 : Int))) else (y1.1 : Int))))) * 2) y1.2.1))) = (((Prod.mk y1.1 y1.2.1).1 - (Int.toNat (w64 ((y1.1 : Int) - (if ((w64 ((y1.2.2.1 : Int) - (1 : Int))) < (y1.1 : Int)) then (w64 ((y1.2.2.1 : Int) - (1 : Int))) else (y1.1 : Int)))))) * 2))) then
              bif (decide ((0 = 0) ∧ ((0 + ((Prod.mk y1.1 y1.2.1).1 - (Int.toNat (w64 ((y1.1 : Int) - (if ((w64 ((y1.2.2.1 : Int) - (1 : Int))) < (y1.1 : Int)) then (w64 ((y1.2.2.1 : Int) - (1 : Int))) else (y1.1 : Int))))))) ≤ big))) then
                bif (decide ((0 + ((Prod.mk y1.1 y1.2.1).1 - (Int.toNat (w64 ((y1.1 : Int) - (if ((w64 ((y1.2.2.1 : Int) - (1 : Int))) < (y1.1 : Int)) then (w64 ((y1.2.2.1 : Int) - (1 : Int))) else (y1.1 : Int))))))) = (0 + ((Prod.mk y1.1 y1.2.1).1 - (Int.toNat (w64 ((y1.1 : Int) - (if ((w64 ((y1.2.2.1 : Int) - (1 : Int))) < (y1.1 : Int)) then (w64 ((y1.2.2.1 : Int) - (1 : Int))) else (y1.1 : Int))))))))) then
                  some ((0, []), (((0 + ((Prod.mk y1.1 y1.2.1).1 - (Int.toNat (w64 ((y1.1 : Int) - (if ((w64 ((y1.2.2.1 : Int) - (1 : Int))) < (y1.1 : Int)) then (w64 ((y1.2.2.1 : Int) - (1 : Int))) else (y1.1 : Int))))))), ([] ++ (List.take (((Prod.mk y1.1 y1.2.1).1 - (Int.toNat (w64 ((y1.1 : Int) - (if ((w64 ((y1.2.2.1 : Int) - (1 : Int))) < (y1.1 : Int)) then (w64 ((y1.2.2.1 : Int) - (1 : Int))) else (y1.1 : Int)))))) * 2) (List.drop ((Int.toNat (w64 ((y1.1 : Int) - (if ((w64 ((y1.2.2.1 : Int) - (1 : Int))) < (y1.1 : Int)) then (w64 ((y1.2.2.1 : Int) - (1 : Int))) else (y1.1 : Int))))) * 2) y1.2.1)))), (y1.2.2.2.2.2.2.2.1, true)))
                else none
              else none
            else none
          else none
        else none) (fun z1 => Sum.elim (fun _y2 =>
        some ((0, []), ((0, []), ((0 : Int), false)))) (fun y3 =>
        bif (decide (y3.2.2.2.2.2.2.2.2.2.1 > (1000000000000 : Int))) then
          some ((0, []), ((0, []), ((0 : Int), false)))
        else bif (decide (((0 : Int) ≤ (w64 ((y3.1 : Int) - (if ((w64 ((y3.2.2.1 : Int) - (1 : Int))) < (y3.1 : Int)) then (w64 ((y3.2.2.1 : Int) - (1 : Int))) else (y3.1 : Int))))) ∧ ((w64 ((y3.1 : Int) - (if ((w64 ((y3.2.2.1 : Int) - (1 : Int))) < (y3.1 : Int)) then (w64 ((y3.2.2.1 : Int) - (1 : Int))) else (y3.1 : Int)))) ≤ ((Prod.mk y3.1 y3.2.1).1 : Int)))) then
          bif (decide (((Int.toNat (w64 ((y3.1 : Int) - (if ((w64 ((y3.2.2.1 : Int) - (1 : Int))) < (y3.1 : Int)) then (w64 ((y3.2.2.1 : Int) - (1 : Int))) else (y3.1 : Int))))) = (Prod.mk y3.1 y3.2.1).1) ∨ ((((Int.toNat (w64 ((y3.1 : Int) - (if ((w64 ((y3.2.2.1 : Int) - (1 : Int))) < (y3.1 : Int)) then (w64 ((y3.2.2.1 : Int) - (1 : Int))) else (y3.1 : Int))))) * 2) + (((Prod.mk y3.1 y3.2.1).1 - (Int.toNat (w64 ((y3.1 : Int) - (if ((w64 ((y3.2.2.1 : Int) - (1 : Int))) < (y3.1 : Int)) then (w64 ((y3.2.2.1 : Int) - (1 : Int))) else (y3.1 : Int)))))) * 2)) ≤ (List.length y3.2.1)))) then
            bif (decide (((Prod.mk y3.1 y3.2.1).1 - (Int.toNat (w64 ((y3.1 : Int) - (if ((w64 ((y3.2.2.1 : Int) - (1 : Int))) < (y3.1 : Int)) then (w64 ((y3.2.2.1 : Int) - (1 : Int))) else (y3.1 : Int)))))) = 0)) then
              some ((y3.2.2.2.2.2.2.2.1, y3.2.2.2.2.2.2.2.2.1), ((0, []), (y3.2.2.2.2.2.2.2.2.2.1, true)))
            else bif (decide ((List.length (List.take (((Prod.mk y3.1 y3.2.1).1 - (Int.toNat (w64 ((y3.1 : Int) - (if ((w64 ((y3.2.2.1 : Int) - (1 : Int))) < (y3.1 : Int)) then (w64 ((y3.2.2.1 : Int) - (1 : Int))) else (y3.1 : Int)))))) * 2) (List.drop ((Int.toNat (w64 ((y3.1 : Int) - (if ((w64 ((y3.2.2.1 : Int) - (1 : Int))) < (y3.1 : Int)) then (w64 ((y3.2.2.1 : Int) - (1 : Int))) else (y3.1 : Int))))) * 2) y3.2.1))) = (((Prod.mk y3.1 y3.2.1).1 - (Int.toNat (w64 ((y3.1 : Int) - (if ((w64 ((y3.2.2.1 : Int) - (1 : Int))) < (y3.1 : Int)) then (w64 ((y3.2.2.1 : Int) - (1 : Int))) else (y3.1 : Int)))))) * 2))) then
              bif (decide ((0 = 0) ∧ ((0 + ((Prod.mk y3.1 y3.2.1).1 - (Int.toNat (w64 ((y3.1 : Int) - (if ((w64 ((y3.2.2.1 : Int) - (1 : Int))) < (y3.1 : Int)) then (w64 ((y3.2.2.1 : Int) - (1 : Int))) else (y3.1 : Int))))))) ≤ big))) then
                bif (decide ((0 + ((Prod.mk y3.1 y3.2.1).1 - (Int.toNat (w64 ((y3.1 : Int) - (if ((w64 ((y3.2.2.1 : Int) - (1 : Int))) < (y3.1 : Int)) then (w64 ((y3.2.2.1 : Int) - (1 : Int))) else (y3.1 : Int))))))) = (0 + ((Prod.mk y3.1 y3.2.1).1 - (Int.toNat (w64 ((y3.1 : Int) - (if ((w64 ((y3.2.2.1 : Int) - (1 : Int))) < (y3.1 : Int)) then (w64 ((y3.2.2.1 : Int) - (1 : Int))) else (y3.1 : Int))))))))) then
                  some ((y3.2.2.2.2.2.2.2.1, y3.2.2.2.2.2.2.2.2.1), (((0 + ((Prod.mk y3.1 y3.2.1).1 - (Int.toNat (w64 ((y3.1 : Int) - (if ((w64 ((y3.2.2.1 : Int) - (1 : Int))) < (y3.1 : Int)) then (w64 ((y3.2.2.1 : Int) - (1 : Int))) else (y3.1 : Int))))))), ([] ++ (List.take (((Prod.mk y3.1 y3.2.1).1 - (Int.toNat (w64 ((y3.1 : Int) - (if ((w64 ((y3.2.2.1 : Int) - (1 : Int))) < (y3.1 : Int)) then (w64 ((y3.2.2.1 : Int) - (1 : Int))) else (y3.1 : Int)))))) * 2) (List.drop ((Int.toNat (w64 ((y3.1 : Int) - (if ((w64 ((y3.2.2.1 : Int) - (1 : Int))) < (y3.1 : Int)) then (w64 ((y3.2.2.1 : Int) - (1 : Int))) else (y3.1 : Int))))) * 2) y3.2.1)))), (y3.2.2.2.2.2.2.2.2.2.1, true)))
                else none
              else none
            else none
          else none
        else none) z1) z0) z
    else bif (decide ((List.length p1c) = (p1n * 2))) then
      bif (decide ((0 = 0) ∧ ((0 + p1n) ≤ big))) then
        bindO (L0 (Tglidepathref01_Added_0a (0 + p1n) ([] ++ p1c) p0_0n p0_0c p0_1n p0_1c p0_2 (w64 (p0_2 + (p1n : Int))) (0 + p1n))) fun z =>
        Sum.elim (fun _y4 =>
          some ((0, []), ((0, []), ((0 : Int), false)))) (fun z0 => Sum.elim (fun y5 =>
          bif (decide (y5.2.2.2.2.2.2.2.1 > (1000000000000 : Int))) then
            some ((0, []), ((0, []), ((0 : Int), false)))
          else bif (decide (((0 : Int) ≤ (w64 ((y5.1 : Int) - (if ((w64 ((y5.2.2.1 : Int) - (1 : Int))) < (y5.1 : Int)) then (w64 ((y5.2.2.1 : Int) - (1 : Int))) else (y5.1 : Int))))) ∧ ((w64 ((y5.1 : Int) - (if ((w64 ((y5.2.2.1 : Int) - (1 : Int))) < (y5.1 : Int)) then (w64 ((y5.2.2.1 : Int) - (1 : Int))) else (y5.1 : Int)))) ≤ ((Prod.mk y5.1 y5.2.1).1 : Int)))) then
            bif (decide (((Int.toNat (w64 ((y5.1 : Int) - (if ((w64 ((y5.2.2.1 : Int) - (1 : Int))) < (y5.1 : Int)) then (w64 ((y5.2.2.1 : Int) - (1 : Int))) else (y5.1 : Int))))) = (Prod.mk y5.1 y5.2.1).1) ∨ ((((Int.toNat (w64 ((y5.1 : Int) - (if ((w64 ((y5.2.2.1 : Int) - (1 : Int))) < (y5.1 : Int)) then (w64 ((y5.2.2.1 : Int) - (1 : Int))) else (y5.1 : Int))))) * 2) + (((Prod.mk y5.1 y5.2.1).1 - (Int.toNat (w64 ((y5.1 : Int) - (if ((w64 ((y5.2.2.1 : Int) - (1 : Int))) < (y5.1 : Int)) then (w64 ((y5.2.2.1 : Int) - (1 : Int))) else (y5.1 : Int)))))) * 2)) ≤ (List.length y5.2.1)))) then
              bif (decide (((Prod.mk y5.1 y5.2.1).1 - (Int.toNat (w64 ((y5.1 : Int) - (if ((w64 ((y5.2.2.1 : Int) - (1 : Int))) < (y5.1 : Int)) then (w64 ((y5.2.2.1 : Int) - (1 : Int))) else (y5.1 : Int)))))) = 0)) then
                some ((0, []), ((0, []), (y5.2.2.2.2.2.2.2.1, true)))
              else bif (decide ((List.length (List.take (((Prod.mk y5.1 y5.2.1).1 - (Int.toNat (w64 ((y5.1 : Int) - (if ((w64 ((y5.2.2.1 : Int) - (1 : Int))) < (y5.1 : Int)) then (w64 ((y5.2.2.1 : Int) - (1 : Int))) else (y5.1 : Int)))))) * 2) (List.drop ((Int.toNat (w64 ((y5.1 : Int) - (if ((w64 ((y5.2.2.1 : Int) - (1 : Int))) < (y5.1 : Int)) then (w64 ((y5.2.2.1 : Int) - (1 : Int))) else (y5.1 : Int))))) * 2) y5.2.1))) = (((Prod.mk y5.1 y5.2.1).1 - (Int.toNat (w64 ((y5.1 : Int) - (if ((w64 ((y5.2.2.1 : Int) - (1 : Int))) < (y5.1 : Int)) then (w64 ((y5.2.2.1 : Int) - (1 : Int))) else (y5.1 : Int)))))) * 2))) then
                bif (decide ((0 = 0) ∧ ((0 + ((Prod.mk y5.1 y5.2.1).1 - (Int.toNat (w64 ((y5.1 : Int) - (if ((w64 ((y5.2.2.1 : Int) - (1 : Int))) < (y5.1 : Int)) then (w64 ((y5.2.2.1 : Int) - (1 : Int))) else (y5.1 : Int))))))) ≤ big))) then
                  bif (decide ((0 + ((Prod.mk y5.1 y5.2.1).1 - (Int.toNat (w64 ((y5.1 : Int) - (if ((w64 ((y5.2.2.1 : Int) - (1 : Int))) < (y5.1 : Int)) then (w64 ((y5.2.2.1 : Int) - (1 : Int))) else (y5.1 : Int))))))) = (0 + ((Prod.mk y5.1 y5.2.1).1 - (Int.toNat (w64 ((y5.1 : Int) - (if ((w64 ((y5.2.2.1 : Int) - (1 : Int))) < (y5.1 : Int)) then (w64 ((y5.2.2.1 : Int) - (1 : Int))) else (y5.1 : Int))))))))) then
                    some ((0, []), (((0 + ((Prod.mk y5.1 y5.2.1).1 - (Int.toNat (w64 ((y5.1 : Int) - (if ((w64 ((y5.2.2.1 : Int) - (1 : Int))) < (y5.1 : Int)) then (w64 ((y5.2.2.1 : Int) - (1 : Int))) else (y5.1 : Int))))))), ([] ++ (List.take (((Prod.mk y5.1 y5.2.1).1 - (Int.toNat (w64 ((y5.1 : Int) - (if ((w64 ((y5.2.2.1 : Int) - (1 : Int))) < (y5.1 : Int)) then (w64 ((y5.2.2.1 : Int) - (1 : Int))) else (y5.1 : Int)))))) * 2) (List.drop ((Int.toNat (w64 ((y5.1 : Int) - (if ((w64 ((y5.2.2.1 : Int) - (1 : Int))) < (y5.1 : Int)) then (w64 ((y5.2.2.1 : Int) - (1 : Int))) else (y5.1 : Int))))) * 2) y5.2.1)))), (y5.2.2.2.2.2.2.2.1, true)))
                  else none
                else none
              else none
            else none
          else none) (fun z1 => Sum.elim (fun _y6 =>
          some ((0, []), ((0, []), ((0 : Int), false)))) (fun y7 =>
          bif (decide (y7.2.2.2.2.2.2.2.2.2.1 > (1000000000000 : Int))) then
            some ((0, []), ((0, []), ((0 : Int), false)))
          else bif (decide (((0 : Int) ≤ (w64 ((y7.1 : Int) - (if ((w64 ((y7.2.2.1 : Int) - (1 : Int))) < (y7.1 : Int)) then (w64 ((y7.2.2.1 : Int) - (1 : Int))) else (y7.1 : Int))))) ∧ ((w64 ((y7.1 : Int) - (if ((w64 ((y7.2.2.1 : Int) - (1 : Int))) < (y7.1 : Int)) then (w64 ((y7.2.2.1 : Int) - (1 : Int))) else (y7.1 : Int)))) ≤ ((Prod.mk y7.1 y7.2.1).1 : Int)))) then
            bif (decide (((Int.toNat (w64 ((y7.1 : Int) - (if ((w64 ((y7.2.2.1 : Int) - (1 : Int))) < (y7.1 : Int)) then (w64 ((y7.2.2.1 : Int) - (1 : Int))) else (y7.1 : Int))))) = (Prod.mk y7.1 y7.2.1).1) ∨ ((((Int.toNat (w64 ((y7.1 : Int) - (if ((w64 ((y7.2.2.1 : Int) - (1 : Int))) < (y7.1 : Int)) then (w64 ((y7.2.2.1 : Int) - (1 : Int))) else (y7.1 : Int))))) * 2) + (((Prod.mk y7.1 y7.2.1).1 - (Int.toNat (w64 ((y7.1 : Int) - (if ((w64 ((y7.2.2.1 : Int) - (1 : Int))) < (y7.1 : Int)) then (w64 ((y7.2.2.1 : Int) - (1 : Int))) else (y7.1 : Int)))))) * 2)) ≤ (List.length y7.2.1)))) then
              bif (decide (((Prod.mk y7.1 y7.2.1).1 - (Int.toNat (w64 ((y7.1 : Int) - (if ((w64 ((y7.2.2.1 : Int) - (1 : Int))) < (y7.1 : Int)) then (w64 ((y7.2.2.1 : Int) - (1 : Int))) else (y7.1 : Int)))))) = 0)) then
                some ((y7.2.2.2.2.2.2.2.1, y7.2.2.2.2.2.2.2.2.1), ((0, []), (y7.2.2.2.2.2.2.2.2.2.1, true)))
              else bif (decide ((List.length (List.take (((Prod.mk y7.1 y7.2.1).1 - (Int.toNat (w64 ((y7.1 : Int) - (if ((w64 ((y7.2.2.1 : Int) - (1 : Int))) < (y7.1 : Int)) then (w64 ((y7.2.2.1 : Int) - (1 : Int))) else (y7.1 : Int)))))) * 2) (List.drop ((Int.toNat (w64 ((y7.1 : Int) - (if ((w64 ((y7.2.2.1 : Int) - (1 : Int))) < (y7.1 : Int)) then (w64 ((y7.2.2.1 : Int) - (1 : Int))) else (y7.1 : Int))))) * 2) y7.2.1))) = (((Prod.mk y7.1 y7.2.1).1 - (Int.toNat (w64 ((y7.1 : Int) - (if ((w64 ((y7.2.2.1 : Int) - (1 : Int))) < (y7.1 : Int)) then (w64 ((y7.2.2.1 : Int) - (1 : Int))) else (y7.1 : Int)))))) * 2))) then
                bif (decide ((0 = 0) ∧ ((0 + ((Prod.mk y7.1 y7.2.1).1 - (Int.toNat (w64 ((y7.1 : Int) - (if ((w64 ((y7.2.2.1 : Int) - (1 : Int))) < (y7.1 : Int)) then (w64 ((y7.2.2.1 : Int) - (1 : Int))) else (y7.1 : Int))))))) ≤ big))) then
                  bif (decide ((0 + ((Prod.mk y7.1 y7.2.1).1 - (Int.toNat (w64 ((y7.1 : Int) - (if ((w64 ((y7.2.2.1 : Int) - (1 : Int))) < (y7.1 : Int)) then (w64 ((y7.2.2.1 : Int) - (1 : Int))) else (y7.1 : Int))))))) = (0 + ((Prod.mk y7.1 y7.2.1).1 - (Int.toNat (w64 ((y7.1 : Int) - (if ((w64 ((y7.2.2.1 : Int) - (1 : Int))) < (y7.1 : Int)) then (w64 ((y7.2.2.1 : Int) - (1 : Int))) else (y7.1 : Int))))))))) then
                    some ((y7.2.2.2.2.2.2.2.1, y7.2.2.2.2.2.2.2.2.1), (((0 + ((Prod.mk y7.1 y7.2.1).1 - (Int.toNat (w64 ((y7.1 : Int) - (if ((w64 ((y7.2.2.1 : Int) - (1 : Int))) < (y7.1 : Int)) then (w64 ((y7.2.2.1 : Int) - (1 : Int))) else (y7.1 : Int))))))), ([] ++ (List.take (((Prod.mk y7.1 y7.2.1).1 - (Int.toNat (w64 ((y7.1 : Int) - (if ((w64 ((y7.2.2.1 : Int) - (1 : Int))) < (y7.1 : Int)) then (w64 ((y7.2.2.1 : Int) - (1 : Int))) else (y7.1 : Int)))))) * 2) (List.drop ((Int.toNat (w64 ((y7.1 : Int) - (if ((w64 ((y7.2.2.1 : Int) - (1 : Int))) < (y7.1 : Int)) then (w64 ((y7.2.2.1 : Int) - (1 : Int))) else (y7.1 : Int))))) * 2) y7.2.1)))), (y7.2.2.2.2.2.2.2.2.2.1, true)))
                  else none
                else none
              else none
            else none
          else none) z1) z0) z
      else none
    else none
  else bif (decide ((List.length p0_1c) = (p0_1n * 2))) then
    bif (decide ((0 = 0) ∧ ((0 + p0_1n) ≤ big))) then
      bif (decide ((0 + p0_1n) = (0 + p0_1n))) then
        bif (decide (p1n = 0)) then
          bindO (L0 (Tglidepathref01_Added_0a (0 + p0_1n) ([] ++ p0_1c) p0_0n p0_0c p0_1n p0_1c p0_2 (w64 (p0_2 + (p1n : Int))) (0 + p0_1n))) fun z =>
          Sum.elim (fun _y8 =>
            some ((0, []), ((0, []), ((0 : Int), false)))) (fun z0 => Sum.elim (fun y9 =>
            bif (decide (y9.2.2.2.2.2.2.2.1 > (1000000000000 : Int))) then
              some ((0, []), ((0, []), ((0 : Int), false)))
            else bif (decide (((0 : Int) ≤ (w64 ((y9.1 : Int) - (if ((w64 ((y9.2.2.1 : Int) - (1 : Int))) < (y9.1 : Int)) then (w64 ((y9.2.2.1 : Int) - (1 : Int))) else (y9.1 : Int))))) ∧ ((w64 ((y9.1 : Int) - (if ((w64 ((y9.2.2.1 : Int) - (1 : Int))) < (y9.1 : Int)) then (w64 ((y9.2.2.1 : Int) - (1 : Int))) else (y9.1 : Int)))) ≤ ((Prod.mk y9.1 y9.2.1).1 : Int)))) then
              bif (decide (((Int.toNat (w64 ((y9.1 : Int) - (if ((w64 ((y9.2.2.1 : Int) - (1 : Int))) < (y9.1 : Int)) then (w64 ((y9.2.2.1 : Int) - (1 : Int))) else (y9.1 : Int))))) = (Prod.mk y9.1 y9.2.1).1) ∨ ((((Int.toNat (w64 ((y9.1 : Int) - (if ((w64 ((y9.2.2.1 : Int) - (1 : Int))) < (y9.1 : Int)) then (w64 ((y9.2.2.1 : Int) - (1 : Int))) else (y9.1 : Int))))) * 2) + (((Prod.mk y9.1 y9.2.1).1 - (Int.toNat (w64 ((y9.1 : Int) - (if ((w64 ((y9.2.2.1 : Int) - (1 : Int))) < (y9.1 : Int)) then (w64 ((y9.2.2.1 : Int) - (1 : Int))) else (y9.1 : Int)))))) * 2)) ≤ (List.length y9.2.1)))) then
                bif (decide (((Prod.mk y9.1 y9.2.1).1 - (Int.toNat (w64 ((y9.1 : Int) - (if ((w64 ((y9.2.2.1 : Int) - (1 : Int))) < (y9.1 : Int)) then (w64 ((y9.2.2.1 : Int) - (1 : Int))) else (y9.1 : Int)))))) = 0)) then
                  some ((0, []), ((0, []), (y9.2.2.2.2.2.2.2.1, true)))
                else bif (decide ((List.length (List.take (((Prod.mk y9.1 y9.2.1).1 - (Int.toNat (w64 ((y9.1 : Int) - (if ((w64 ((y9.2.2.1 : Int) - (1 : Int))) < (y9.1 : Int)) then (w64 ((y9.2.2.1 : Int) - (1 : Int))) else (y9.1 : Int)))))) * 2) (List.drop ((Int.toNat (w64 ((y9.1 : Int) - (if ((w64 ((y9.2.2.1 : Int) - (1 : Int))) < (y9.1 : Int)) then (w64 ((y9.2.2.1 : Int) - (1 : Int))) else (y9.1 : Int))))) * 2) y9.2.1))) = (((Prod.mk y9.1 y9.2.1).1 - (Int.toNat (w64 ((y9.1 : Int) - (if ((w64 ((y9.2.2.1 : Int) - (1 : Int))) < (y9.1 : Int)) then (w64 ((y9.2.2.1 : Int) - (1 : Int))) else (y9.1 : Int)))))) * 2))) then
                  bif (decide ((0 = 0) ∧ ((0 + ((Prod.mk y9.1 y9.2.1).1 - (Int.toNat (w64 ((y9.1 : Int) - (if ((w64 ((y9.2.2.1 : Int) - (1 : Int))) < (y9.1 : Int)) then (w64 ((y9.2.2.1 : Int) - (1 : Int))) else (y9.1 : Int))))))) ≤ big))) then
                    bif (decide ((0 + ((Prod.mk y9.1 y9.2.1).1 - (Int.toNat (w64 ((y9.1 : Int) - (if ((w64 ((y9.2.2.1 : Int) - (1 : Int))) < (y9.1 : Int)) then (w64 ((y9.2.2.1 : Int) - (1 : Int))) else (y9.1 : Int))))))) = (0 + ((Prod.mk y9.1 y9.2.1).1 - (Int.toNat (w64 ((y9.1 : Int) - (if ((w64 ((y9.2.2.1 : Int) - (1 : Int))) < (y9.1 : Int)) then (w64 ((y9.2.2.1 : Int) - (1 : Int))) else (y9.1 : Int))))))))) then
                      some ((0, []), (((0 + ((Prod.mk y9.1 y9.2.1).1 - (Int.toNat (w64 ((y9.1 : Int) - (if ((w64 ((y9.2.2.1 : Int) - (1 : Int))) < (y9.1 : Int)) then (w64 ((y9.2.2.1 : Int) - (1 : Int))) else (y9.1 : Int))))))), ([] ++ (List.take (((Prod.mk y9.1 y9.2.1).1 - (Int.toNat (w64 ((y9.1 : Int) - (if ((w64 ((y9.2.2.1 : Int) - (1 : Int))) < (y9.1 : Int)) then (w64 ((y9.2.2.1 : Int) - (1 : Int))) else (y9.1 : Int)))))) * 2) (List.drop ((Int.toNat (w64 ((y9.1 : Int) - (if ((w64 ((y9.2.2.1 : Int) - (1 : Int))) < (y9.1 : Int)) then (w64 ((y9.2.2.1 : Int) - (1 : Int))) else (y9.1 : Int))))) * 2) y9.2.1)))), (y9.2.2.2.2.2.2.2.1, true)))
                    else none
                  else none
                else none
              else none
            else none) (fun z1 => Sum.elim (fun _y10 =>
            some ((0, []), ((0, []), ((0 : Int), false)))) (fun y11 =>
            bif (decide (y11.2.2.2.2.2.2.2.2.2.1 > (1000000000000 : Int))) then
              some ((0, []), ((0, []), ((0 : Int), false)))
            else bif (decide (((0 : Int) ≤ (w64 ((y11.1 : Int) - (if ((w64 ((y11.2.2.1 : Int) - (1 : Int))) < (y11.1 : Int)) then (w64 ((y11.2.2.1 : Int) - (1 : Int))) else (y11.1 : Int))))) ∧ ((w64 ((y11.1 : Int) - (if ((w64 ((y11.2.2.1 : Int) - (1 : Int))) < (y11.1 : Int)) then (w64 ((y11.2.2.1 : Int) - (1 : Int))) else (y11.1 : Int)))) ≤ ((Prod.mk y11.1 y11.2.1).1 : Int)))) then
              bif (decide (((Int.toNat (w64 ((y11.1 : Int) - (if ((w64 ((y11.2.2.1 : Int) - (1 : Int))) < (y11.1 : Int)) then (w64 ((y11.2.2.1 : Int) - (1 : Int))) else (y11.1 : Int))))) = (Prod.mk y11.1 y11.2.1).1) ∨ ((((Int.toNat (w64 ((y11.1 : Int) - (if ((w64 ((y11.2.2.1 : Int) - (1 : Int))) < (y11.1 : Int)) then (w64 ((y11.2.2.1 : Int) - (1 : Int))) else (y11.1 : Int))))) * 2) + (((Prod.mk y11.1 y11.2.1).1 - (Int.toNat (w64 ((y11.1 : Int) - (if ((w64 ((y11.2.2.1 : Int) - (1 : Int))) < (y11.1 : Int)) then (w64 ((y11.2.2.1 : Int) - (1 : Int))) else (y11.1 : Int)))))) * 2)) ≤ (List.length y11.2.1)))) then
                bif (decide (((Prod.mk y11.1 y11.2.1).1 - (Int.toNat (w64 ((y11.1 : Int) - (if ((w64 ((y11.2.2.1 : Int) - (1 : Int))) < (y11.1 : Int)) then (w64 ((y11.2.2.1 : Int) - (1 : Int))) else (y11.1 : Int)))))) = 0)) then
                  some ((y11.2.2.2.2.2.2.2.1, y11.2.2.2.2.2.2.2.2.1), ((0, []), (y11.2.2.2.2.2.2.2.2.2.1, true)))
                else bif (decide ((List.length (List.take (((Prod.mk y11.1 y11.2.1).1 - (Int.toNat (w64 ((y11.1 : Int) - (if ((w64 ((y11.2.2.1 : Int) - (1 : Int))) < (y11.1 : Int)) then (w64 ((y11.2.2.1 : Int) - (1 : Int))) else (y11.1 : Int)))))) * 2) (List.drop ((Int.toNat (w64 ((y11.1 : Int) - (if ((w64 ((y11.2.2.1 : Int) - (1 : Int))) < (y11.1 : Int)) then (w64 ((y11.2.2.1 : Int) - (1 : Int))) else (y11.1 : Int))))) * 2) y11.2.1))) = (((Prod.mk y11.1 y11.2.1).1 - (Int.toNat (w64 ((y11.1 : Int) - (if ((w64 ((y11.2.2.1 : Int) - (1 : Int))) < (y11.1 : Int)) then (w64 ((y11.2.2.1 : Int) - (1 : Int))) else (y11.1 : Int)))))) * 2))) then
                  bif (decide ((0 = 0) ∧ ((0 + ((Prod.mk y11.1 y11.2.1).1 - (Int.toNat (w64 ((y11.1 : Int) - (if ((w64 ((y11.2.2.1 : Int) - (1 : Int))) < (y11.1 : Int)) then (w64 ((y11.2.2.1 : Int) - (1 : Int))) else (y11.1 : Int))))))) ≤ big))) then
                    bif (decide ((0 + ((Prod.mk y11.1 y11.2.1).1 - (Int.toNat (w64 ((y11.1 : Int) - (if ((w64 ((y11.2.2.1 : Int) - (1 : Int))) < (y11.1 : Int)) then (w64 ((y11.2.2.1 : Int) - (1 : Int))) else (y11.1 : Int))))))) = (0 + ((Prod.mk y11.1 y11.2.1).1 - (Int.toNat (w64 ((y11.1 : Int) - (if ((w64 ((y11.2.2.1 : Int) - (1 : Int))) < (y11.1 : Int)) then (w64 ((y11.2.2.1 : Int) - (1 : Int))) else (y11.1 : Int))))))))) then
                      some ((y11.2.2.2.2.2.2.2.1, y11.2.2.2.2.2.2.2.2.1), (((0 + ((Prod.mk y11.1 y11.2.1).1 - (Int.toNat (w64 ((y11.1 : Int) - (if ((w64 ((y11.2.2.1 : Int) - (1 : Int))) < (y11.1 : Int)) then (w64 ((y11.2.2.1 : Int) - (1 : Int))) else (y11.1 : Int))))))), ([] ++ (List.take (((Prod.mk y11.1 y11.2.1).1 - (Int.toNat (w64 ((y11.1 : Int) - (if ((w64 ((y11.2.2.1 : Int) - (1 : Int))) < (y11.1 : Int)) then (w64 ((y11.2.2.1 : Int) - (1 : Int))) else (y11.1 : Int)))))) * 2) (List.drop ((Int.toNat (w64 ((y11.1 : Int) - (if ((w64 ((y11.2.2.1 : Int) - (1 : Int))) < (y11.1 : Int)) then (w64 ((y11.2.2.1 : Int) - (1 : Int))) else (y11.1 : Int))))) * 2) y11.2.1)))), (y11.2.2.2.2.2.2.2.2.2.1, true)))
                    else none
                  else none
                else none
              else none
            else none) z1) z0) z
        else bif (decide ((List.length p1c) = (p1n * 2))) then
          bif (decide (((0 + p0_1n) = (0 + p0_1n)) ∧ (((0 + p0_1n) + p1n) ≤ big))) then
            bindO (L0 (Tglidepathref01_Added_0a ((0 + p0_1n) + p1n) (([] ++ p0_1c) ++ p1c) p0_0n p0_0c p0_1n p0_1c p0_2 (w64 (p0_2 + (p1n : Int))) ((0 + p0_1n) + p1n))) fun z =>
            Sum.elim (fun _y12 =>
              some ((0, []), ((0, []), ((0 : Int), false)))) (fun z0 => Sum.elim (fun y13 =>
              bif (decide (y13.2.2.2.2.2.2.2.1 > (1000000000000 : Int))) then
                some ((0, []), ((0, []), ((0 : Int), false)))
              else bif (decide (((0 : Int) ≤ (w64 ((y13.1 : Int) - (if ((w64 ((y13.2.2.1 : Int) - (1 : Int))) < (y13.1 : Int)) then (w64 ((y13.2.2.1 : Int) - (1 : Int))) else (y13.1 : Int))))) ∧ ((w64 ((y13.1 : Int) - (if ((w64 ((y13.2.2.1 : Int) - (1 : Int))) < (y13.1 : Int)) then (w64 ((y13.2.2.1 : Int) - (1 : Int))) else (y13.1 : Int)))) ≤ ((Prod.mk y13.1 y13.2.1).1 : Int)))) then
                bif (decide (((Int.toNat (w64 ((y13.1 : Int) - (if ((w64 ((y13.2.2.1 : Int) - (1 : Int))) < (y13.1 : Int)) then (w64 ((y13.2.2.1 : Int) - (1 : Int))) else (y13.1 : Int))))) = (Prod.mk y13.1 y13.2.1).1) ∨ ((((Int.toNat (w64 ((y13.1 : Int) - (if ((w64 ((y13.2.2.1 : Int) - (1 : Int))) < (y13.1 : Int)) then (w64 ((y13.2.2.1 : Int) - (1 : Int))) else (y13.1 : Int))))) * 2) + (((Prod.mk y13.1 y13.2.1).1 - (Int.toNat (w64 ((y13.1 : Int) - (if ((w64 ((y13.2.2.1 : Int) - (1 : Int))) < (y13.1 : Int)) then (w64 ((y13.2.2.1 : Int) - (1 : Int))) else (y13.1 : Int)))))) * 2)) ≤ (List.length y13.2.1)))) then
                  bif (decide (((Prod.mk y13.1 y13.2.1).1 - (Int.toNat (w64 ((y13.1 : Int) - (if ((w64 ((y13.2.2.1 : Int) - (1 : Int))) < (y13.1 : Int)) then (w64 ((y13.2.2.1 : Int) - (1 : Int))) else (y13.1 : Int)))))) = 0)) then
                    some ((0, []), ((0, []), (y13.2.2.2.2.2.2.2.1, true)))
                  else bif (decide ((List.length (List.take (((Prod.mk y13.1 y13.2.1).1 - (Int.toNat (w64 ((y13.1 : Int) - (if ((w64 ((y13.2.2.1 : Int) - (1 : Int))) < (y13.1 : Int)) then (w64 ((y13.2.2.1 : Int) - (1 : Int))) else (y13.1 : Int)))))) * 2) (List.drop ((Int.toNat (w64 ((y13.1 : Int) - (if ((w64 ((y13.2.2.1 : Int) - (1 : Int))) < (y13.1 : Int)) then (w64 ((y13.2.2.1 : Int) - (1 : Int))) else (y13.1 : Int))))) * 2) y13.2.1))) = (((Prod.mk y13.1 y13.2.1).1 - (Int.toNat (w64 ((y13.1 : Int) - (if ((w64 ((y13.2.2.1 : Int) - (1 : Int))) < (y13.1 : Int)) then (w64 ((y13.2.2.1 : Int) - (1 : Int))) else (y13.1 : Int)))))) * 2))) then
                    bif (decide ((0 = 0) ∧ ((0 + ((Prod.mk y13.1 y13.2.1).1 - (Int.toNat (w64 ((y13.1 : Int) - (if ((w64 ((y13.2.2.1 : Int) - (1 : Int))) < (y13.1 : Int)) then (w64 ((y13.2.2.1 : Int) - (1 : Int))) else (y13.1 : Int))))))) ≤ big))) then
                      bif (decide ((0 + ((Prod.mk y13.1 y13.2.1).1 - (Int.toNat (w64 ((y13.1 : Int) - (if ((w64 ((y13.2.2.1 : Int) - (1 : Int))) < (y13.1 : Int)) then (w64 ((y13.2.2.1 : Int) - (1 : Int))) else (y13.1 : Int))))))) = (0 + ((Prod.mk y13.1 y13.2.1).1 - (Int.toNat (w64 ((y13.1 : Int) - (if ((w64 ((y13.2.2.1 : Int) - (1 : Int))) < (y13.1 : Int)) then (w64 ((y13.2.2.1 : Int) - (1 : Int))) else (y13.1 : Int))))))))) then
                        some ((0, []), (((0 + ((Prod.mk y13.1 y13.2.1).1 - (Int.toNat (w64 ((y13.1 : Int) - (if ((w64 ((y13.2.2.1 : Int) - (1 : Int))) < (y13.1 : Int)) then (w64 ((y13.2.2.1 : Int) - (1 : Int))) else (y13.1 : Int))))))), ([] ++ (List.take (((Prod.mk y13.1 y13.2.1).1 - (Int.toNat (w64 ((y13.1 : Int) - (if ((w64 ((y13.2.2.1 : Int) - (1 : Int))) < (y13.1 : Int)) then (w64 ((y13.2.2.1 : Int) - (1 : Int))) else (y13.1 : Int)))))) * 2) (List.drop ((Int.toNat (w64 ((y13.1 : Int) - (if ((w64 ((y13.2.2.1 : Int) - (1 : Int))) < (y13.1 : Int)) then (w64 ((y13.2.2.1 : Int) - (1 : Int))) else (y13.1 : Int))))) * 2) y13.2.1)))), (y13.2.2.2.2.2.2.2.1, true)))
                      else none
                    else none
                  else none
                else none
              else none) (fun z1 => Sum.elim (fun _y14 =>
              some ((0, []), ((0, []), ((0 : Int), false)))) (fun y15 =>
              bif (decide (y15.2.2.2.2.2.2.2.2.2.1 > (1000000000000 : Int))) then
                some ((0, []), ((0, []), ((0 : Int), false)))
              else bif (decide (((0 : Int) ≤ (w64 ((y15.1 : Int) - (if ((w64 ((y15.2.2.1 : Int) - (1 : Int))) < (y15.1 : Int)) then (w64 ((y15.2.2.1 : Int) - (1 : Int))) else (y15.1 : Int))))) ∧ ((w64 ((y15.1 : Int) - (if ((w64 ((y15.2.2.1 : Int) - (1 : Int))) < (y15.1 : Int)) then (w64 ((y15.2.2.1 : Int) - (1 : Int))) else (y15.1 : Int)))) ≤ ((Prod.mk y15.1 y15.2.1).1 : Int)))) then
                bif (decide (((Int.toNat (w64 ((y15.1 : Int) - (if ((w64 ((y15.2.2.1 : Int) - (1 : Int))) < (y15.1 : Int)) then (w64 ((y15.2.2.1 : Int) - (1 : Int))) else (y15.1 : Int))))) = (Prod.mk y15.1 y15.2.1).1) ∨ ((((Int.toNat (w64 ((y15.1 : Int) - (if ((w64 ((y15.2.2.1 : Int) - (1 : Int))) < (y15.1 : Int)) then (w64 ((y15.2.2.1 : Int) - (1 : Int))) else (y15.1 : Int))))) * 2) + (((Prod.mk y15.1 y15.2.1).1 - (Int.toNat (w64 ((y15.1 : Int) - (if ((w64 ((y15.2.2.1 : Int) - (1 : Int))) < (y15.1 : Int)) then (w64 ((y15.2.2.1 : Int) - (1 : Int))) else (y15.1 : Int)))))) * 2)) ≤ (List.length y15.2.1)))) then
                  bif (decide (((Prod.mk y15.1 y15.2.1).1 - (Int.toNat (w64 ((y15.1 : Int) - (if ((w64 ((y15.2.2.1 : Int) - (1 : Int))) < (y15.1 : Int)) then (w64 ((y15.2.2.1 : Int) - (1 : Int))) else (y15.1 : Int)))))) = 0)) then
                    some ((y15.2.2.2.2.2.2.2.1, y15.2.2.2.2.2.2.2.2.1), ((0, []), (y15.2.2.2.2.2.2.2.2.2.1, true)))
                  else bif (decide ((List.length (List.take (((Prod.mk y15.1 y15.2.1).1 - (Int.toNat (w64 ((y15.1 : Int) - (if ((w64 ((y15.2.2.1 : Int) - (1 : Int))) < (y15.1 : Int)) then (w64 ((y15.2.2.1 : Int) - (1 : Int))) else (y15.1 : Int)))))) * 2) (List.drop ((Int.toNat (w64 ((y15.1 : Int) - (if ((w64 ((y15.2.2.1 : Int) - (1 : Int))) < (y15.1 : Int)) then (w64 ((y15.2.2.1 : Int) - (1 : Int))) else (y15.1 : Int))))) * 2) y15.2.1))) = (((Prod.mk y15.1 y15.2.1).1 - (Int.toNat (w64 ((y15.1 : Int) - (if ((w64 ((y15.2.2.1 : Int) - (1 : Int))) < (y15.1 : Int)) then (w64 ((y15.2.2.1 : Int) - (1 : Int))) else (y15.1 : Int)))))) * 2))) then
                    bif (decide ((0 = 0) ∧ ((0 + ((Prod.mk y15.1 y15.2.1).1 - (Int.toNat (w64 ((y15.1 : Int) - (if ((w64 ((y15.2.2.1 : Int) - (1 : Int))) < (y15.1 : Int)) then (w64 ((y15.2.2.1 : Int) - (1 : Int))) else (y15.1 : Int))))))) ≤ big))) then
                      bif (decide ((0 + ((Prod.mk y15.1 y15.2.1).1 - (Int.toNat (w64 ((y15.1 : Int) - (if ((w64 ((y15.2.2.1 : Int) - (1 : Int))) < (y15.1 : Int)) then (w64 ((y15.2.2.1 : Int) - (1 : Int))) else (y15.1 : Int))))))) = (0 + ((Prod.mk y15.1 y15.2.1).1 - (Int.toNat (w64 ((y15.1 : Int) - (if ((w64 ((y15.2.2.1 : Int) - (1 : Int))) < (y15.1 : Int)) then (w64 ((y15.2.2.1 : Int) - (1 : Int))) else (y15.1 : Int))))))))) then
                        some ((y15.2.2.2.2.2.2.2.1, y15.2.2.2.2.2.2.2.2.1), (((0 + ((Prod.mk y15.1 y15.2.1).1 - (Int.toNat (w64 ((y15.1 : Int) - (if ((w64 ((y15.2.2.1 : Int) - (1 : Int))) < (y15.1 : Int)) then (w64 ((y15.2.2.1 : Int) - (1 : Int))) else (y15.1 : Int))))))), ([] ++ (List.take (((Prod.mk y15.1 y15.2.1).1 - (Int.toNat (w64 ((y15.1 : Int) - (if ((w64 ((y15.2.2.1 : Int) - (1 : Int))) < (y15.1 : Int)) then (w64 ((y15.2.2.1 : Int) - (1 : Int))) else (y15.1 : Int)))))) * 2) (List.drop ((Int.toNat (w64 ((y15.1 : Int) - (if ((w64 ((y15.2.2.1 : Int) - (1 : Int))) < (y15.1 : Int)) then (w64 ((y15.2.2.1 : Int) - (1 : Int))) else (y15.1 : Int))))) * 2) y15.2.1)))), (y15.2.2.2.2.2.2.2.2.2.1, true)))
                      else none
                    else none
                  else none
                else none
              else none) z1) z0) z
          else none
        else none
      else none
    else none
  else none
theorem tglidepathref01_Added_eq (F : FnT) (L0 : Q → Option Yglidepathref01_Added_0) (p0_0n : Nat) (p0_0c : List PV) (p0_1n : Nat) (p0_1c : List PV) (p0_2 : Int) (p1n : Nat) (p1c : List PV) : semF (callP F Eglidepathref01_Added 20) s60 (loopT [⟨0, Yglidepathref01_Added_0, L0, XLglidepathref01_Added_0⟩]) 400 a60 [PV.agg [PV.list p0_0n p0_0c, PV.list p0_1n p0_1c, PV.int IntKind.i64 p0_2], PV.list p1n p1c] (fun rv => decR (RSh.tup [(Prod.mk true [CK.list, CK.list, (CK.int IntKind.i64)]), (Prod.mk false [CK.bool])]) rv.pv) = tglidepathref01_Added F L0 p0_0n p0_0c p0_1n p0_1c p0_2 p1n p1c := by kernel_rfl
noncomputable abbrev Fglidepathref01_Added (args : List PV) := Fn env 60 (RSh.tup [(Prod.mk true [CK.list, CK.list, (CK.int IntKind.i64)]), (Prod.mk false [CK.bool])]) args
theorem Fglidepathref01_Added_of  (p0_0n : Nat) (p0_0c : List PV) (p0_1n : Nat) (p0_1c : List PV) (p0_2 : Int) (p1n : Nat) (p1c : List PV) {res : (((Nat) × (List PV)) × (((Nat) × (List PV)) × ((Int) × (Bool))))} (h : tglidepathref01_Added (Fn env) Lglidepathref01_Added_0 p0_0n p0_0c p0_1n p0_1c p0_2 p1n p1c = some res) : Fglidepathref01_Added [PV.agg [PV.list p0_0n p0_0c, PV.list p0_1n p0_1c, PV.int IntKind.i64 p0_2], PV.list p1n p1c] = some res :=
  fn_of Eglidepathref01_Added_ok rfl rfl (lo_cons (lpO_ok Uglidepathref01_Added) lo_nil) ((tglidepathref01_Added_eq _ _ _ _ _ _ _ _ _).trans h)

end Gv
