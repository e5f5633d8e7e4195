/- What the functions do, round by round: P27. -/
import Derived.Test.YtojjhhhbdcopmaaP1
namespace Gv
open Go
set_option maxRecDepth 100000

/-! ### glidepathref01_By -/

def Eglidepathref01_By : List Entry := [.out 52 (RSh.agg [(CK.int IntKind.i64), (CK.int IntKind.i64)])]
theorem Eglidepathref01_By_ok : ∀ e ∈ Eglidepathref01_By, EntOK env e := (ent_out ent_nil)
def Tglidepathref01_By_0a (i0 : Int) (n1 : Nat) (c2 : List PV) (n3 : Nat) (c4 : List PV) (i5 : Int) (c6 : List PV) : Q := ⟨(tm 42 [(1, (AV.loc 1 0)), (2, (AV.loc 2 0)), (3, (AV.loc 3 0)), (4, (AV.p (PV.int IntKind.i64 i0)))]), (mm 42 [(1, (Bk.cells true [(AV.p (PV.list n1 c2)), (AV.p (PV.list n3 c4)), (AV.p (PV.int IntKind.i64 i5))])), (2, (Bk.pcs true [(PV.int IntKind.i64 (0 : Int)), (PV.int IntKind.i64 (0 : Int)), (PV.int IntKind.i64 (0 : Int)), (PV.int IntKind.i64 (0 : Int))])), (3, (Bk.pcs true c6))])⟩
def Xglidepathref01_By_0a (y : Nat × List PV × Nat × List PV × Int × List PV) : Ext × Q := (Ext.normal, ⟨(tm 42 [(2, (AV.loc 2 0)), (3, (AV.loc 3 0))]), (mm 42 [(1, (Bk.cells true [(AV.p (PV.list y.1 y.2.1)), (AV.p (PV.list y.2.2.1 y.2.2.2.1)), (AV.p (PV.int IntKind.i64 y.2.2.2.2.1))])), (2, (Bk.pcs true [(PV.int IntKind.i64 (0 : Int)), (PV.int IntKind.i64 (0 : Int)), (PV.int IntKind.i64 (0 : Int)), (PV.int IntKind.i64 (0 : Int))])), (3, (Bk.pcs true y.2.2.2.2.2))])⟩)
def Iglidepathref01_By_0a (q : Ext × S) : Nat × List PV × Nat × List PV × Int × List PV := ((pP_list0 (pA_p (hdA (pB_cells1 (avM q.2 1))))), (pP_list1 (pA_p (hdA (pB_cells1 (avM q.2 1))))), (pP_list0 (pA_p (hdA (List.tail (pB_cells1 (avM q.2 1)))))), (pP_list1 (pA_p (hdA (List.tail (pB_cells1 (avM q.2 1)))))), (pP_int1 (pA_p (hdA (List.tail (List.tail (pB_cells1 (avM q.2 1))))))), (pB_pcs1 (avM q.2 3)))
abbrev Yglidepathref01_By_0 : Type := Nat × List PV × Nat × List PV × Int × List PV
def XLglidepathref01_By_0 : XL Yglidepathref01_By_0 := .one Xglidepathref01_By_0a
def Iglidepathref01_By_0 (q : Ext × S) : Yglidepathref01_By_0 := (Iglidepathref01_By_0a q)
theorem XIglidepathref01_By_0a (y : Nat × List PV × Nat × List PV × Int × List PV) : Iglidepathref01_By_0 (xe (Xglidepathref01_By_0a y)) = y := (show Iglidepathref01_By_0 (xe (Xglidepathref01_By_0a y)) = (y.1, y.2.1, y.2.2.1, y.2.2.2.1, y.2.2.2.2.1, ((y.2.2.2.2.2.map AV.p).map pA_p)) from rfl).trans (by simp only [map_back])
theorem XIglidepathref01_By_0 (y : Yglidepathref01_By_0) : Iglidepathref01_By_0 (xe (XLglidepathref01_By_0.fn y)) = y := XIglidepathref01_By_0a y
noncomputable abbrev Lglidepathref01_By_0 : Q → Option Yglidepathref01_By_0 := lpO env a58.body 0 XLglidepathref01_By_0
noncomputable abbrev Rglidepathref01_By_0 : Q → Option (Ext × S) := lpR env a58.body 0
theorem Lglidepathref01_By_0a_of {s : Q} {y : Nat × List PV × Nat × List PV × Int × List PV} (h : Rglidepathref01_By_0 s = exO (Xglidepathref01_By_0a y)) : Lglidepathref01_By_0 s = some y := lpO_of Iglidepathref01_By_0 XIglidepathref01_By_0 (y := y) h
def Tglidepathref01_By_2a (i0 : Int) (i1 : Int) (n2 : Nat) (c3 : List PV) (n4 : Nat) (c5 : List PV) (i6 : Int) (c7 : List PV) : Q := ⟨(tm 42 [(1, (AV.loc 1 0)), (2, (AV.loc 2 0)), (3, (AV.loc 3 0)), (4, (AV.p (PV.int IntKind.i64 i0))), (5, (AV.p (PV.int IntKind.i64 i1)))]), (mm 42 [(1, (Bk.cells true [(AV.p (PV.list n2 c3)), (AV.p (PV.list n4 c5)), (AV.p (PV.int IntKind.i64 i6))])), (2, (Bk.pcs true [(PV.int IntKind.i64 (0 : Int)), (PV.int IntKind.i64 (0 : Int)), (PV.int IntKind.i64 (0 : Int)), (PV.int IntKind.i64 (0 : Int))])), (3, (Bk.pcs true c7))])⟩
def Xglidepathref01_By_2a (y : Int × Nat × List PV × Nat × List PV × Int × List PV) : Ext × Q := (Ext.normal, ⟨(tm 42 [(1, (AV.loc 1 0)), (2, (AV.loc 2 0)), (3, (AV.loc 3 0)), (4, (AV.p (PV.int IntKind.i64 y.1)))]), (mm 42 [(1, (Bk.cells true [(AV.p (PV.list y.2.1 y.2.2.1)), (AV.p (PV.list y.2.2.2.1 y.2.2.2.2.1)), (AV.p (PV.int IntKind.i64 y.2.2.2.2.2.1))])), (2, (Bk.pcs true [(PV.int IntKind.i64 (0 : Int)), (PV.int IntKind.i64 (0 : Int)), (PV.int IntKind.i64 (0 : Int)), (PV.int IntKind.i64 (0 : Int))])), (3, (Bk.pcs true y.2.2.2.2.2.2))])⟩)
def Iglidepathref01_By_2a (q : Ext × S) : Int × Nat × List PV × Nat × List PV × Int × List PV := ((pP_int1 (pA_p (avT q.2 4))), (pP_list0 (pA_p (hdA (pB_cells1 (avM q.2 1))))), (pP_list1 (pA_p (hdA (pB_cells1 (avM q.2 1))))), (pP_list0 (pA_p (hdA (List.tail (pB_cells1 (avM q.2 1)))))), (pP_list1 (pA_p (hdA (List.tail (pB_cells1 (avM q.2 1)))))), (pP_int1 (pA_p (hdA (List.tail (List.tail (pB_cells1 (avM q.2 1))))))), (pB_pcs1 (avM q.2 3)))
abbrev Yglidepathref01_By_2 : Type := Int × Nat × List PV × Nat × List PV × Int × List PV
def XLglidepathref01_By_2 : XL Yglidepathref01_By_2 := .one Xglidepathref01_By_2a
def Iglidepathref01_By_2 (q : Ext × S) : Yglidepathref01_By_2 := (Iglidepathref01_By_2a q)
theorem XIglidepathref01_By_2a (y : Int × Nat × List PV × Nat × List PV × Int × List PV) : Iglidepathref01_By_2 (xe (Xglidepathref01_By_2a y)) = y := (show Iglidepathref01_By_2 (xe (Xglidepathref01_By_2a y)) = (y.1, y.2.1, y.2.2.1, y.2.2.2.1, y.2.2.2.2.1, y.2.2.2.2.2.1, ((y.2.2.2.2.2.2.map AV.p).map pA_p)) from rfl).trans (by simp only [map_back])
theorem XIglidepathref01_By_2 (y : Yglidepathref01_By_2) : Iglidepathref01_By_2 (xe (XLglidepathref01_By_2.fn y)) = y := XIglidepathref01_By_2a y
noncomputable abbrev Lglidepathref01_By_2 : Q → Option Yglidepathref01_By_2 := lpO env a58.body 2 XLglidepathref01_By_2
noncomputable abbrev Rglidepathref01_By_2 : Q → Option (Ext × S) := lpR env a58.body 2
theorem Lglidepathref01_By_2a_of {s : Q} {y : Int × Nat × List PV × Nat × List PV × Int × List PV} (h : Rglidepathref01_By_2 s = exO (Xglidepathref01_By_2a y)) : Lglidepathref01_By_2 s = some y := lpO_of Iglidepathref01_By_2 XIglidepathref01_By_2 (y := y) h
theorem Uglidepathref01_By : uniq ((blocksOf a58.body).map (·.1)) = true := by kernel_rfl
def Bglidepathref01_By_0a (_F : FnT) (N : Q → Option (Ext × S)) (E : Ext × Q → Option (Ext × S)) (_L0 : Q → Option Yglidepathref01_By_0) (L2 : Q → Option Yglidepathref01_By_2) (i0 : Int) (n1 : Nat) (c2 : List PV) (n3 : Nat) (c4 : List PV) (i5 : Int) (c6 : List PV) : Option (Ext × S) :=
  bif (decide (i0 < (4 : Int))) then
    bif (decide (((0 : Int) ≤ (0 : Int)) ∧ ((0 : Int) < (n1 : Int)))) then
      bindO (intC IntKind.i64 (c2[0]?)) fun x0 =>
      bif (decide (((0 : Int) ≤ i0) ∧ (i0 < (4 : Int)))) then
        bindO (Gv.overO c6 (0 + ((Int.toNat i0) * 1)) [(PV.int IntKind.i64 x0)]) fun x1 =>
        bindO (L2 (Tglidepathref01_By_2a i0 (1 : Int) n1 c2 n3 c4 i5 x1)) fun y2 =>
        N (Tglidepathref01_By_0a (w64 (y2.1 + (1 : Int))) y2.2.1 y2.2.2.1 y2.2.2.2.1 y2.2.2.2.2.1 y2.2.2.2.2.2.1 y2.2.2.2.2.2.2)
      else none
    else none
  else E (Xglidepathref01_By_0a (n1, c2, n3, c4, i5, c6))
theorem Bglidepathref01_By_0a_eq (F : FnT) (N : Q → Option (Ext × S)) (E : Ext × Q → Option (Ext × S)) (L0 : Q → Option Yglidepathref01_By_0) (L2 : Q → Option Yglidepathref01_By_2) (i0 : Int) (n1 : Nat) (c2 : List PV) (n3 : Nat) (c4 : List PV) (i5 : Int) (c6 : List PV) : semB (callP F Eglidepathref01_By 20) s58 (loopT [⟨0, Yglidepathref01_By_0, L0, XLglidepathref01_By_0⟩, ⟨2, Yglidepathref01_By_2, L2, XLglidepathref01_By_2⟩]) 400 (blkIn a58.body 0) N E (Tglidepathref01_By_0a i0 n1 c2 n3 c4 i5 c6) = Bglidepathref01_By_0a F N E L0 L2 i0 n1 c2 n3 c4 i5 c6 := by kernel_rfl
theorem Rglidepathref01_By_0a_of  (i0 : Int) (n1 : Nat) (c2 : List PV) (n3 : Nat) (c4 : List PV) (i5 : Int) (c6 : List PV) {r : Ext × S} (h : Bglidepathref01_By_0a (Fn env) Rglidepathref01_By_0 exO Lglidepathref01_By_0 Lglidepathref01_By_2 i0 n1 c2 n3 c4 i5 c6 = some r) : Rglidepathref01_By_0 (Tglidepathref01_By_0a i0 n1 c2 n3 c4 i5 c6) = some r :=
  lp_of Eglidepathref01_By_ok (by kernel_rfl) (lo_cons (lpO_ok Uglidepathref01_By) (lo_cons (lpO_ok Uglidepathref01_By) lo_nil)) (by kernel_rfl) ((Bglidepathref01_By_0a_eq _ _ _ _ _ _ _ _ _ _ _ _).trans h)
def Bglidepathref01_By_2a (F : FnT) (N : Q → Option (Ext × S)) (E : Ext × Q → Option (Ext × S)) (_L0 : Q → Option Yglidepathref01_By_0) (_L2 : Q → Option Yglidepathref01_By_2) (i0 : Int) (i1 : Int) (n2 : Nat) (c3 : List PV) (n4 : Nat) (c5 : List PV) (i6 : Int) (c7 : List PV) : Option (Ext × S) :=
  bif (decide (i1 < (n2 : Int))) then
    bif (decide (((0 : Int) ≤ i0) ∧ (i0 < (4 : Int)))) then
      bindO (intC IntKind.i64 (c7[(0 + ((Int.toNat i0) * 1))]?)) fun x0 =>
      bif (decide (((0 : Int) ≤ i1) ∧ (i1 < (n2 : Int)))) then
        bindO (intC IntKind.i64 (c3[((Int.toNat i1) * 2)]?)) fun x1 =>
        bindO (intC IntKind.i64 (c3[(((Int.toNat i1) * 2) + 1)]?)) fun x2 =>
        bindO (F 52 (RSh.agg [(CK.int IntKind.i64), (CK.int IntKind.i64)]) [(PV.agg [(PV.int IntKind.i64 x1), (PV.int IntKind.i64 x2)]), (PV.int IntKind.i64 (w64 (i1 * i0)))]) fun (y3 : ((Int) × (Int))) =>
        bif (decide (((0 : Int) ≤ i0) ∧ (i0 < (4 : Int)))) then
          bindO (Gv.overO c7 (0 + ((Int.toNat i0) * 1)) [(PV.int IntKind.i64 (w64 (x0 + (w64 ((2 : Int) * y3.1)))))]) fun x4 =>
          N (Tglidepathref01_By_2a i0 (w64 (i1 + (1 : Int))) n2 c3 n4 c5 i6 x4)
        else none
      else none
    else none
  else E (Xglidepathref01_By_2a (i0, n2, c3, n4, c5, i6, c7))
theorem Bglidepathref01_By_2a_eq (F : FnT) (N : Q → Option (Ext × S)) (E : Ext × Q → Option (Ext × S)) (L0 : Q → Option Yglidepathref01_By_0) (L2 : Q → Option Yglidepathref01_By_2) (i0 : Int) (i1 : Int) (n2 : Nat) (c3 : List PV) (n4 : Nat) (c5 : List PV) (i6 : Int) (c7 : List PV) : semB (callP F Eglidepathref01_By 20) s58 (loopT [⟨0, Yglidepathref01_By_0, L0, XLglidepathref01_By_0⟩, ⟨2, Yglidepathref01_By_2, L2, XLglidepathref01_By_2⟩]) 400 (blkIn a58.body 2) N E (Tglidepathref01_By_2a i0 i1 n2 c3 n4 c5 i6 c7) = Bglidepathref01_By_2a F N E L0 L2 i0 i1 n2 c3 n4 c5 i6 c7 := by kernel_rfl
theorem Rglidepathref01_By_2a_of  (i0 : Int) (i1 : Int) (n2 : Nat) (c3 : List PV) (n4 : Nat) (c5 : List PV) (i6 : Int) (c7 : List PV) {r : Ext × S} (h : Bglidepathref01_By_2a (Fn env) Rglidepathref01_By_2 exO Lglidepathref01_By_0 Lglidepathref01_By_2 i0 i1 n2 c3 n4 c5 i6 c7 = some r) : Rglidepathref01_By_2 (Tglidepathref01_By_2a i0 i1 n2 c3 n4 c5 i6 c7) = some r :=
  lp_of Eglidepathref01_By_ok (by kernel_rfl) (lo_cons (lpO_ok Uglidepathref01_By) (lo_cons (lpO_ok Uglidepathref01_By) lo_nil)) (by kernel_rfl) ((Bglidepathref01_By_2a_eq _ _ _ _ _ _ _ _ _ _ _ _ _).trans h)
def tglidepathref01_By (_F : FnT) (L0 : Q → Option Yglidepathref01_By_0) (_L2 : Q → Option Yglidepathref01_By_2) (p0_0n : Nat) (p0_0c : List PV) (p0_1n : Nat) (p0_1c : List PV) (p0_2 : Int) : Option ((Int) × ((Int) × ((Int) × (Int)))) :=
  bindO (L0 (Tglidepathref01_By_0a (0 : Int) p0_0n p0_0c p0_1n p0_1c p0_2 [(PV.int IntKind.i64 (0 : Int)), (PV.int IntKind.i64 (0 : Int)), (PV.int IntKind.i64 (0 : Int)), (PV.int IntKind.i64 (0 : Int))])) fun y0 =>
  bindO (intC IntKind.i64 (y0.2.2.2.2.2[0]?)) fun x1 =>
  bindO (intC IntKind.i64 (y0.2.2.2.2.2[1]?)) fun x2 =>
  bindO (intC IntKind.i64 (y0.2.2.2.2.2[2]?)) fun x3 =>
  bindO (intC IntKind.i64 (y0.2.2.2.2.2[3]?)) fun x4 =>
  some (x1, (x2, (x3, x4)))
theorem tglidepathref01_By_eq (F : FnT) (L0 : Q → Option Yglidepathref01_By_0) (L2 : Q → Option Yglidepathref01_By_2) (p0_0n : Nat) (p0_0c : List PV) (p0_1n : Nat) (p0_1c : List PV) (p0_2 : Int) : semF (callP F Eglidepathref01_By 20) s58 (loopT [⟨0, Yglidepathref01_By_0, L0, XLglidepathref01_By_0⟩, ⟨2, Yglidepathref01_By_2, L2, XLglidepathref01_By_2⟩]) 400 a58 [PV.agg [PV.list p0_0n p0_0c, PV.list p0_1n p0_1c, PV.int IntKind.i64 p0_2]] (fun rv => decR (RSh.agg [(CK.int IntKind.i64), (CK.int IntKind.i64), (CK.int IntKind.i64), (CK.int IntKind.i64)]) rv.pv) = tglidepathref01_By F L0 L2 p0_0n p0_0c p0_1n p0_1c p0_2 := by kernel_rfl
noncomputable abbrev Fglidepathref01_By (args : List PV) := Fn env 58 (RSh.agg [(CK.int IntKind.i64), (CK.int IntKind.i64), (CK.int IntKind.i64), (CK.int IntKind.i64)]) args
theorem Fglidepathref01_By_of  (p0_0n : Nat) (p0_0c : List PV) (p0_1n : Nat) (p0_1c : List PV) (p0_2 : Int) {res : ((Int) × ((Int) × ((Int) × (Int))))} (h : tglidepathref01_By (Fn env) Lglidepathref01_By_0 Lglidepathref01_By_2 p0_0n p0_0c p0_1n p0_1c p0_2 = some res) : Fglidepathref01_By [PV.agg [PV.list p0_0n p0_0c, PV.list p0_1n p0_1c, PV.int IntKind.i64 p0_2]] = some res :=
  fn_of Eglidepathref01_By_ok rfl rfl (lo_cons (lpO_ok Uglidepathref01_By) (lo_cons (lpO_ok Uglidepathref01_By) lo_nil)) ((tglidepathref01_By_eq _ _ _ _ _ _ _ _).trans h)

end Gv
