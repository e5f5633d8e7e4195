/- What the functions do, round by round: SH4. -/
import Derived.Test.YtnoifjomlmadkaaSH1
namespace Gv
open Go
set_option maxRecDepth 100000

/-! ### glidepathbase_Mod -/

def Eglidepathbase_Mod : List Entry := []
theorem Eglidepathbase_Mod_ok : ∀ e ∈ Eglidepathbase_Mod, EntOK env e := ent_nil
theorem Uglidepathbase_Mod : uniq ((blocksOf a42.body).map (·.1)) = true := by kernel_rfl
def tglidepathbase_Mod (F : FnT) (p0 : Int) (p1 : Int) : Option (Int) :=
  bif (decide (p1 ≠ (0 : Int))) then
    bif (decide ((Int.tmod p0 p1) < (0 : Int))) then
      some (w64 ((Int.tmod p0 p1) + p1))
    else some (Int.tmod p0 p1)
  else none
theorem tglidepathbase_Mod_eq (F : FnT) (p0 : Int) (p1 : Int) : semF (callP F Eglidepathbase_Mod 20) s42 (loopT []) 400 a42 [PV.int IntKind.i64 p0, PV.int IntKind.i64 p1] (fun rv => decR (RSh.one (CK.int IntKind.i64)) rv.pv) = tglidepathbase_Mod F p0 p1 := by kernel_rfl
noncomputable abbrev Fglidepathbase_Mod (args : List PV) := Fn env 42 (RSh.one (CK.int IntKind.i64)) args
theorem Fglidepathbase_Mod_of  (p0 : Int) (p1 : Int) {res : (Int)} (h : tglidepathbase_Mod (Fn env) p0 p1 = some res) : Fglidepathbase_Mod [PV.int IntKind.i64 p0, PV.int IntKind.i64 p1] = some res :=
  fn_of Eglidepathbase_Mod_ok rfl rfl lo_nil ((tglidepathbase_Mod_eq _ _ _).trans h)

/-! ### glidepathlaw03_ScanHeads -/

def Eglidepathlaw03_ScanHeads : List Entry := [.out 12 (RSh.one CK.bool), .out 27 (RSh.one CK.bool), .out 29 (RSh.agg [(CK.int IntKind.i64), (CK.int IntKind.i64), (CK.int IntKind.i64), (CK.int IntKind.i64), (CK.int IntKind.i64), (CK.int IntKind.i64), CK.list]), .out 28 (RSh.tup [(Prod.mk false [(CK.int IntKind.i64)]), (Prod.mk false [(CK.int IntKind.i64)])]), .out 30 (RSh.tup [(Prod.mk false [CK.bool]), (Prod.mk false [(CK.int IntKind.i64)])]), .out 31 (RSh.tup [(Prod.mk false [(CK.int IntKind.i64)]), (Prod.mk false [(CK.int IntKind.i64)])]), .out 32 (RSh.one (CK.int IntKind.i64)), .out 33 (RSh.one CK.bool)]
theorem Eglidepathlaw03_ScanHeads_ok : ∀ e ∈ Eglidepathlaw03_ScanHeads, EntOK env e := (ent_out (ent_out (ent_out (ent_out (ent_out (ent_out (ent_out (ent_out ent_nil))))))))
def Tglidepathlaw03_ScanHeads_1000019a (i0 : Int) (i1 : Int) (b2 : Bool) (i3 : Int) (i4 : Int) (i5 : Int) (i6 : Int) (i7 : Int) (i8 : Int) (i9 : Int) (i10 : Int) (i11 : Int) (n12 : Nat) (c13 : List PV) (i14 : Int) (i15 : Int) : Q := ⟨(tm 64 [(2, (AV.loc 2 0)), (3, (AV.loc 3 0)), (5, (AV.p (PV.int IntKind.i64 i0))), (6, (AV.p (PV.int IntKind.i64 i1))), (7, (AV.p (PV.bool b2))), (8, (AV.p (PV.int IntKind.i64 i3))), (9, (AV.p (PV.int IntKind.i64 i4))), (10, (AV.p (PV.int IntKind.i64 i5)))]), (mm 64 [(2, (Bk.cells true [(AV.p (PV.int IntKind.i64 i6)), (AV.p (PV.int IntKind.i64 i7)), (AV.p (PV.int IntKind.i64 i8)), (AV.p (PV.int IntKind.i64 i9)), (AV.p (PV.int IntKind.i64 i10)), (AV.p (PV.int IntKind.i64 i11)), (AV.p (PV.list n12 c13))])), (3, (Bk.pcs true [(PV.int IntKind.i64 i14), (PV.int IntKind.i64 i15)]))])⟩
def Xglidepathlaw03_ScanHeads_1000019a (y : Unit) : Ext × Q := (Ext.ret, ⟨(tm 64 [(4, (AV.p (PV.bool false)))]), (mm 64 [])⟩)
def Iglidepathlaw03_ScanHeads_1000019a (q : Ext × S) : Unit := ()
def Xglidepathlaw03_ScanHeads_1000019b (y : Bool × Int × Int × Int × Int × Int × Int × Int × Int × Nat × List PV × Int × Int) : Ext × Q := (Ext.normal, ⟨(tm 64 [(2, (AV.loc 2 0)), (3, (AV.loc 3 0)), (7, (AV.p (PV.bool y.1))), (8, (AV.p (PV.int IntKind.i64 y.2.1))), (10, (AV.p (PV.int IntKind.i64 y.2.2.1)))]), (mm 64 [(2, (Bk.cells true [(AV.p (PV.int IntKind.i64 y.2.2.2.1)), (AV.p (PV.int IntKind.i64 y.2.2.2.2.1)), (AV.p (PV.int IntKind.i64 y.2.2.2.2.2.1)), (AV.p (PV.int IntKind.i64 y.2.2.2.2.2.2.1)), (AV.p (PV.int IntKind.i64 y.2.2.2.2.2.2.2.1)), (AV.p (PV.int IntKind.i64 y.2.2.2.2.2.2.2.2.1)), (AV.p (PV.list y.2.2.2.2.2.2.2.2.2.1 y.2.2.2.2.2.2.2.2.2.2.1))])), (3, (Bk.pcs true [(PV.int IntKind.i64 y.2.2.2.2.2.2.2.2.2.2.2.1), (PV.int IntKind.i64 y.2.2.2.2.2.2.2.2.2.2.2.2)]))])⟩)
def Iglidepathlaw03_ScanHeads_1000019b (q : Ext × S) : Bool × Int × Int × Int × Int × Int × Int × Int × Int × Nat × List PV × Int × Int := ((pP_bool0 (pA_p (avT q.2 7))), (pP_int1 (pA_p (avT q.2 8))), (pP_int1 (pA_p (avT q.2 10))), (pP_int1 (pA_p (hdA (pB_cells1 (avM q.2 2))))), (pP_int1 (pA_p (hdA (List.tail (pB_cells1 (avM q.2 2)))))), (pP_int1 (pA_p (hdA (List.tail (List.tail (pB_cells1 (avM q.2 2))))))), (pP_int1 (pA_p (hdA (List.tail (List.tail (List.tail (pB_cells1 (avM q.2 2)))))))), (pP_int1 (pA_p (hdA (List.tail (List.tail (List.tail (List.tail (pB_cells1 (avM q.2 2))))))))), (pP_int1 (pA_p (hdA (List.tail (List.tail (List.tail (List.tail (List.tail (pB_cells1 (avM q.2 2)))))))))), (pP_list0 (pA_p (hdA (List.tail (List.tail (List.tail (List.tail (List.tail (List.tail (pB_cells1 (avM q.2 2))))))))))), (pP_list1 (pA_p (hdA (List.tail (List.tail (List.tail (List.tail (List.tail (List.tail (pB_cells1 (avM q.2 2))))))))))), (pP_int1 (hdP (pB_pcs1 (avM q.2 3)))), (pP_int1 (hdP (List.tail (pB_pcs1 (avM q.2 3))))))
abbrev Yglidepathlaw03_ScanHeads_1000019 : Type := (Unit) ⊕ ((Bool × Int × Int × Int × Int × Int × Int × Int × Int × Nat × List PV × Int × Int))
def XLglidepathlaw03_ScanHeads_1000019 : XL Yglidepathlaw03_ScanHeads_1000019 := .more Xglidepathlaw03_ScanHeads_1000019a (.one Xglidepathlaw03_ScanHeads_1000019b)
def Iglidepathlaw03_ScanHeads_1000019 (q : Ext × S) : Yglidepathlaw03_ScanHeads_1000019 := bif (cE q.1 == 2) then (Sum.inl (Iglidepathlaw03_ScanHeads_1000019a q)) else (Sum.inr (Iglidepathlaw03_ScanHeads_1000019b q))
theorem XIglidepathlaw03_ScanHeads_1000019a (y : Unit) : Iglidepathlaw03_ScanHeads_1000019 (xe (Xglidepathlaw03_ScanHeads_1000019a y)) = (Sum.inl y) := rfl
theorem XIglidepathlaw03_ScanHeads_1000019b (y : Bool × Int × Int × Int × Int × Int × Int × Int × Int × Nat × List PV × Int × Int) : Iglidepathlaw03_ScanHeads_1000019 (xe (Xglidepathlaw03_ScanHeads_1000019b y)) = (Sum.inr y) := rfl
theorem XIglidepathlaw03_ScanHeads_1000019 (y : Yglidepathlaw03_ScanHeads_1000019) : Iglidepathlaw03_ScanHeads_1000019 (xe (XLglidepathlaw03_ScanHeads_1000019.fn y)) = y := (match y with | .inl y => XIglidepathlaw03_ScanHeads_1000019a y | .inr y => XIglidepathlaw03_ScanHeads_1000019b y)
noncomputable abbrev Lglidepathlaw03_ScanHeads_1000019 : Q → Option Yglidepathlaw03_ScanHeads_1000019 := lpO env a6.body 1000019 XLglidepathlaw03_ScanHeads_1000019
noncomputable abbrev Rglidepathlaw03_ScanHeads_1000019 : Q → Option (Ext × S) := lpR env a6.body 1000019
theorem Lglidepathlaw03_ScanHeads_1000019a_of {s : Q} {y : Unit} (h : Rglidepathlaw03_ScanHeads_1000019 s = exO (Xglidepathlaw03_ScanHeads_1000019a y)) : Lglidepathlaw03_ScanHeads_1000019 s = some (Sum.inl y) := lpO_of Iglidepathlaw03_ScanHeads_1000019 XIglidepathlaw03_ScanHeads_1000019 (y := (Sum.inl y)) h
theorem Lglidepathlaw03_ScanHeads_1000019b_of {s : Q} {y : Bool × Int × Int × Int × Int × Int × Int × Int × Int × Nat × List PV × Int × Int} (h : Rglidepathlaw03_ScanHeads_1000019 s = exO (Xglidepathlaw03_ScanHeads_1000019b y)) : Lglidepathlaw03_ScanHeads_1000019 s = some (Sum.inr y) := lpO_of Iglidepathlaw03_ScanHeads_1000019 XIglidepathlaw03_ScanHeads_1000019 (y := (Sum.inr y)) h
def Tglidepathlaw03_ScanHeads_1000012a (b0 : Bool) (i1 : Int) (i2 : Int) (i3 : Int) (i4 : Int) (i5 : Int) (i6 : Int) (i7 : Int) (i8 : Int) (n9 : Nat) (c10 : List PV) (i11 : Int) (i12 : Int) : Q := ⟨(tm 64 [(2, (AV.loc 2 0)), (3, (AV.loc 3 0)), (7, (AV.p (PV.bool b0))), (8, (AV.p (PV.int IntKind.i64 i1))), (10, (AV.p (PV.int IntKind.i64 i2)))]), (mm 64 [(2, (Bk.cells true [(AV.p (PV.int IntKind.i64 i3)), (AV.p (PV.int IntKind.i64 i4)), (AV.p (PV.int IntKind.i64 i5)), (AV.p (PV.int IntKind.i64 i6)), (AV.p (PV.int IntKind.i64 i7)), (AV.p (PV.int IntKind.i64 i8)), (AV.p (PV.list n9 c10))])), (3, (Bk.pcs true [(PV.int IntKind.i64 i11), (PV.int IntKind.i64 i12)]))])⟩
def Xglidepathlaw03_ScanHeads_1000012a (y : Bool × Int × Int × Int × Int × Int × Int × Int × Int × Nat × List PV × Int × Int) : Ext × Q := (Ext.normal, ⟨(tm 64 [(2, (AV.loc 2 0)), (3, (AV.loc 3 0)), (7, (AV.p (PV.bool y.1))), (8, (AV.p (PV.int IntKind.i64 y.2.1))), (10, (AV.p (PV.int IntKind.i64 y.2.2.1)))]), (mm 64 [(2, (Bk.cells true [(AV.p (PV.int IntKind.i64 y.2.2.2.1)), (AV.p (PV.int IntKind.i64 y.2.2.2.2.1)), (AV.p (PV.int IntKind.i64 y.2.2.2.2.2.1)), (AV.p (PV.int IntKind.i64 y.2.2.2.2.2.2.1)), (AV.p (PV.int IntKind.i64 y.2.2.2.2.2.2.2.1)), (AV.p (PV.int IntKind.i64 y.2.2.2.2.2.2.2.2.1)), (AV.p (PV.list y.2.2.2.2.2.2.2.2.2.1 y.2.2.2.2.2.2.2.2.2.2.1))])), (3, (Bk.pcs true [(PV.int IntKind.i64 y.2.2.2.2.2.2.2.2.2.2.2.1), (PV.int IntKind.i64 y.2.2.2.2.2.2.2.2.2.2.2.2)]))])⟩)
def Iglidepathlaw03_ScanHeads_1000012a (q : Ext × S) : Bool × Int × Int × Int × Int × Int × Int × Int × Int × Nat × List PV × Int × Int := ((pP_bool0 (pA_p (avT q.2 7))), (pP_int1 (pA_p (avT q.2 8))), (pP_int1 (pA_p (avT q.2 10))), (pP_int1 (pA_p (hdA (pB_cells1 (avM q.2 2))))), (pP_int1 (pA_p (hdA (List.tail (pB_cells1 (avM q.2 2)))))), (pP_int1 (pA_p (hdA (List.tail (List.tail (pB_cells1 (avM q.2 2))))))), (pP_int1 (pA_p (hdA (List.tail (List.tail (List.tail (pB_cells1 (avM q.2 2)))))))), (pP_int1 (pA_p (hdA (List.tail (List.tail (List.tail (List.tail (pB_cells1 (avM q.2 2))))))))), (pP_int1 (pA_p (hdA (List.tail (List.tail (List.tail (List.tail (List.tail (pB_cells1 (avM q.2 2)))))))))), (pP_list0 (pA_p (hdA (List.tail (List.tail (List.tail (List.tail (List.tail (List.tail (pB_cells1 (avM q.2 2))))))))))), (pP_list1 (pA_p (hdA (List.tail (List.tail (List.tail (List.tail (List.tail (List.tail (pB_cells1 (avM q.2 2))))))))))), (pP_int1 (hdP (pB_pcs1 (avM q.2 3)))), (pP_int1 (hdP (List.tail (pB_pcs1 (avM q.2 3))))))
abbrev Yglidepathlaw03_ScanHeads_1000012 : Type := Bool × Int × Int × Int × Int × Int × Int × Int × Int × Nat × List PV × Int × Int
def XLglidepathlaw03_ScanHeads_1000012 : XL Yglidepathlaw03_ScanHeads_1000012 := .one Xglidepathlaw03_ScanHeads_1000012a
def Iglidepathlaw03_ScanHeads_1000012 (q : Ext × S) : Yglidepathlaw03_ScanHeads_1000012 := (Iglidepathlaw03_ScanHeads_1000012a q)
theorem XIglidepathlaw03_ScanHeads_1000012a (y : Bool × Int × Int × Int × Int × Int × Int × Int × Int × Nat × List PV × Int × Int) : Iglidepathlaw03_ScanHeads_1000012 (xe (Xglidepathlaw03_ScanHeads_1000012a y)) = y := rfl
theorem XIglidepathlaw03_ScanHeads_1000012 (y : Yglidepathlaw03_ScanHeads_1000012) : Iglidepathlaw03_ScanHeads_1000012 (xe (XLglidepathlaw03_ScanHeads_1000012.fn y)) = y := XIglidepathlaw03_ScanHeads_1000012a y
noncomputable abbrev Lglidepathlaw03_ScanHeads_1000012 : Q → Option Yglidepathlaw03_ScanHeads_1000012 := lpO env a6.body 1000012 XLglidepathlaw03_ScanHeads_1000012
noncomputable abbrev Rglidepathlaw03_ScanHeads_1000012 : Q → Option (Ext × S) := lpR env a6.body 1000012
theorem Lglidepathlaw03_ScanHeads_1000012a_of {s : Q} {y : Bool × Int × Int × Int × Int × Int × Int × Int × Int × Nat × List PV × Int × Int} (h : Rglidepathlaw03_ScanHeads_1000012 s = exO (Xglidepathlaw03_ScanHeads_1000012a y)) : Lglidepathlaw03_ScanHeads_1000012 s = some y := lpO_of Iglidepathlaw03_ScanHeads_1000012 XIglidepathlaw03_ScanHeads_1000012 (y := y) h
theorem Uglidepathlaw03_ScanHeads : uniq ((blocksOf a6.body).map (·.1)) = true := by kernel_rfl
def Bglidepathlaw03_ScanHeads_1000019a (F : FnT) (N : Q → Option (Ext × S)) (E : Ext × Q → Option (Ext × S)) (L1000019 : Q → Option Yglidepathlaw03_ScanHeads_1000019) (L1000012 : Q → Option Yglidepathlaw03_ScanHeads_1000012) (i0 : Int) (i1 : Int) (b2 : Bool) (i3 : Int) (i4 : Int) (i5 : Int) (i6 : Int) (i7 : Int) (i8 : Int) (i9 : Int) (i10 : Int) (i11 : Int) (n12 : Nat) (c13 : List PV) (i14 : Int) (i15 : Int) : Option (Ext × S) :=
  bif (i1 != i5) then
    E (Xglidepathlaw03_ScanHeads_1000019a ())
  else bif (i0 != i4) then
    E (Xglidepathlaw03_ScanHeads_1000019a ())
  else E (Xglidepathlaw03_ScanHeads_1000019b (b2, i3, i5, i6, i7, i8, i9, i10, i11, n12, c13, i14, i15))
theorem Bglidepathlaw03_ScanHeads_1000019a_eq (F : FnT) (N : Q → Option (Ext × S)) (E : Ext × Q → Option (Ext × S)) (L1000019 : Q → Option Yglidepathlaw03_ScanHeads_1000019) (L1000012 : Q → Option Yglidepathlaw03_ScanHeads_1000012) (i0 : Int) (i1 : Int) (b2 : Bool) (i3 : Int) (i4 : Int) (i5 : Int) (i6 : Int) (i7 : Int) (i8 : Int) (i9 : Int) (i10 : Int) (i11 : Int) (n12 : Nat) (c13 : List PV) (i14 : Int) (i15 : Int) : semN (callP F Eglidepathlaw03_ScanHeads 20) s6 (loopT [⟨1000019, Yglidepathlaw03_ScanHeads_1000019, L1000019, XLglidepathlaw03_ScanHeads_1000019⟩, ⟨1000012, Yglidepathlaw03_ScanHeads_1000012, L1000012, XLglidepathlaw03_ScanHeads_1000012⟩]) 400 (blkIn a6.body 1000019) E (Tglidepathlaw03_ScanHeads_1000019a i0 i1 b2 i3 i4 i5 i6 i7 i8 i9 i10 i11 n12 c13 i14 i15) = Bglidepathlaw03_ScanHeads_1000019a F N E L1000019 L1000012 i0 i1 b2 i3 i4 i5 i6 i7 i8 i9 i10 i11 n12 c13 i14 i15 := by kernel_rfl
theorem Rglidepathlaw03_ScanHeads_1000019a_of  (i0 : Int) (i1 : Int) (b2 : Bool) (i3 : Int) (i4 : Int) (i5 : Int) (i6 : Int) (i7 : Int) (i8 : Int) (i9 : Int) (i10 : Int) (i11 : Int) (n12 : Nat) (c13 : List PV) (i14 : Int) (i15 : Int) {r : Ext × S} (h : Bglidepathlaw03_ScanHeads_1000019a (Fn env) Rglidepathlaw03_ScanHeads_1000019 exO Lglidepathlaw03_ScanHeads_1000019 Lglidepathlaw03_ScanHeads_1000012 i0 i1 b2 i3 i4 i5 i6 i7 i8 i9 i10 i11 n12 c13 i14 i15 = some r) : Rglidepathlaw03_ScanHeads_1000019 (Tglidepathlaw03_ScanHeads_1000019a i0 i1 b2 i3 i4 i5 i6 i7 i8 i9 i10 i11 n12 c13 i14 i15) = some r :=
  nd_of Eglidepathlaw03_ScanHeads_ok (by kernel_rfl) (lo_cons (lpO_ok Uglidepathlaw03_ScanHeads) (lo_cons (lpO_ok Uglidepathlaw03_ScanHeads) lo_nil)) (by kernel_rfl) ((Bglidepathlaw03_ScanHeads_1000019a_eq _ Rglidepathlaw03_ScanHeads_1000019 _ _ _ _ _ _ _ _ _ _ _ _ _ _ _ _ _ _ _).trans h)
def Bglidepathlaw03_ScanHeads_1000012a (F : FnT) (N : Q → Option (Ext × S)) (E : Ext × Q → Option (Ext × S)) (L1000019 : Q → Option Yglidepathlaw03_ScanHeads_1000019) (L1000012 : Q → Option Yglidepathlaw03_ScanHeads_1000012) (b0 : Bool) (i1 : Int) (i2 : Int) (i3 : Int) (i4 : Int) (i5 : Int) (i6 : Int) (i7 : Int) (i8 : Int) (n9 : Nat) (c10 : List PV) (i11 : Int) (i12 : Int) : Option (Ext × S) :=
  bif (i2 == (0 : Int)) then
    bindO (F 32 (RSh.one (CK.int IntKind.i64)) [(PV.agg [(PV.int IntKind.i64 i11), (PV.int IntKind.i64 i12)])]) fun (y0 : (Int)) =>
    E (Xglidepathlaw03_ScanHeads_1000012a (b0, i1, y0, i3, i4, i5, i6, i7, i8, n9, c10, i11, i12))
  else E (Xglidepathlaw03_ScanHeads_1000012a (b0, i1, i2, i3, i4, i5, i6, i7, i8, n9, c10, i11, i12))
theorem Bglidepathlaw03_ScanHeads_1000012a_eq (F : FnT) (N : Q → Option (Ext × S)) (E : Ext × Q → Option (Ext × S)) (L1000019 : Q → Option Yglidepathlaw03_ScanHeads_1000019) (L1000012 : Q → Option Yglidepathlaw03_ScanHeads_1000012) (b0 : Bool) (i1 : Int) (i2 : Int) (i3 : Int) (i4 : Int) (i5 : Int) (i6 : Int) (i7 : Int) (i8 : Int) (n9 : Nat) (c10 : List PV) (i11 : Int) (i12 : Int) : semN (callP F Eglidepathlaw03_ScanHeads 20) s6 (loopT [⟨1000019, Yglidepathlaw03_ScanHeads_1000019, L1000019, XLglidepathlaw03_ScanHeads_1000019⟩, ⟨1000012, Yglidepathlaw03_ScanHeads_1000012, L1000012, XLglidepathlaw03_ScanHeads_1000012⟩]) 400 (blkIn a6.body 1000012) E (Tglidepathlaw03_ScanHeads_1000012a b0 i1 i2 i3 i4 i5 i6 i7 i8 n9 c10 i11 i12) = Bglidepathlaw03_ScanHeads_1000012a F N E L1000019 L1000012 b0 i1 i2 i3 i4 i5 i6 i7 i8 n9 c10 i11 i12 := by kernel_rfl
theorem Rglidepathlaw03_ScanHeads_1000012a_of  (b0 : Bool) (i1 : Int) (i2 : Int) (i3 : Int) (i4 : Int) (i5 : Int) (i6 : Int) (i7 : Int) (i8 : Int) (n9 : Nat) (c10 : List PV) (i11 : Int) (i12 : Int) {r : Ext × S} (h : Bglidepathlaw03_ScanHeads_1000012a (Fn env) Rglidepathlaw03_ScanHeads_1000012 exO Lglidepathlaw03_ScanHeads_1000019 Lglidepathlaw03_ScanHeads_1000012 b0 i1 i2 i3 i4 i5 i6 i7 i8 n9 c10 i11 i12 = some r) : Rglidepathlaw03_ScanHeads_1000012 (Tglidepathlaw03_ScanHeads_1000012a b0 i1 i2 i3 i4 i5 i6 i7 i8 n9 c10 i11 i12) = some r :=
  nd_of Eglidepathlaw03_ScanHeads_ok (by kernel_rfl) (lo_cons (lpO_ok Uglidepathlaw03_ScanHeads) (lo_cons (lpO_ok Uglidepathlaw03_ScanHeads) lo_nil)) (by kernel_rfl) ((Bglidepathlaw03_ScanHeads_1000012a_eq _ Rglidepathlaw03_ScanHeads_1000012 _ _ _ _ _ _ _ _ _ _ _ _ _ _ _ _).trans h)
def tglidepathlaw03_ScanHeads (F : FnT) (L1000019 : Q → Option Yglidepathlaw03_ScanHeads_1000019) (L1000012 : Q → Option Yglidepathlaw03_ScanHeads_1000012) (p0_0 : Int) (p0_1 : Int) (p0_2 : Int) (p0_3 : Int) (p0_4 : Int) (p0_5 : Int) (p0_6n : Nat) (p0_6c : List PV) (p1_0 : Int) (p1_1 : Int) : Option (Bool) :=
  bindO (F 12 (RSh.one CK.bool) []) fun (y0 : (Bool)) =>
  bif y0 then
    bindO (F 27 (RSh.one CK.bool) [(PV.agg [(PV.int IntKind.i64 p0_0), (PV.int IntKind.i64 p0_1), (PV.int IntKind.i64 p0_2), (PV.int IntKind.i64 p0_3), (PV.int IntKind.i64 p0_4), (PV.int IntKind.i64 p0_5), (PV.list p0_6n p0_6c)])]) fun (y1 : (Bool)) =>
    bif y1 then
      bindO (F 29 (RSh.agg [(CK.int IntKind.i64), (CK.int IntKind.i64), (CK.int IntKind.i64), (CK.int IntKind.i64), (CK.int IntKind.i64), (CK.int IntKind.i64), CK.list]) [(PV.agg [(PV.int IntKind.i64 p0_0), (PV.int IntKind.i64 p0_1), (PV.int IntKind.i64 p0_2), (PV.int IntKind.i64 p0_3), (PV.int IntKind.i64 p0_4), (PV.int IntKind.i64 p0_5), (PV.list p0_6n p0_6c)])]) fun (y2 : ((Int) × ((Int) × ((Int) × ((Int) × ((Int) × ((Int) × ((Nat) × (List PV))))))))) =>
      bindO (F 28 (RSh.tup [(Prod.mk false [(CK.int IntKind.i64)]), (Prod.mk false [(CK.int IntKind.i64)])]) [(PV.agg [(PV.int IntKind.i64 y2.1), (PV.int IntKind.i64 y2.2.1), (PV.int IntKind.i64 y2.2.2.1), (PV.int IntKind.i64 y2.2.2.2.1), (PV.int IntKind.i64 y2.2.2.2.2.1), (PV.int IntKind.i64 y2.2.2.2.2.2.1), (PV.list y2.2.2.2.2.2.2.1 y2.2.2.2.2.2.2.2)])]) fun (y3 : ((Int) × (Int))) =>
      bindO (F 29 (RSh.agg [(CK.int IntKind.i64), (CK.int IntKind.i64), (CK.int IntKind.i64), (CK.int IntKind.i64), (CK.int IntKind.i64), (CK.int IntKind.i64), CK.list]) [(PV.agg [(PV.int IntKind.i64 p0_0), (PV.int IntKind.i64 p0_1), (PV.int IntKind.i64 p0_2), (PV.int IntKind.i64 p0_3), (PV.int IntKind.i64 p0_4), (PV.int IntKind.i64 p0_5), (PV.list p0_6n p0_6c)])]) fun (y4 : ((Int) × ((Int) × ((Int) × ((Int) × ((Int) × ((Int) × ((Nat) × (List PV))))))))) =>
      bindO (F 30 (RSh.tup [(Prod.mk false [CK.bool]), (Prod.mk false [(CK.int IntKind.i64)])]) [(PV.agg [(PV.int IntKind.i64 y4.1), (PV.int IntKind.i64 y4.2.1), (PV.int IntKind.i64 y4.2.2.1), (PV.int IntKind.i64 y4.2.2.2.1), (PV.int IntKind.i64 y4.2.2.2.2.1), (PV.int IntKind.i64 y4.2.2.2.2.2.1), (PV.list y4.2.2.2.2.2.2.1 y4.2.2.2.2.2.2.2)]), (PV.agg [(PV.int IntKind.i64 p1_0), (PV.int IntKind.i64 p1_1)])]) fun (y5 : ((Bool) × (Int))) =>
      bif y5.1 then
        bindO (F 31 (RSh.tup [(Prod.mk false [(CK.int IntKind.i64)]), (Prod.mk false [(CK.int IntKind.i64)])]) [(PV.agg [(PV.int IntKind.i64 p0_0), (PV.int IntKind.i64 p0_1), (PV.int IntKind.i64 p0_2), (PV.int IntKind.i64 p0_3), (PV.int IntKind.i64 p0_4), (PV.int IntKind.i64 p0_5), (PV.list p0_6n p0_6c)])]) fun (y6 : ((Int) × (Int))) =>
        bindO (L1000019 (Tglidepathlaw03_ScanHeads_1000019a y3.1 y3.2 true y5.2 y6.1 y6.2 p0_0 p0_1 p0_2 p0_3 p0_4 p0_5 p0_6n p0_6c p1_0 p1_1)) fun z =>
        Sum.elim (fun y7 =>
          some false) (fun y8 =>
          bindO (L1000012 (Tglidepathlaw03_ScanHeads_1000012a y8.1 y8.2.1 y8.2.2.1 y8.2.2.2.1 y8.2.2.2.2.1 y8.2.2.2.2.2.1 y8.2.2.2.2.2.2.1 y8.2.2.2.2.2.2.2.1 y8.2.2.2.2.2.2.2.2.1 y8.2.2.2.2.2.2.2.2.2.1 y8.2.2.2.2.2.2.2.2.2.2.1 y8.2.2.2.2.2.2.2.2.2.2.2.1 y8.2.2.2.2.2.2.2.2.2.2.2.2)) fun y9 =>
          bif (y9.2.2.1 != (0 : Int)) then
            bif (y9.2.1 == y9.2.2.1) then
              bif y9.1 then
                some false
              else some true
            else some false
          else bif (y9.2.1 == (0 : Int)) then
            bif y9.1 then
              bindO (F 33 (RSh.one CK.bool) [(PV.agg [(PV.int IntKind.i64 y9.2.2.2.1), (PV.int IntKind.i64 y9.2.2.2.2.1), (PV.int IntKind.i64 y9.2.2.2.2.2.1), (PV.int IntKind.i64 y9.2.2.2.2.2.2.1), (PV.int IntKind.i64 y9.2.2.2.2.2.2.2.1), (PV.int IntKind.i64 y9.2.2.2.2.2.2.2.2.1), (PV.list y9.2.2.2.2.2.2.2.2.2.1 y9.2.2.2.2.2.2.2.2.2.2.1)]), (PV.agg [(PV.int IntKind.i64 y9.2.2.2.2.2.2.2.2.2.2.2.1), (PV.int IntKind.i64 y9.2.2.2.2.2.2.2.2.2.2.2.2)])]) fun (y10 : (Bool)) =>
              bif y10 then
                some true
              else some false
            else bindO (F 33 (RSh.one CK.bool) [(PV.agg [(PV.int IntKind.i64 y9.2.2.2.1), (PV.int IntKind.i64 y9.2.2.2.2.1), (PV.int IntKind.i64 y9.2.2.2.2.2.1), (PV.int IntKind.i64 y9.2.2.2.2.2.2.1), (PV.int IntKind.i64 y9.2.2.2.2.2.2.2.1), (PV.int IntKind.i64 y9.2.2.2.2.2.2.2.2.1), (PV.list y9.2.2.2.2.2.2.2.2.2.1 y9.2.2.2.2.2.2.2.2.2.2.1)]), (PV.agg [(PV.int IntKind.i64 y9.2.2.2.2.2.2.2.2.2.2.2.1), (PV.int IntKind.i64 y9.2.2.2.2.2.2.2.2.2.2.2.2)])]) fun (y11 : (Bool)) =>
            bif y11 then
              some false
            else some true
          else some false) z
      else bindO (F 31 (RSh.tup [(Prod.mk false [(CK.int IntKind.i64)]), (Prod.mk false [(CK.int IntKind.i64)])]) [(PV.agg [(PV.int IntKind.i64 p0_0), (PV.int IntKind.i64 p0_1), (PV.int IntKind.i64 p0_2), (PV.int IntKind.i64 p0_3), (PV.int IntKind.i64 p0_4), (PV.int IntKind.i64 p0_5), (PV.list p0_6n p0_6c)])]) fun (y12 : ((Int) × (Int))) =>
      bindO (L1000019 (Tglidepathlaw03_ScanHeads_1000019a y3.1 y3.2 false y5.2 y12.1 y12.2 p0_0 p0_1 p0_2 p0_3 p0_4 p0_5 p0_6n p0_6c p1_0 p1_1)) fun z =>
      Sum.elim (fun y13 =>
        some false) (fun y14 =>
        bindO (L1000012 (Tglidepathlaw03_ScanHeads_1000012a y14.1 y14.2.1 y14.2.2.1 y14.2.2.2.1 y14.2.2.2.2.1 y14.2.2.2.2.2.1 y14.2.2.2.2.2.2.1 y14.2.2.2.2.2.2.2.1 y14.2.2.2.2.2.2.2.2.1 y14.2.2.2.2.2.2.2.2.2.1 y14.2.2.2.2.2.2.2.2.2.2.1 y14.2.2.2.2.2.2.2.2.2.2.2.1 y14.2.2.2.2.2.2.2.2.2.2.2.2)) fun y15 =>
        bif (y15.2.2.1 != (0 : Int)) then
          bif (y15.2.1 == y15.2.2.1) then
            bif y15.1 then
              some false
            else some true
          else some false
        else bif (y15.2.1 == (0 : Int)) then
          bif y15.1 then
            bindO (F 33 (RSh.one CK.bool) [(PV.agg [(PV.int IntKind.i64 y15.2.2.2.1), (PV.int IntKind.i64 y15.2.2.2.2.1), (PV.int IntKind.i64 y15.2.2.2.2.2.1), (PV.int IntKind.i64 y15.2.2.2.2.2.2.1), (PV.int IntKind.i64 y15.2.2.2.2.2.2.2.1), (PV.int IntKind.i64 y15.2.2.2.2.2.2.2.2.1), (PV.list y15.2.2.2.2.2.2.2.2.2.1 y15.2.2.2.2.2.2.2.2.2.2.1)]), (PV.agg [(PV.int IntKind.i64 y15.2.2.2.2.2.2.2.2.2.2.2.1), (PV.int IntKind.i64 y15.2.2.2.2.2.2.2.2.2.2.2.2)])]) fun (y16 : (Bool)) =>
            bif y16 then
              some true
            else some false
          else bindO (F 33 (RSh.one CK.bool) [(PV.agg [(PV.int IntKind.i64 y15.2.2.2.1), (PV.int IntKind.i64 y15.2.2.2.2.1), (PV.int IntKind.i64 y15.2.2.2.2.2.1), (PV.int IntKind.i64 y15.2.2.2.2.2.2.1), (PV.int IntKind.i64 y15.2.2.2.2.2.2.2.1), (PV.int IntKind.i64 y15.2.2.2.2.2.2.2.2.1), (PV.list y15.2.2.2.2.2.2.2.2.2.1 y15.2.2.2.2.2.2.2.2.2.2.1)]), (PV.agg [(PV.int IntKind.i64 y15.2.2.2.2.2.2.2.2.2.2.2.1), (PV.int IntKind.i64 y15.2.2.2.2.2.2.2.2.2.2.2.2)])]) fun (y17 : (Bool)) =>
          bif y17 then
            some false
          else some true
        else some false) z
    else some true
  else some false
theorem tglidepathlaw03_ScanHeads_eq (F : FnT) (L1000019 : Q → Option Yglidepathlaw03_ScanHeads_1000019) (L1000012 : Q → Option Yglidepathlaw03_ScanHeads_1000012) (p0_0 : Int) (p0_1 : Int) (p0_2 : Int) (p0_3 : Int) (p0_4 : Int) (p0_5 : Int) (p0_6n : Nat) (p0_6c : List PV) (p1_0 : Int) (p1_1 : Int) : semF (callP F Eglidepathlaw03_ScanHeads 20) s6 (loopT [⟨1000019, Yglidepathlaw03_ScanHeads_1000019, L1000019, XLglidepathlaw03_ScanHeads_1000019⟩, ⟨1000012, Yglidepathlaw03_ScanHeads_1000012, L1000012, XLglidepathlaw03_ScanHeads_1000012⟩]) 400 a6 [PV.agg [PV.int IntKind.i64 p0_0, PV.int IntKind.i64 p0_1, PV.int IntKind.i64 p0_2, PV.int IntKind.i64 p0_3, PV.int IntKind.i64 p0_4, PV.int IntKind.i64 p0_5, PV.list p0_6n p0_6c], PV.agg [PV.int IntKind.i64 p1_0, PV.int IntKind.i64 p1_1]] (fun rv => decR (RSh.one CK.bool) rv.pv) = tglidepathlaw03_ScanHeads F L1000019 L1000012 p0_0 p0_1 p0_2 p0_3 p0_4 p0_5 p0_6n p0_6c p1_0 p1_1 := by kernel_rfl
noncomputable abbrev Fglidepathlaw03_ScanHeads (args : List PV) := Fn env 6 (RSh.one CK.bool) args
theorem Fglidepathlaw03_ScanHeads_of  (p0_0 : Int) (p0_1 : Int) (p0_2 : Int) (p0_3 : Int) (p0_4 : Int) (p0_5 : Int) (p0_6n : Nat) (p0_6c : List PV) (p1_0 : Int) (p1_1 : Int) {res : (Bool)} (h : tglidepathlaw03_ScanHeads (Fn env) Lglidepathlaw03_ScanHeads_1000019 Lglidepathlaw03_ScanHeads_1000012 p0_0 p0_1 p0_2 p0_3 p0_4 p0_5 p0_6n p0_6c p1_0 p1_1 = some res) : Fglidepathlaw03_ScanHeads [PV.agg [PV.int IntKind.i64 p0_0, PV.int IntKind.i64 p0_1, PV.int IntKind.i64 p0_2, PV.int IntKind.i64 p0_3, PV.int IntKind.i64 p0_4, PV.int IntKind.i64 p0_5, PV.list p0_6n p0_6c], PV.agg [PV.int IntKind.i64 p1_0, PV.int IntKind.i64 p1_1]] = some res :=
  fn_of Eglidepathlaw03_ScanHeads_ok rfl rfl (lo_cons (lpO_ok Uglidepathlaw03_ScanHeads) (lo_cons (lpO_ok Uglidepathlaw03_ScanHeads) lo_nil)) ((tglidepathlaw03_ScanHeads_eq _ _ _ _ _ _ _ _ _ _ _ _ _).trans h)

end Gv
