/- What the functions do, round by round: M14. -/
import Derived.Test.YtdbnojfklmfniaaM12
import Derived.Test.YtdbnojfklmfniaaM13
namespace Gv
open Go
set_option maxRecDepth 100000

/-! ### LwLineCases -/

def ELwLineCases : List Entry := [.out 9 (RSh.one CK.bool), .out 22 (RSh.one CK.bool), .out 24 (RSh.agg [CK.list]), .out 23 (RSh.tup [(Prod.mk false [(CK.int IntKind.i64)]), (Prod.mk false [(CK.int IntKind.i64)])]), .out 26 (RSh.agg [CK.list, CK.list, (CK.int IntKind.i64), (CK.int IntKind.i64)]), .out 25 (RSh.one (CK.int IntKind.i64)), .out 27 (RSh.tup [(Prod.mk false [CK.list]), (Prod.mk false [(CK.int IntKind.i64)])]), .out 28 (RSh.tup [(Prod.mk false [(CK.int IntKind.i64)]), (Prod.mk false [(CK.int IntKind.i64)])]), .out 29 (RSh.one (CK.int IntKind.i64)), .out 30 (RSh.one (CK.int IntKind.i64)), .out 11 (RSh.one CK.bool), .out 32 (RSh.one CK.list), .out 31 (RSh.one CK.bool)]
theorem ELwLineCases_ok : ∀ e ∈ ELwLineCases, EntOK env e := (ent_out (ent_out (ent_out (ent_out (ent_out (ent_out (ent_out (ent_out (ent_out (ent_out (ent_out (ent_out (ent_out ent_nil)))))))))))))
def TLwLineCases_1000043a (i0 : Int) (n1 : Nat) (c2 : List PV) (n3 : Nat) (c4 : List PV) (i5 : Int) (i6 : Int) : Q := ⟨(tm 97 [(1, (AV.p (PV.int IntKind.i64 i0))), (2, (AV.loc 2 0))]), (mm 97 [(2, (Bk.cells true [(AV.p (PV.list n1 c2)), (AV.p (PV.list n3 c4)), (AV.p (PV.int IntKind.i64 i5)), (AV.p (PV.int IntKind.i64 i6))]))])⟩
def XLwLineCases_1000043a (y : Int × Nat × List PV × Nat × List PV × Int × Int) : Ext × Q := (Ext.normal, ⟨(tm 97 [(1, (AV.p (PV.int IntKind.i64 y.1))), (2, (AV.loc 2 0))]), (mm 97 [(2, (Bk.cells true [(AV.p (PV.list y.2.1 y.2.2.1)), (AV.p (PV.list y.2.2.2.1 y.2.2.2.2.1)), (AV.p (PV.int IntKind.i64 y.2.2.2.2.2.1)), (AV.p (PV.int IntKind.i64 y.2.2.2.2.2.2))]))])⟩)
def ILwLineCases_1000043a (q : Ext × S) : Int × Nat × List PV × Nat × List PV × Int × Int := ((pP_int1 (pA_p (avT q.2 1))), (pP_list0 (pA_p (hdA (pB_cells1 (avM q.2 2))))), (pP_list1 (pA_p (hdA (pB_cells1 (avM q.2 2))))), (pP_list0 (pA_p (hdA (List.tail (pB_cells1 (avM q.2 2)))))), (pP_list1 (pA_p (hdA (List.tail (pB_cells1 (avM q.2 2)))))), (pP_int1 (pA_p (hdA (List.tail (List.tail (pB_cells1 (avM q.2 2))))))), (pP_int1 (pA_p (hdA (List.tail (List.tail (List.tail (pB_cells1 (avM q.2 2)))))))))
def XLwLineCases_1000043b (_y : Unit) : Ext × Q := (Ext.ret, ⟨(tm 97 [(4, (AV.p (PV.bool true)))]), (mm 97 [])⟩)
def ILwLineCases_1000043b (_q : Ext × S) : Unit := ()
abbrev YLwLineCases_1000043 : Type := (Int × Nat × List PV × Nat × List PV × Int × Int) ⊕ ((Unit))
def XLLwLineCases_1000043 : XL YLwLineCases_1000043 := .more XLwLineCases_1000043a (.one XLwLineCases_1000043b)
def ILwLineCases_1000043 (q : Ext × S) : YLwLineCases_1000043 := bif (cE q.1 == 0) then (Sum.inl (ILwLineCases_1000043a q)) else (Sum.inr (ILwLineCases_1000043b q))
theorem XILwLineCases_1000043a (y : Int × Nat × List PV × Nat × List PV × Int × Int) : ILwLineCases_1000043 (xe (XLwLineCases_1000043a y)) = (Sum.inl y) := rfl
theorem XILwLineCases_1000043b (y : Unit) : ILwLineCases_1000043 (xe (XLwLineCases_1000043b y)) = (Sum.inr y) := rfl
theorem XILwLineCases_1000043 (y : YLwLineCases_1000043) : ILwLineCases_1000043 (xe (XLLwLineCases_1000043.fn y)) = y := (match y with | .inl y => XILwLineCases_1000043a y | .inr y => XILwLineCases_1000043b y)
noncomputable abbrev LLwLineCases_1000043 : Q → Option YLwLineCases_1000043 := lpO env a4.body 1000043 XLLwLineCases_1000043
noncomputable abbrev RLwLineCases_1000043 : Q → Option (Ext × S) := lpR env a4.body 1000043
theorem LLwLineCases_1000043a_of {s : Q} {y : Int × Nat × List PV × Nat × List PV × Int × Int} (h : RLwLineCases_1000043 s = exO (XLwLineCases_1000043a y)) : LLwLineCases_1000043 s = some (Sum.inl y) := lpO_of ILwLineCases_1000043 XILwLineCases_1000043 (y := (Sum.inl y)) h
theorem LLwLineCases_1000043b_of {s : Q} {y : Unit} (h : RLwLineCases_1000043 s = exO (XLwLineCases_1000043b y)) : LLwLineCases_1000043 s = some (Sum.inr y) := lpO_of ILwLineCases_1000043 XILwLineCases_1000043 (y := (Sum.inr y)) h
def TLwLineCases_1000028a (i0 : Int) (i1 : Int) (i2 : Int) (i3 : Int) (n4 : Nat) (c5 : List PV) (i6 : Int) (i7 : Int) (i8 : Int) (n9 : Nat) (c10 : List PV) (n11 : Nat) (c12 : List PV) (i13 : Int) (i14 : Int) : Q := ⟨(tm 97 [(1, (AV.p (PV.int IntKind.i64 i0))), (2, (AV.loc 2 0)), (5, (AV.p (PV.int IntKind.i64 i1))), (6, (AV.p (PV.int IntKind.i64 i2))), (7, (AV.p (PV.int IntKind.i64 i3))), (8, (AV.p (PV.list n4 c5))), (9, (AV.p (PV.int IntKind.i64 i6))), (10, (AV.p (PV.int IntKind.i64 i7))), (11, (AV.p (PV.int IntKind.i64 i8)))]), (mm 97 [(2, (Bk.cells true [(AV.p (PV.list n9 c10)), (AV.p (PV.list n11 c12)), (AV.p (PV.int IntKind.i64 i13)), (AV.p (PV.int IntKind.i64 i14))]))])⟩
def XLwLineCases_1000028a (_y : Unit) : Ext × Q := (Ext.ret, ⟨(tm 97 [(4, (AV.p (PV.bool false)))]), (mm 97 [])⟩)
def ILwLineCases_1000028a (_q : Ext × S) : Unit := ()
def XLwLineCases_1000028b (y : Int × Int × Nat × List PV × Int × Nat × List PV × Nat × List PV × Int × Int) : Ext × Q := (Ext.normal, ⟨(tm 97 [(1, (AV.p (PV.int IntKind.i64 y.1))), (2, (AV.loc 2 0)), (7, (AV.p (PV.int IntKind.i64 y.2.1))), (8, (AV.p (PV.list y.2.2.1 y.2.2.2.1))), (9, (AV.p (PV.int IntKind.i64 y.2.2.2.2.1)))]), (mm 97 [(2, (Bk.cells true [(AV.p (PV.list y.2.2.2.2.2.1 y.2.2.2.2.2.2.1)), (AV.p (PV.list y.2.2.2.2.2.2.2.1 y.2.2.2.2.2.2.2.2.1)), (AV.p (PV.int IntKind.i64 y.2.2.2.2.2.2.2.2.2.1)), (AV.p (PV.int IntKind.i64 y.2.2.2.2.2.2.2.2.2.2))]))])⟩)
def ILwLineCases_1000028b (q : Ext × S) : Int × Int × Nat × List PV × Int × Nat × List PV × Nat × List PV × Int × Int := ((pP_int1 (pA_p (avT q.2 1))), (pP_int1 (pA_p (avT q.2 7))), (pP_list0 (pA_p (avT q.2 8))), (pP_list1 (pA_p (avT q.2 8))), (pP_int1 (pA_p (avT q.2 9))), (pP_list0 (pA_p (hdA (pB_cells1 (avM q.2 2))))), (pP_list1 (pA_p (hdA (pB_cells1 (avM q.2 2))))), (pP_list0 (pA_p (hdA (List.tail (pB_cells1 (avM q.2 2)))))), (pP_list1 (pA_p (hdA (List.tail (pB_cells1 (avM q.2 2)))))), (pP_int1 (pA_p (hdA (List.tail (List.tail (pB_cells1 (avM q.2 2))))))), (pP_int1 (pA_p (hdA (List.tail (List.tail (List.tail (pB_cells1 (avM q.2 2)))))))))
abbrev YLwLineCases_1000028 : Type := (Unit) ⊕ ((Int × Int × Nat × List PV × Int × Nat × List PV × Nat × List PV × Int × Int))
def XLLwLineCases_1000028 : XL YLwLineCases_1000028 := .more XLwLineCases_1000028a (.one XLwLineCases_1000028b)
def ILwLineCases_1000028 (q : Ext × S) : YLwLineCases_1000028 := bif (cE q.1 == 2) then (Sum.inl (ILwLineCases_1000028a q)) else (Sum.inr (ILwLineCases_1000028b q))
theorem XILwLineCases_1000028a (y : Unit) : ILwLineCases_1000028 (xe (XLwLineCases_1000028a y)) = (Sum.inl y) := rfl
theorem XILwLineCases_1000028b (y : Int × Int × Nat × List PV × Int × Nat × List PV × Nat × List PV × Int × Int) : ILwLineCases_1000028 (xe (XLwLineCases_1000028b y)) = (Sum.inr y) := rfl
theorem XILwLineCases_1000028 (y : YLwLineCases_1000028) : ILwLineCases_1000028 (xe (XLLwLineCases_1000028.fn y)) = y := (match y with | .inl y => XILwLineCases_1000028a y | .inr y => XILwLineCases_1000028b y)
noncomputable abbrev LLwLineCases_1000028 : Q → Option YLwLineCases_1000028 := lpO env a4.body 1000028 XLLwLineCases_1000028
noncomputable abbrev RLwLineCases_1000028 : Q → Option (Ext × S) := lpR env a4.body 1000028
theorem LLwLineCases_1000028a_of {s : Q} {y : Unit} (h : RLwLineCases_1000028 s = exO (XLwLineCases_1000028a y)) : LLwLineCases_1000028 s = some (Sum.inl y) := lpO_of ILwLineCases_1000028 XILwLineCases_1000028 (y := (Sum.inl y)) h
theorem LLwLineCases_1000028b_of {s : Q} {y : Int × Int × Nat × List PV × Int × Nat × List PV × Nat × List PV × Int × Int} (h : RLwLineCases_1000028 s = exO (XLwLineCases_1000028b y)) : LLwLineCases_1000028 s = some (Sum.inr y) := lpO_of ILwLineCases_1000028 XILwLineCases_1000028 (y := (Sum.inr y)) h
def TLwLineCases_1000012a (i0 : Int) (n1 : Nat) (c2 : List PV) (i3 : Int) (i4 : Int) (n5 : Nat) (c6 : List PV) (n7 : Nat) (c8 : List PV) (i9 : Int) (i10 : Int) : Q := ⟨(tm 97 [(1, (AV.p (PV.int IntKind.i64 i0))), (2, (AV.loc 2 0)), (8, (AV.p (PV.list n1 c2))), (9, (AV.p (PV.int IntKind.i64 i3))), (11, (AV.p (PV.int IntKind.i64 i4)))]), (mm 97 [(2, (Bk.cells true [(AV.p (PV.list n5 c6)), (AV.p (PV.list n7 c8)), (AV.p (PV.int IntKind.i64 i9)), (AV.p (PV.int IntKind.i64 i10))]))])⟩
def XLwLineCases_1000012a (y : Int × Nat × List PV × Int × Int × Nat × List PV × Nat × List PV × Int × Int) : Ext × Q := (Ext.normal, ⟨(tm 97 [(1, (AV.p (PV.int IntKind.i64 y.1))), (2, (AV.loc 2 0)), (8, (AV.p (PV.list y.2.1 y.2.2.1))), (9, (AV.p (PV.int IntKind.i64 y.2.2.2.1))), (11, (AV.p (PV.int IntKind.i64 y.2.2.2.2.1)))]), (mm 97 [(2, (Bk.cells true [(AV.p (PV.list y.2.2.2.2.2.1 y.2.2.2.2.2.2.1)), (AV.p (PV.list y.2.2.2.2.2.2.2.1 y.2.2.2.2.2.2.2.2.1)), (AV.p (PV.int IntKind.i64 y.2.2.2.2.2.2.2.2.2.1)), (AV.p (PV.int IntKind.i64 y.2.2.2.2.2.2.2.2.2.2))]))])⟩)
def ILwLineCases_1000012a (q : Ext × S) : Int × Nat × List PV × Int × Int × Nat × List PV × Nat × List PV × Int × Int := ((pP_int1 (pA_p (avT q.2 1))), (pP_list0 (pA_p (avT q.2 8))), (pP_list1 (pA_p (avT q.2 8))), (pP_int1 (pA_p (avT q.2 9))), (pP_int1 (pA_p (avT q.2 11))), (pP_list0 (pA_p (hdA (pB_cells1 (avM q.2 2))))), (pP_list1 (pA_p (hdA (pB_cells1 (avM q.2 2))))), (pP_list0 (pA_p (hdA (List.tail (pB_cells1 (avM q.2 2)))))), (pP_list1 (pA_p (hdA (List.tail (pB_cells1 (avM q.2 2)))))), (pP_int1 (pA_p (hdA (List.tail (List.tail (pB_cells1 (avM q.2 2))))))), (pP_int1 (pA_p (hdA (List.tail (List.tail (List.tail (pB_cells1 (avM q.2 2)))))))))
abbrev YLwLineCases_1000012 : Type := Int × Nat × List PV × Int × Int × Nat × List PV × Nat × List PV × Int × Int
def XLLwLineCases_1000012 : XL YLwLineCases_1000012 := .one XLwLineCases_1000012a
def ILwLineCases_1000012 (q : Ext × S) : YLwLineCases_1000012 := (ILwLineCases_1000012a q)
theorem XILwLineCases_1000012a (y : Int × Nat × List PV × Int × Int × Nat × List PV × Nat × List PV × Int × Int) : ILwLineCases_1000012 (xe (XLwLineCases_1000012a y)) = y := rfl
theorem XILwLineCases_1000012 (y : YLwLineCases_1000012) : ILwLineCases_1000012 (xe (XLLwLineCases_1000012.fn y)) = y := XILwLineCases_1000012a y
noncomputable abbrev LLwLineCases_1000012 : Q → Option YLwLineCases_1000012 := lpO env a4.body 1000012 XLLwLineCases_1000012
noncomputable abbrev RLwLineCases_1000012 : Q → Option (Ext × S) := lpR env a4.body 1000012
theorem LLwLineCases_1000012a_of {s : Q} {y : Int × Nat × List PV × Int × Int × Nat × List PV × Nat × List PV × Int × Int} (h : RLwLineCases_1000012 s = exO (XLwLineCases_1000012a y)) : LLwLineCases_1000012 s = some y := lpO_of ILwLineCases_1000012 XILwLineCases_1000012 (y := y) h
theorem ULwLineCases : uniq ((blocksOf a4.body).map (·.1)) = true := by kernel_rfl
def BLwLineCases_1000043a (F : FnT) (_N : Q → Option (Ext × S)) (E : Ext × Q → Option (Ext × S)) (_L1000043 : Q → Option YLwLineCases_1000043) (_L1000028 : Q → Option YLwLineCases_1000028) (_L1000012 : Q → Option YLwLineCases_1000012) (i0 : Int) (n1 : Nat) (c2 : List PV) (n3 : Nat) (c4 : List PV) (i5 : Int) (i6 : Int) : Option (Ext × S) :=
  bindO (F 22 (RSh.one CK.bool) [(PV.list n1 c2)]) fun (y0 : (Bool)) =>
  bif y0 then
    bindO (F 22 (RSh.one CK.bool) [(PV.list n3 c4)]) fun (y1 : (Bool)) =>
    bif y1 then
      E (XLwLineCases_1000043a (i0, n1, c2, n3, c4, i5, i6))
    else E (XLwLineCases_1000043b ())
  else E (XLwLineCases_1000043b ())
theorem BLwLineCases_1000043a_eq (F : FnT) (N : Q → Option (Ext × S)) (E : Ext × Q → Option (Ext × S)) (L1000043 : Q → Option YLwLineCases_1000043) (L1000028 : Q → Option YLwLineCases_1000028) (L1000012 : Q → Option YLwLineCases_1000012) (i0 : Int) (n1 : Nat) (c2 : List PV) (n3 : Nat) (c4 : List PV) (i5 : Int) (i6 : Int) : semN (callP F ELwLineCases 20) s4 (loopT [⟨1000043, YLwLineCases_1000043, L1000043, XLLwLineCases_1000043⟩, ⟨1000028, YLwLineCases_1000028, L1000028, XLLwLineCases_1000028⟩, ⟨1000012, YLwLineCases_1000012, L1000012, XLLwLineCases_1000012⟩]) 400 (blkIn a4.body 1000043) E (TLwLineCases_1000043a i0 n1 c2 n3 c4 i5 i6) = BLwLineCases_1000043a F N E L1000043 L1000028 L1000012 i0 n1 c2 n3 c4 i5 i6 := by kernel_rfl
theorem RLwLineCases_1000043a_of  (i0 : Int) (n1 : Nat) (c2 : List PV) (n3 : Nat) (c4 : List PV) (i5 : Int) (i6 : Int) {r : Ext × S} (h : BLwLineCases_1000043a (Fn env) RLwLineCases_1000043 exO LLwLineCases_1000043 LLwLineCases_1000028 LLwLineCases_1000012 i0 n1 c2 n3 c4 i5 i6 = some r) : RLwLineCases_1000043 (TLwLineCases_1000043a i0 n1 c2 n3 c4 i5 i6) = some r :=
  nd_of ELwLineCases_ok (by kernel_rfl) (lo_cons (lpO_ok ULwLineCases) (lo_cons (lpO_ok ULwLineCases) (lo_cons (lpO_ok ULwLineCases) lo_nil))) (by kernel_rfl) ((BLwLineCases_1000043a_eq _ RLwLineCases_1000043 _ _ _ _ _ _ _ _ _ _ _).trans h)
def BLwLineCases_1000028a (_F : FnT) (_N : Q → Option (Ext × S)) (E : Ext × Q → Option (Ext × S)) (_L1000043 : Q → Option YLwLineCases_1000043) (_L1000028 : Q → Option YLwLineCases_1000028) (_L1000012 : Q → Option YLwLineCases_1000012) (i0 : Int) (i1 : Int) (i2 : Int) (i3 : Int) (n4 : Nat) (c5 : List PV) (i6 : Int) (i7 : Int) (i8 : Int) (n9 : Nat) (c10 : List PV) (n11 : Nat) (c12 : List PV) (i13 : Int) (i14 : Int) : Option (Ext × S) :=
  bif (i2 != i8) then
    E (XLwLineCases_1000028a ())
  else bif (i1 != i7) then
    E (XLwLineCases_1000028a ())
  else E (XLwLineCases_1000028b (i0, i3, n4, c5, i6, n9, c10, n11, c12, i13, i14))
theorem BLwLineCases_1000028a_eq (F : FnT) (N : Q → Option (Ext × S)) (E : Ext × Q → Option (Ext × S)) (L1000043 : Q → Option YLwLineCases_1000043) (L1000028 : Q → Option YLwLineCases_1000028) (L1000012 : Q → Option YLwLineCases_1000012) (i0 : Int) (i1 : Int) (i2 : Int) (i3 : Int) (n4 : Nat) (c5 : List PV) (i6 : Int) (i7 : Int) (i8 : Int) (n9 : Nat) (c10 : List PV) (n11 : Nat) (c12 : List PV) (i13 : Int) (i14 : Int) : semN (callP F ELwLineCases 20) s4 (loopT [⟨1000043, YLwLineCases_1000043, L1000043, XLLwLineCases_1000043⟩, ⟨1000028, YLwLineCases_1000028, L1000028, XLLwLineCases_1000028⟩, ⟨1000012, YLwLineCases_1000012, L1000012, XLLwLineCases_1000012⟩]) 400 (blkIn a4.body 1000028) E (TLwLineCases_1000028a i0 i1 i2 i3 n4 c5 i6 i7 i8 n9 c10 n11 c12 i13 i14) = BLwLineCases_1000028a F N E L1000043 L1000028 L1000012 i0 i1 i2 i3 n4 c5 i6 i7 i8 n9 c10 n11 c12 i13 i14 := by kernel_rfl
theorem RLwLineCases_1000028a_of  (i0 : Int) (i1 : Int) (i2 : Int) (i3 : Int) (n4 : Nat) (c5 : List PV) (i6 : Int) (i7 : Int) (i8 : Int) (n9 : Nat) (c10 : List PV) (n11 : Nat) (c12 : List PV) (i13 : Int) (i14 : Int) {r : Ext × S} (h : BLwLineCases_1000028a (Fn env) RLwLineCases_1000028 exO LLwLineCases_1000043 LLwLineCases_1000028 LLwLineCases_1000012 i0 i1 i2 i3 n4 c5 i6 i7 i8 n9 c10 n11 c12 i13 i14 = some r) : RLwLineCases_1000028 (TLwLineCases_1000028a i0 i1 i2 i3 n4 c5 i6 i7 i8 n9 c10 n11 c12 i13 i14) = some r :=
  nd_of ELwLineCases_ok (by kernel_rfl) (lo_cons (lpO_ok ULwLineCases) (lo_cons (lpO_ok ULwLineCases) (lo_cons (lpO_ok ULwLineCases) lo_nil))) (by kernel_rfl) ((BLwLineCases_1000028a_eq _ RLwLineCases_1000028 _ _ _ _ _ _ _ _ _ _ _ _ _ _ _ _ _ _ _).trans h)
def BLwLineCases_1000012a (F : FnT) (_N : Q → Option (Ext × S)) (E : Ext × Q → Option (Ext × S)) (_L1000043 : Q → Option YLwLineCases_1000043) (_L1000028 : Q → Option YLwLineCases_1000028) (_L1000012 : Q → Option YLwLineCases_1000012) (i0 : Int) (n1 : Nat) (c2 : List PV) (i3 : Int) (i4 : Int) (n5 : Nat) (c6 : List PV) (n7 : Nat) (c8 : List PV) (i9 : Int) (i10 : Int) : Option (Ext × S) :=
  bif (i4 == (0 : Int)) then
    bindO (F 30 (RSh.one (CK.int IntKind.i64)) [(PV.agg [(PV.list n7 c8)]), (PV.int IntKind.i64 (n5 : Int))]) fun (y0 : (Int)) =>
    bindO (F 11 (RSh.one CK.bool) [(PV.int IntKind.i64 i0), (PV.int IntKind.i64 (0 : Int)), (PV.int IntKind.i64 (w64 (y0 - (1 : Int))))]) fun (y1 : (Bool)) =>
    bif y1 then
      E (XLwLineCases_1000012a (i0, n1, c2, i3, i4, n5, c6, n7, c8, i9, i10))
    else E (XLwLineCases_1000012a (i0, n1, c2, i3, (6 : Int), n5, c6, n7, c8, i9, i10))
  else E (XLwLineCases_1000012a (i0, n1, c2, i3, i4, n5, c6, n7, c8, i9, i10))
theorem BLwLineCases_1000012a_eq (F : FnT) (N : Q → Option (Ext × S)) (E : Ext × Q → Option (Ext × S)) (L1000043 : Q → Option YLwLineCases_1000043) (L1000028 : Q → Option YLwLineCases_1000028) (L1000012 : Q → Option YLwLineCases_1000012) (i0 : Int) (n1 : Nat) (c2 : List PV) (i3 : Int) (i4 : Int) (n5 : Nat) (c6 : List PV) (n7 : Nat) (c8 : List PV) (i9 : Int) (i10 : Int) : semN (callP F ELwLineCases 20) s4 (loopT [⟨1000043, YLwLineCases_1000043, L1000043, XLLwLineCases_1000043⟩, ⟨1000028, YLwLineCases_1000028, L1000028, XLLwLineCases_1000028⟩, ⟨1000012, YLwLineCases_1000012, L1000012, XLLwLineCases_1000012⟩]) 400 (blkIn a4.body 1000012) E (TLwLineCases_1000012a i0 n1 c2 i3 i4 n5 c6 n7 c8 i9 i10) = BLwLineCases_1000012a F N E L1000043 L1000028 L1000012 i0 n1 c2 i3 i4 n5 c6 n7 c8 i9 i10 := by kernel_rfl
theorem RLwLineCases_1000012a_of  (i0 : Int) (n1 : Nat) (c2 : List PV) (i3 : Int) (i4 : Int) (n5 : Nat) (c6 : List PV) (n7 : Nat) (c8 : List PV) (i9 : Int) (i10 : Int) {r : Ext × S} (h : BLwLineCases_1000012a (Fn env) RLwLineCases_1000012 exO LLwLineCases_1000043 LLwLineCases_1000028 LLwLineCases_1000012 i0 n1 c2 i3 i4 n5 c6 n7 c8 i9 i10 = some r) : RLwLineCases_1000012 (TLwLineCases_1000012a i0 n1 c2 i3 i4 n5 c6 n7 c8 i9 i10) = some r :=
  nd_of ELwLineCases_ok (by kernel_rfl) (lo_cons (lpO_ok ULwLineCases) (lo_cons (lpO_ok ULwLineCases) (lo_cons (lpO_ok ULwLineCases) lo_nil))) (by kernel_rfl) ((BLwLineCases_1000012a_eq _ RLwLineCases_1000012 _ _ _ _ _ _ _ _ _ _ _ _ _ _ _).trans h)
def tLwLineCases (F : FnT) (L1000043 : Q → Option YLwLineCases_1000043) (L1000028 : Q → Option YLwLineCases_1000028) (L1000012 : Q → Option YLwLineCases_1000012) (p0_0n : Nat) (p0_0c : List PV) (p0_1n : Nat) (p0_1c : List PV) (p0_2 : Int) (p0_3 : Int) (p1 : Int) : Option (Bool) :=
  bindO (F 9 (RSh.one CK.bool) []) fun (y0 : (Bool)) =>
  bif y0 then
    bindO (L1000043 (TLwLineCases_1000043a p1 p0_0n p0_0c p0_1n p0_1c p0_2 p0_3)) fun z =>
    Sum.elim (fun y1 =>
      bindO (F 24 (RSh.agg [CK.list]) [(PV.agg [(PV.list y1.2.2.2.1 y1.2.2.2.2.1)])]) fun (y2 : ((Nat) × (List PV))) =>
      bindO (F 23 (RSh.tup [(Prod.mk false [(CK.int IntKind.i64)]), (Prod.mk false [(CK.int IntKind.i64)])]) [(PV.agg [(PV.list y2.1 y2.2)])]) fun (y3 : ((Int) × (Int))) =>
      bindO (F 26 (RSh.agg [CK.list, CK.list, (CK.int IntKind.i64), (CK.int IntKind.i64)]) [(PV.agg [(PV.list y1.2.1 y1.2.2.1), (PV.list y1.2.2.2.1 y1.2.2.2.2.1), (PV.int IntKind.i64 y1.2.2.2.2.2.1), (PV.int IntKind.i64 y1.2.2.2.2.2.2)])]) fun (y4 : (((Nat) × (List PV)) × (((Nat) × (List PV)) × ((Int) × (Int))))) =>
      bindO (F 25 (RSh.one (CK.int IntKind.i64)) [(PV.agg [(PV.list y4.1.1 y4.1.2), (PV.list y4.2.1.1 y4.2.1.2), (PV.int IntKind.i64 y4.2.2.1), (PV.int IntKind.i64 y4.2.2.2)])]) fun (y5 : (Int)) =>
      bindO (F 26 (RSh.agg [CK.list, CK.list, (CK.int IntKind.i64), (CK.int IntKind.i64)]) [(PV.agg [(PV.list y1.2.1 y1.2.2.1), (PV.list y1.2.2.2.1 y1.2.2.2.2.1), (PV.int IntKind.i64 y1.2.2.2.2.2.1), (PV.int IntKind.i64 y1.2.2.2.2.2.2)])]) fun (y6 : (((Nat) × (List PV)) × (((Nat) × (List PV)) × ((Int) × (Int))))) =>
      bindO (F 27 (RSh.tup [(Prod.mk false [CK.list]), (Prod.mk false [(CK.int IntKind.i64)])]) [(PV.agg [(PV.list y6.1.1 y6.1.2), (PV.list y6.2.1.1 y6.2.1.2), (PV.int IntKind.i64 y6.2.2.1), (PV.int IntKind.i64 y6.2.2.2)]), (PV.int IntKind.i64 y1.1)]) fun (y7 : (((Nat) × (List PV)) × (Int))) =>
      bindO (F 28 (RSh.tup [(Prod.mk false [(CK.int IntKind.i64)]), (Prod.mk false [(CK.int IntKind.i64)])]) [(PV.agg [(PV.list y1.2.2.2.1 y1.2.2.2.2.1)])]) fun (y8 : ((Int) × (Int))) =>
      bindO (L1000028 (TLwLineCases_1000028a y1.1 y3.1 y3.2 y5 y7.1.1 y7.1.2 y7.2 y8.1 y8.2 y1.2.1 y1.2.2.1 y1.2.2.2.1 y1.2.2.2.2.1 y1.2.2.2.2.2.1 y1.2.2.2.2.2.2)) fun z =>
      Sum.elim (fun _y9 =>
        some false) (fun y10 =>
        bindO (F 29 (RSh.one (CK.int IntKind.i64)) [(PV.agg [(PV.list y10.2.2.2.2.2.1 y10.2.2.2.2.2.2.1), (PV.list y10.2.2.2.2.2.2.2.1 y10.2.2.2.2.2.2.2.2.1), (PV.int IntKind.i64 y10.2.2.2.2.2.2.2.2.2.1), (PV.int IntKind.i64 y10.2.2.2.2.2.2.2.2.2.2)])]) fun (y11 : (Int)) =>
        bif (y10.2.1 != y11) then
          some false
        else bindO (L1000012 (TLwLineCases_1000012a y10.1 y10.2.2.1 y10.2.2.2.1 y10.2.2.2.2.1 y11 y10.2.2.2.2.2.1 y10.2.2.2.2.2.2.1 y10.2.2.2.2.2.2.2.1 y10.2.2.2.2.2.2.2.2.1 y10.2.2.2.2.2.2.2.2.2.1 y10.2.2.2.2.2.2.2.2.2.2)) fun y12 =>
        bif (y12.2.2.2.2.1 != (0 : Int)) then
          bif (y12.2.2.2.1 == y12.2.2.2.2.1) then
            bif ((y12.2.1 : Int) == (0 : Int)) then
              some true
            else some false
          else some false
        else bif (y12.2.2.2.1 == (0 : Int)) then
          bindO (F 32 (RSh.one CK.list) [(PV.list y12.2.2.2.2.2.1 y12.2.2.2.2.2.2.1), (PV.agg [(PV.list y12.2.2.2.2.2.2.2.1 y12.2.2.2.2.2.2.2.2.1)]), (PV.int IntKind.i64 y12.1)]) fun (y13 : ((Nat) × (List PV))) =>
          bindO (F 31 (RSh.one CK.bool) [(PV.list y12.2.1 y12.2.2.1), (PV.list y13.1 y13.2)]) fun (y14 : (Bool)) =>
          bif y14 then
            some true
          else some false
        else some false) z) (fun _y15 =>
      some true) z
  else some false
theorem tLwLineCases_eq (F : FnT) (L1000043 : Q → Option YLwLineCases_1000043) (L1000028 : Q → Option YLwLineCases_1000028) (L1000012 : Q → Option YLwLineCases_1000012) (p0_0n : Nat) (p0_0c : List PV) (p0_1n : Nat) (p0_1c : List PV) (p0_2 : Int) (p0_3 : Int) (p1 : Int) : semF (callP F ELwLineCases 20) s4 (loopT [⟨1000043, YLwLineCases_1000043, L1000043, XLLwLineCases_1000043⟩, ⟨1000028, YLwLineCases_1000028, L1000028, XLLwLineCases_1000028⟩, ⟨1000012, YLwLineCases_1000012, L1000012, XLLwLineCases_1000012⟩]) 400 a4 [PV.agg [PV.list p0_0n p0_0c, PV.list p0_1n p0_1c, PV.int IntKind.i64 p0_2, PV.int IntKind.i64 p0_3], PV.int IntKind.i64 p1] (fun rv => decR (RSh.one CK.bool) rv.pv) = tLwLineCases F L1000043 L1000028 L1000012 p0_0n p0_0c p0_1n p0_1c p0_2 p0_3 p1 := by kernel_rfl
noncomputable abbrev FLwLineCases (args : List PV) := Fn env 4 (RSh.one CK.bool) args
theorem FLwLineCases_of  (p0_0n : Nat) (p0_0c : List PV) (p0_1n : Nat) (p0_1c : List PV) (p0_2 : Int) (p0_3 : Int) (p1 : Int) {res : (Bool)} (h : tLwLineCases (Fn env) LLwLineCases_1000043 LLwLineCases_1000028 LLwLineCases_1000012 p0_0n p0_0c p0_1n p0_1c p0_2 p0_3 p1 = some res) : FLwLineCases [PV.agg [PV.list p0_0n p0_0c, PV.list p0_1n p0_1c, PV.int IntKind.i64 p0_2, PV.int IntKind.i64 p0_3], PV.int IntKind.i64 p1] = some res :=
  fn_of ELwLineCases_ok rfl rfl (lo_cons (lpO_ok ULwLineCases) (lo_cons (lpO_ok ULwLineCases) (lo_cons (lpO_ok ULwLineCases) lo_nil))) ((tLwLineCases_eq _ _ _ _ _ _ _ _ _ _ _).trans h)

end Gv
