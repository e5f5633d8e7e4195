/- What the functions do, round by round: M22. -/
import Derived.Test.YtkbbilbpejbmiaaM21
namespace Gv
open Go
set_option maxRecDepth 100000

/-! ### LwLineRates -/

def ELwLineRates : List Entry := [.out 5 (RSh.one CK.bool), .out 6 (RSh.one CK.bool), .out 7 (RSh.one (CK.int IntKind.i64)), .out 8 (RSh.one CK.bool), .out 9 (RSh.one (CK.int IntKind.i64)), .out 11 (RSh.agg [CK.list]), .out 10 (RSh.tup [(Prod.mk true [(CK.int IntKind.i64), (CK.int IntKind.i64)]), (Prod.mk false [(CK.int IntKind.i64)])]), .out 12 (RSh.tup [(Prod.mk false [(CK.int IntKind.i64)]), (Prod.mk false [(CK.int IntKind.i64)])]), .out 13 (RSh.one (CK.int IntKind.i64)), .out 14 (RSh.one (CK.int IntKind.i64)), .out 15 (RSh.agg [(CK.int IntKind.i64), (CK.int IntKind.i64)]), .out 16 (RSh.one (CK.int IntKind.i64))]
theorem ELwLineRates_ok : ∀ e ∈ ELwLineRates, EntOK env e := (ent_out (ent_out (ent_out (ent_out (ent_out (ent_out (ent_out (ent_out (ent_out (ent_out (ent_out (ent_out ent_nil))))))))))))
def TLwLineRates_1000041a (i0 : Int) (n1 : Nat) (c2 : List PV) (i3 : Int) (i4 : Int) : Q := ⟨(tm 131 [(1, (AV.p (PV.int IntKind.i64 i0))), (3, (AV.loc 3 0)), (5, (AV.loc 5 0))]), (mm 131 [(3, (Bk.cells true [(AV.p (PV.list n1 c2))])), (5, (Bk.pcs true [(PV.int IntKind.i64 i3), (PV.int IntKind.i64 i4)]))])⟩
def XLwLineRates_1000041a (y : Unit) : Ext × Q := (Ext.ret, ⟨(tm 131 [(6, (AV.p (PV.bool true)))]), (mm 131 [])⟩)
def ILwLineRates_1000041a (q : Ext × S) : Unit := ()
def XLwLineRates_1000041b (y : Int × Nat × List PV × Int × Int) : Ext × Q := (Ext.normal, ⟨(tm 131 [(1, (AV.p (PV.int IntKind.i64 y.1))), (3, (AV.loc 3 0)), (5, (AV.loc 5 0))]), (mm 131 [(3, (Bk.cells true [(AV.p (PV.list y.2.1 y.2.2.1))])), (5, (Bk.pcs true [(PV.int IntKind.i64 y.2.2.2.1), (PV.int IntKind.i64 y.2.2.2.2)]))])⟩)
def ILwLineRates_1000041b (q : Ext × S) : Int × Nat × List PV × Int × Int := ((pP_int1 (pA_p (avT q.2 1))), (pP_list0 (pA_p (hdA (pB_cells1 (avM q.2 3))))), (pP_list1 (pA_p (hdA (pB_cells1 (avM q.2 3))))), (pP_int1 (hdP (pB_pcs1 (avM q.2 5)))), (pP_int1 (hdP (List.tail (pB_pcs1 (avM q.2 5))))))
abbrev YLwLineRates_1000041 : Type := (Unit) ⊕ ((Int × Nat × List PV × Int × Int))
def XLLwLineRates_1000041 : XL YLwLineRates_1000041 := .more XLwLineRates_1000041a (.one XLwLineRates_1000041b)
def ILwLineRates_1000041 (q : Ext × S) : YLwLineRates_1000041 := bif (cE q.1 == 2) then (Sum.inl (ILwLineRates_1000041a q)) else (Sum.inr (ILwLineRates_1000041b q))
theorem XILwLineRates_1000041a (y : Unit) : ILwLineRates_1000041 (xe (XLwLineRates_1000041a y)) = (Sum.inl y) := rfl
theorem XILwLineRates_1000041b (y : Int × Nat × List PV × Int × Int) : ILwLineRates_1000041 (xe (XLwLineRates_1000041b y)) = (Sum.inr y) := rfl
theorem XILwLineRates_1000041 (y : YLwLineRates_1000041) : ILwLineRates_1000041 (xe (XLLwLineRates_1000041.fn y)) = y := (match y with | .inl y => XILwLineRates_1000041a y | .inr y => XILwLineRates_1000041b y)
noncomputable abbrev LLwLineRates_1000041 : Q → Option YLwLineRates_1000041 := lpO env a3.body 1000041 XLLwLineRates_1000041
noncomputable abbrev RLwLineRates_1000041 : Q → Option (Ext × S) := lpR env a3.body 1000041
theorem LLwLineRates_1000041a_of {s : Q} {y : Unit} (h : RLwLineRates_1000041 s = exO (XLwLineRates_1000041a y)) : LLwLineRates_1000041 s = some (Sum.inl y) := lpO_of ILwLineRates_1000041 XILwLineRates_1000041 (y := (Sum.inl y)) h
theorem LLwLineRates_1000041b_of {s : Q} {y : Int × Nat × List PV × Int × Int} (h : RLwLineRates_1000041 s = exO (XLwLineRates_1000041b y)) : LLwLineRates_1000041 s = some (Sum.inr y) := lpO_of ILwLineRates_1000041 XILwLineRates_1000041 (y := (Sum.inr y)) h
def TLwLineRates_1000028a (i0 : Int) (i1 : Int) (i2 : Int) (i3 : Int) (i4 : Int) (n5 : Nat) (c6 : List PV) (i7 : Int) (i8 : Int) (i9 : Int) (i10 : Int) : Q := ⟨(tm 131 [(1, (AV.p (PV.int IntKind.i64 i0))), (3, (AV.loc 3 0)), (5, (AV.loc 5 0)), (7, (AV.loc 7 0)), (8, (AV.p (PV.int IntKind.i64 i1))), (9, (AV.p (PV.int IntKind.i64 i2))), (10, (AV.p (PV.int IntKind.i64 i3))), (11, (AV.p (PV.int IntKind.i64 i4)))]), (mm 131 [(3, (Bk.cells true [(AV.p (PV.list n5 c6))])), (5, (Bk.pcs true [(PV.int IntKind.i64 i7), (PV.int IntKind.i64 i8)])), (7, (Bk.pcs true [(PV.int IntKind.i64 i9), (PV.int IntKind.i64 i10)]))])⟩
def XLwLineRates_1000028a (y : Int × Int × Int × Int × Int × Nat × List PV × Int × Int × Int × Int) : Ext × Q := (Ext.normal, ⟨(tm 131 [(1, (AV.p (PV.int IntKind.i64 y.1))), (3, (AV.loc 3 0)), (5, (AV.loc 5 0)), (7, (AV.loc 7 0)), (8, (AV.p (PV.int IntKind.i64 y.2.1))), (9, (AV.p (PV.int IntKind.i64 y.2.2.1))), (10, (AV.p (PV.int IntKind.i64 y.2.2.2.1))), (11, (AV.p (PV.int IntKind.i64 y.2.2.2.2.1)))]), (mm 131 [(3, (Bk.cells true [(AV.p (PV.list y.2.2.2.2.2.1 y.2.2.2.2.2.2.1))])), (5, (Bk.pcs true [(PV.int IntKind.i64 y.2.2.2.2.2.2.2.1), (PV.int IntKind.i64 y.2.2.2.2.2.2.2.2.1)])), (7, (Bk.pcs true [(PV.int IntKind.i64 y.2.2.2.2.2.2.2.2.2.1), (PV.int IntKind.i64 y.2.2.2.2.2.2.2.2.2.2)]))])⟩)
def ILwLineRates_1000028a (q : Ext × S) : Int × Int × Int × Int × Int × Nat × List PV × Int × Int × Int × Int := ((pP_int1 (pA_p (avT q.2 1))), (pP_int1 (pA_p (avT q.2 8))), (pP_int1 (pA_p (avT q.2 9))), (pP_int1 (pA_p (avT q.2 10))), (pP_int1 (pA_p (avT q.2 11))), (pP_list0 (pA_p (hdA (pB_cells1 (avM q.2 3))))), (pP_list1 (pA_p (hdA (pB_cells1 (avM q.2 3))))), (pP_int1 (hdP (pB_pcs1 (avM q.2 5)))), (pP_int1 (hdP (List.tail (pB_pcs1 (avM q.2 5))))), (pP_int1 (hdP (pB_pcs1 (avM q.2 7)))), (pP_int1 (hdP (List.tail (pB_pcs1 (avM q.2 7))))))
abbrev YLwLineRates_1000028 : Type := Int × Int × Int × Int × Int × Nat × List PV × Int × Int × Int × Int
def XLLwLineRates_1000028 : XL YLwLineRates_1000028 := .one XLwLineRates_1000028a
def ILwLineRates_1000028 (q : Ext × S) : YLwLineRates_1000028 := (ILwLineRates_1000028a q)
theorem XILwLineRates_1000028a (y : Int × Int × Int × Int × Int × Nat × List PV × Int × Int × Int × Int) : ILwLineRates_1000028 (xe (XLwLineRates_1000028a y)) = y := rfl
theorem XILwLineRates_1000028 (y : YLwLineRates_1000028) : ILwLineRates_1000028 (xe (XLLwLineRates_1000028.fn y)) = y := XILwLineRates_1000028a y
noncomputable abbrev LLwLineRates_1000028 : Q → Option YLwLineRates_1000028 := lpO env a3.body 1000028 XLLwLineRates_1000028
noncomputable abbrev RLwLineRates_1000028 : Q → Option (Ext × S) := lpR env a3.body 1000028
theorem LLwLineRates_1000028a_of {s : Q} {y : Int × Int × Int × Int × Int × Nat × List PV × Int × Int × Int × Int} (h : RLwLineRates_1000028 s = exO (XLwLineRates_1000028a y)) : LLwLineRates_1000028 s = some y := lpO_of ILwLineRates_1000028 XILwLineRates_1000028 (y := y) h
def TLwLineRates_1000017a (i0 : Int) (i1 : Int) (i2 : Int) (i3 : Int) (n4 : Nat) (c5 : List PV) (i6 : Int) (i7 : Int) (i8 : Int) (i9 : Int) : Q := ⟨(tm 131 [(1, (AV.p (PV.int IntKind.i64 i0))), (3, (AV.loc 3 0)), (5, (AV.loc 5 0)), (7, (AV.loc 7 0)), (8, (AV.p (PV.int IntKind.i64 i1))), (9, (AV.p (PV.int IntKind.i64 i2))), (10, (AV.p (PV.int IntKind.i64 i3)))]), (mm 131 [(3, (Bk.cells true [(AV.p (PV.list n4 c5))])), (5, (Bk.pcs true [(PV.int IntKind.i64 i6), (PV.int IntKind.i64 i7)])), (7, (Bk.pcs true [(PV.int IntKind.i64 i8), (PV.int IntKind.i64 i9)]))])⟩
def XLwLineRates_1000017a (y : Unit) : Ext × Q := (Ext.ret, ⟨(tm 131 [(6, (AV.p (PV.bool false)))]), (mm 131 [])⟩)
def ILwLineRates_1000017a (q : Ext × S) : Unit := ()
def XLwLineRates_1000017b (y : Int × Int × Int × Nat × List PV × Int × Int) : Ext × Q := (Ext.normal, ⟨(tm 131 [(1, (AV.p (PV.int IntKind.i64 y.1))), (3, (AV.loc 3 0)), (5, (AV.loc 5 0)), (9, (AV.p (PV.int IntKind.i64 y.2.1))), (10, (AV.p (PV.int IntKind.i64 y.2.2.1)))]), (mm 131 [(3, (Bk.cells true [(AV.p (PV.list y.2.2.2.1 y.2.2.2.2.1))])), (5, (Bk.pcs true [(PV.int IntKind.i64 y.2.2.2.2.2.1), (PV.int IntKind.i64 y.2.2.2.2.2.2)]))])⟩)
def ILwLineRates_1000017b (q : Ext × S) : Int × Int × Int × Nat × List PV × Int × Int := ((pP_int1 (pA_p (avT q.2 1))), (pP_int1 (pA_p (avT q.2 9))), (pP_int1 (pA_p (avT q.2 10))), (pP_list0 (pA_p (hdA (pB_cells1 (avM q.2 3))))), (pP_list1 (pA_p (hdA (pB_cells1 (avM q.2 3))))), (pP_int1 (hdP (pB_pcs1 (avM q.2 5)))), (pP_int1 (hdP (List.tail (pB_pcs1 (avM q.2 5))))))
abbrev YLwLineRates_1000017 : Type := (Unit) ⊕ ((Int × Int × Int × Nat × List PV × Int × Int))
def XLLwLineRates_1000017 : XL YLwLineRates_1000017 := .more XLwLineRates_1000017a (.one XLwLineRates_1000017b)
def ILwLineRates_1000017 (q : Ext × S) : YLwLineRates_1000017 := bif (cE q.1 == 2) then (Sum.inl (ILwLineRates_1000017a q)) else (Sum.inr (ILwLineRates_1000017b q))
theorem XILwLineRates_1000017a (y : Unit) : ILwLineRates_1000017 (xe (XLwLineRates_1000017a y)) = (Sum.inl y) := rfl
theorem XILwLineRates_1000017b (y : Int × Int × Int × Nat × List PV × Int × Int) : ILwLineRates_1000017 (xe (XLwLineRates_1000017b y)) = (Sum.inr y) := rfl
theorem XILwLineRates_1000017 (y : YLwLineRates_1000017) : ILwLineRates_1000017 (xe (XLLwLineRates_1000017.fn y)) = y := (match y with | .inl y => XILwLineRates_1000017a y | .inr y => XILwLineRates_1000017b y)
noncomputable abbrev LLwLineRates_1000017 : Q → Option YLwLineRates_1000017 := lpO env a3.body 1000017 XLLwLineRates_1000017
noncomputable abbrev RLwLineRates_1000017 : Q → Option (Ext × S) := lpR env a3.body 1000017
theorem LLwLineRates_1000017a_of {s : Q} {y : Unit} (h : RLwLineRates_1000017 s = exO (XLwLineRates_1000017a y)) : LLwLineRates_1000017 s = some (Sum.inl y) := lpO_of ILwLineRates_1000017 XILwLineRates_1000017 (y := (Sum.inl y)) h
theorem LLwLineRates_1000017b_of {s : Q} {y : Int × Int × Int × Nat × List PV × Int × Int} (h : RLwLineRates_1000017 s = exO (XLwLineRates_1000017b y)) : LLwLineRates_1000017 s = some (Sum.inr y) := lpO_of ILwLineRates_1000017 XILwLineRates_1000017 (y := (Sum.inr y)) h
theorem ULwLineRates : uniq ((blocksOf a3.body).map (·.1)) = true := by kernel_rfl
def BLwLineRates_1000041a (F : FnT) (N : Q → Option (Ext × S)) (E : Ext × Q → Option (Ext × S)) (L1000041 : Q → Option YLwLineRates_1000041) (L1000028 : Q → Option YLwLineRates_1000028) (L1000017 : Q → Option YLwLineRates_1000017) (i0 : Int) (n1 : Nat) (c2 : List PV) (i3 : Int) (i4 : Int) : Option (Ext × S) :=
  bindO (F 6 (RSh.one CK.bool) [(PV.list n1 c2)]) fun (y0 : (Bool)) =>
  bif y0 then
    bindO (F 7 (RSh.one (CK.int IntKind.i64)) [(PV.agg [(PV.list n1 c2)])]) fun (y1 : (Int)) =>
    bif (y1 == (0 : Int)) then
      bindO (F 8 (RSh.one CK.bool) [(PV.int IntKind.i64 i0), (PV.int IntKind.i64 (1 : Int)), (PV.int IntKind.i64 (16 : Int))]) fun (y2 : (Bool)) =>
      bif y2 then
        bindO (F 9 (RSh.one (CK.int IntKind.i64)) [(PV.agg [(PV.list n1 c2)]), (PV.int IntKind.i64 i0)]) fun (y3 : (Int)) =>
        bindO (F 8 (RSh.one CK.bool) [(PV.int IntKind.i64 y3), (PV.int IntKind.i64 (513 : Int)), (PV.int IntKind.i64 (4096 : Int))]) fun (y4 : (Bool)) =>
        bif y4 then
          E (XLwLineRates_1000041a ())
        else E (XLwLineRates_1000041b (i0, n1, c2, i3, i4))
      else E (XLwLineRates_1000041b (i0, n1, c2, i3, i4))
    else E (XLwLineRates_1000041b (i0, n1, c2, i3, i4))
  else E (XLwLineRates_1000041a ())
theorem BLwLineRates_1000041a_eq (F : FnT) (N : Q → Option (Ext × S)) (E : Ext × Q → Option (Ext × S)) (L1000041 : Q → Option YLwLineRates_1000041) (L1000028 : Q → Option YLwLineRates_1000028) (L1000017 : Q → Option YLwLineRates_1000017) (i0 : Int) (n1 : Nat) (c2 : List PV) (i3 : Int) (i4 : Int) : semN (callP F ELwLineRates 20) s3 (loopT [⟨1000041, YLwLineRates_1000041, L1000041, XLLwLineRates_1000041⟩, ⟨1000028, YLwLineRates_1000028, L1000028, XLLwLineRates_1000028⟩, ⟨1000017, YLwLineRates_1000017, L1000017, XLLwLineRates_1000017⟩]) 400 (blkIn a3.body 1000041) E (TLwLineRates_1000041a i0 n1 c2 i3 i4) = BLwLineRates_1000041a F N E L1000041 L1000028 L1000017 i0 n1 c2 i3 i4 := by kernel_rfl
theorem RLwLineRates_1000041a_of  (i0 : Int) (n1 : Nat) (c2 : List PV) (i3 : Int) (i4 : Int) {r : Ext × S} (h : BLwLineRates_1000041a (Fn env) RLwLineRates_1000041 exO LLwLineRates_1000041 LLwLineRates_1000028 LLwLineRates_1000017 i0 n1 c2 i3 i4 = some r) : RLwLineRates_1000041 (TLwLineRates_1000041a i0 n1 c2 i3 i4) = some r :=
  nd_of ELwLineRates_ok (by kernel_rfl) (lo_cons (lpO_ok ULwLineRates) (lo_cons (lpO_ok ULwLineRates) (lo_cons (lpO_ok ULwLineRates) lo_nil))) (by kernel_rfl) ((BLwLineRates_1000041a_eq _ RLwLineRates_1000041 _ _ _ _ _ _ _ _ _).trans h)
def BLwLineRates_1000028a (F : FnT) (N : Q → Option (Ext × S)) (E : Ext × Q → Option (Ext × S)) (L1000041 : Q → Option YLwLineRates_1000041) (L1000028 : Q → Option YLwLineRates_1000028) (L1000017 : Q → Option YLwLineRates_1000017) (i0 : Int) (i1 : Int) (i2 : Int) (i3 : Int) (i4 : Int) (n5 : Nat) (c6 : List PV) (i7 : Int) (i8 : Int) (i9 : Int) (i10 : Int) : Option (Ext × S) :=
  bif (i4 == (0 : Int)) then
    bindO (F 13 (RSh.one (CK.int IntKind.i64)) [(PV.agg [(PV.list n5 c6)]), (PV.int IntKind.i64 i0)]) fun (y0 : (Int)) =>
    E (XLwLineRates_1000028a (i0, i1, i2, i3, y0, n5, c6, i7, i8, i9, i10))
  else E (XLwLineRates_1000028a (i0, i1, i2, i3, i4, n5, c6, i7, i8, i9, i10))
theorem BLwLineRates_1000028a_eq (F : FnT) (N : Q → Option (Ext × S)) (E : Ext × Q → Option (Ext × S)) (L1000041 : Q → Option YLwLineRates_1000041) (L1000028 : Q → Option YLwLineRates_1000028) (L1000017 : Q → Option YLwLineRates_1000017) (i0 : Int) (i1 : Int) (i2 : Int) (i3 : Int) (i4 : Int) (n5 : Nat) (c6 : List PV) (i7 : Int) (i8 : Int) (i9 : Int) (i10 : Int) : semN (callP F ELwLineRates 20) s3 (loopT [⟨1000041, YLwLineRates_1000041, L1000041, XLLwLineRates_1000041⟩, ⟨1000028, YLwLineRates_1000028, L1000028, XLLwLineRates_1000028⟩, ⟨1000017, YLwLineRates_1000017, L1000017, XLLwLineRates_1000017⟩]) 400 (blkIn a3.body 1000028) E (TLwLineRates_1000028a i0 i1 i2 i3 i4 n5 c6 i7 i8 i9 i10) = BLwLineRates_1000028a F N E L1000041 L1000028 L1000017 i0 i1 i2 i3 i4 n5 c6 i7 i8 i9 i10 := by kernel_rfl
theorem RLwLineRates_1000028a_of  (i0 : Int) (i1 : Int) (i2 : Int) (i3 : Int) (i4 : Int) (n5 : Nat) (c6 : List PV) (i7 : Int) (i8 : Int) (i9 : Int) (i10 : Int) {r : Ext × S} (h : BLwLineRates_1000028a (Fn env) RLwLineRates_1000028 exO LLwLineRates_1000041 LLwLineRates_1000028 LLwLineRates_1000017 i0 i1 i2 i3 i4 n5 c6 i7 i8 i9 i10 = some r) : RLwLineRates_1000028 (TLwLineRates_1000028a i0 i1 i2 i3 i4 n5 c6 i7 i8 i9 i10) = some r :=
  nd_of ELwLineRates_ok (by kernel_rfl) (lo_cons (lpO_ok ULwLineRates) (lo_cons (lpO_ok ULwLineRates) (lo_cons (lpO_ok ULwLineRates) lo_nil))) (by kernel_rfl) ((BLwLineRates_1000028a_eq _ RLwLineRates_1000028 _ _ _ _ _ _ _ _ _ _ _ _ _ _ _).trans h)
def BLwLineRates_1000017a (F : FnT) (N : Q → Option (Ext × S)) (E : Ext × Q → Option (Ext × S)) (L1000041 : Q → Option YLwLineRates_1000041) (L1000028 : Q → Option YLwLineRates_1000028) (L1000017 : Q → Option YLwLineRates_1000017) (i0 : Int) (i1 : Int) (i2 : Int) (i3 : Int) (n4 : Nat) (c5 : List PV) (i6 : Int) (i7 : Int) (i8 : Int) (i9 : Int) : Option (Ext × S) :=
  bindO (F 14 (RSh.one (CK.int IntKind.i64)) [(PV.int IntKind.i64 i6)]) fun (y0 : (Int)) =>
  bif (y0 != (0 : Int)) then
    bif (i1 != y0) then
      E (XLwLineRates_1000017a ())
    else bif (!((i8 == (0 : Int)) && ((i9 == (0 : Int)) && true))) then
      E (XLwLineRates_1000017a ())
    else bif (y0 == (0 : Int)) then
      bif (i1 != (0 : Int)) then
        E (XLwLineRates_1000017a ())
      else bindO (F 15 (RSh.agg [(CK.int IntKind.i64), (CK.int IntKind.i64)]) [(PV.agg [(PV.list n4 c5)]), (PV.int IntKind.i64 i0), (PV.int IntKind.i64 i6)]) fun (y1 : ((Int) × (Int))) =>
      bif (!((i8 == y1.1) && ((i9 == y1.2) && true))) then
        E (XLwLineRates_1000017a ())
      else E (XLwLineRates_1000017b (i0, i2, i3, n4, c5, i6, i7))
    else E (XLwLineRates_1000017b (i0, i2, i3, n4, c5, i6, i7))
  else bif (y0 == (0 : Int)) then
    bif (i1 != (0 : Int)) then
      E (XLwLineRates_1000017a ())
    else bindO (F 15 (RSh.agg [(CK.int IntKind.i64), (CK.int IntKind.i64)]) [(PV.agg [(PV.list n4 c5)]), (PV.int IntKind.i64 i0), (PV.int IntKind.i64 i6)]) fun (y2 : ((Int) × (Int))) =>
    bif (!((i8 == y2.1) && ((i9 == y2.2) && true))) then
      E (XLwLineRates_1000017a ())
    else E (XLwLineRates_1000017b (i0, i2, i3, n4, c5, i6, i7))
  else E (XLwLineRates_1000017b (i0, i2, i3, n4, c5, i6, i7))
theorem BLwLineRates_1000017a_eq (F : FnT) (N : Q → Option (Ext × S)) (E : Ext × Q → Option (Ext × S)) (L1000041 : Q → Option YLwLineRates_1000041) (L1000028 : Q → Option YLwLineRates_1000028) (L1000017 : Q → Option YLwLineRates_1000017) (i0 : Int) (i1 : Int) (i2 : Int) (i3 : Int) (n4 : Nat) (c5 : List PV) (i6 : Int) (i7 : Int) (i8 : Int) (i9 : Int) : semN (callP F ELwLineRates 20) s3 (loopT [⟨1000041, YLwLineRates_1000041, L1000041, XLLwLineRates_1000041⟩, ⟨1000028, YLwLineRates_1000028, L1000028, XLLwLineRates_1000028⟩, ⟨1000017, YLwLineRates_1000017, L1000017, XLLwLineRates_1000017⟩]) 400 (blkIn a3.body 1000017) E (TLwLineRates_1000017a i0 i1 i2 i3 n4 c5 i6 i7 i8 i9) = BLwLineRates_1000017a F N E L1000041 L1000028 L1000017 i0 i1 i2 i3 n4 c5 i6 i7 i8 i9 := by kernel_rfl
theorem RLwLineRates_1000017a_of  (i0 : Int) (i1 : Int) (i2 : Int) (i3 : Int) (n4 : Nat) (c5 : List PV) (i6 : Int) (i7 : Int) (i8 : Int) (i9 : Int) {r : Ext × S} (h : BLwLineRates_1000017a (Fn env) RLwLineRates_1000017 exO LLwLineRates_1000041 LLwLineRates_1000028 LLwLineRates_1000017 i0 i1 i2 i3 n4 c5 i6 i7 i8 i9 = some r) : RLwLineRates_1000017 (TLwLineRates_1000017a i0 i1 i2 i3 n4 c5 i6 i7 i8 i9) = some r :=
  nd_of ELwLineRates_ok (by kernel_rfl) (lo_cons (lpO_ok ULwLineRates) (lo_cons (lpO_ok ULwLineRates) (lo_cons (lpO_ok ULwLineRates) lo_nil))) (by kernel_rfl) ((BLwLineRates_1000017a_eq _ RLwLineRates_1000017 _ _ _ _ _ _ _ _ _ _ _ _ _ _).trans h)
def tLwLineRates (F : FnT) (L1000041 : Q → Option YLwLineRates_1000041) (L1000028 : Q → Option YLwLineRates_1000028) (L1000017 : Q → Option YLwLineRates_1000017) (p0_0n : Nat) (p0_0c : List PV) (p1 : Int) (p2_0 : Int) (p2_1 : Int) : Option (Bool) :=
  bindO (F 5 (RSh.one CK.bool) []) fun (y0 : (Bool)) =>
  bif y0 then
    bindO (L1000041 (TLwLineRates_1000041a p1 p0_0n p0_0c p2_0 p2_1)) fun z =>
    Sum.elim (fun y1 =>
      some true) (fun y2 =>
      bindO (F 11 (RSh.agg [CK.list]) [(PV.agg [(PV.list y2.2.1 y2.2.2.1)])]) fun (y3 : ((Nat) × (List PV))) =>
      bindO (F 10 (RSh.tup [(Prod.mk true [(CK.int IntKind.i64), (CK.int IntKind.i64)]), (Prod.mk false [(CK.int IntKind.i64)])]) [(PV.agg [(PV.list y3.1 y3.2)]), (PV.int IntKind.i64 y2.1), (PV.int IntKind.i64 y2.2.2.2.1)]) fun (y4 : ((Int) × ((Int) × (Int)))) =>
      bindO (F 11 (RSh.agg [CK.list]) [(PV.agg [(PV.list y2.2.1 y2.2.2.1)])]) fun (y5 : ((Nat) × (List PV))) =>
      bindO (F 12 (RSh.tup [(Prod.mk false [(CK.int IntKind.i64)]), (Prod.mk false [(CK.int IntKind.i64)])]) [(PV.agg [(PV.list y5.1 y5.2)]), (PV.int IntKind.i64 y2.1), (PV.int IntKind.i64 y2.2.2.2.2)]) fun (y6 : ((Int) × (Int))) =>
      bindO (F 7 (RSh.one (CK.int IntKind.i64)) [(PV.agg [(PV.list y2.2.1 y2.2.2.1)])]) fun (y7 : (Int)) =>
      bindO (L1000028 (TLwLineRates_1000028a y2.1 y4.2.2 y6.1 y6.2 y7 y2.2.1 y2.2.2.1 y2.2.2.2.1 y2.2.2.2.2 y4.1 y4.2.1)) fun y8 =>
      bif (y8.2.2.2.2.1 != (0 : Int)) then
        bif (y8.2.1 == y8.2.2.2.2.1) then
          bif (y8.2.2.2.1 == y8.2.2.2.2.1) then
            bif ((y8.2.2.2.2.2.2.2.2.2.1 == (0 : Int)) && ((y8.2.2.2.2.2.2.2.2.2.2 == (0 : Int)) && true)) then
              bif (y8.2.2.1 == (0 : Int)) then
                some true
              else some false
            else some false
          else some false
        else some false
      else bindO (L1000017 (TLwLineRates_1000017a y8.1 y8.2.1 y8.2.2.1 y8.2.2.2.1 y8.2.2.2.2.2.1 y8.2.2.2.2.2.2.1 y8.2.2.2.2.2.2.2.1 y8.2.2.2.2.2.2.2.2.1 y8.2.2.2.2.2.2.2.2.2.1 y8.2.2.2.2.2.2.2.2.2.2)) fun z =>
      Sum.elim (fun y9 =>
        some false) (fun y10 =>
        bindO (F 8 (RSh.one CK.bool) [(PV.int IntKind.i64 y10.2.2.2.2.2.2), (PV.int IntKind.i64 (0 : Int)), (PV.int IntKind.i64 (1000 : Int))]) fun (y11 : (Bool)) =>
        bif y11 then
          bif (y10.2.2.1 == (0 : Int)) then
            bindO (F 16 (RSh.one (CK.int IntKind.i64)) [(PV.agg [(PV.list y10.2.2.2.1 y10.2.2.2.2.1)]), (PV.int IntKind.i64 y10.1), (PV.int IntKind.i64 y10.2.2.2.2.2.2)]) fun (y12 : (Int)) =>
            bif (y10.2.1 == y12) then
              some true
            else some false
          else some false
        else bif (y10.2.2.1 == (2 : Int)) then
          bif (y10.2.1 == (0 : Int)) then
            some true
          else some false
        else some false) z) z
  else some false
theorem tLwLineRates_eq (F : FnT) (L1000041 : Q → Option YLwLineRates_1000041) (L1000028 : Q → Option YLwLineRates_1000028) (L1000017 : Q → Option YLwLineRates_1000017) (p0_0n : Nat) (p0_0c : List PV) (p1 : Int) (p2_0 : Int) (p2_1 : Int) : semF (callP F ELwLineRates 20) s3 (loopT [⟨1000041, YLwLineRates_1000041, L1000041, XLLwLineRates_1000041⟩, ⟨1000028, YLwLineRates_1000028, L1000028, XLLwLineRates_1000028⟩, ⟨1000017, YLwLineRates_1000017, L1000017, XLLwLineRates_1000017⟩]) 400 a3 [PV.agg [PV.list p0_0n p0_0c], PV.int IntKind.i64 p1, PV.agg [PV.int IntKind.i64 p2_0, PV.int IntKind.i64 p2_1]] (fun rv => decR (RSh.one CK.bool) rv.pv) = tLwLineRates F L1000041 L1000028 L1000017 p0_0n p0_0c p1 p2_0 p2_1 := by kernel_rfl
noncomputable abbrev FLwLineRates (args : List PV) := Fn env 3 (RSh.one CK.bool) args
theorem FLwLineRates_of  (p0_0n : Nat) (p0_0c : List PV) (p1 : Int) (p2_0 : Int) (p2_1 : Int) {res : (Bool)} (h : tLwLineRates (Fn env) LLwLineRates_1000041 LLwLineRates_1000028 LLwLineRates_1000017 p0_0n p0_0c p1 p2_0 p2_1 = some res) : FLwLineRates [PV.agg [PV.list p0_0n p0_0c], PV.int IntKind.i64 p1, PV.agg [PV.int IntKind.i64 p2_0, PV.int IntKind.i64 p2_1]] = some res :=
  fn_of ELwLineRates_ok rfl rfl (lo_cons (lpO_ok ULwLineRates) (lo_cons (lpO_ok ULwLineRates) (lo_cons (lpO_ok ULwLineRates) lo_nil))) ((tLwLineRates_eq _ _ _ _ _ _ _ _ _).trans h)

end Gv
