/- What the functions do, round by round: P9. -/
import Derived.Test.YtggnifebabjoiaaGvEnv
namespace Gv
open Go
set_option maxRecDepth 100000
set_option maxHeartbeats 4000000
def Elaw9 : List Entry := [.out 13 (RSh.one CK.bool), .out 53 (RSh.one CK.bool), .out 48 (RSh.one (CK.int .i64)), .out 63 (RSh.one (CK.int .i64)), .out 61 (RSh.one CK.bool), .out 55 (RSh.one CK.list), .out 57 (RSh.tup [(Prod.mk false [CK.list]), (Prod.mk false [(CK.int .i64)])]), .out 56 (RSh.tup [(Prod.mk true [CK.bool, (CK.int .i64), (CK.int .i64), (CK.int .i64), (CK.int .i64)]), (Prod.mk false [(CK.int .i64)])]), .out 64 (RSh.one CK.bool), .out 18 (RSh.one (CK.int .i64)), .out 46 (RSh.tup [(Prod.mk true [CK.bool, (CK.int .i64), (CK.int .i64), (CK.int .i64), (CK.int .i64)]), (Prod.mk false [(CK.int .i64)])])]
theorem Elaw9_ok : ∀ e ∈ Elaw9, EntOK env e := (ent_out (ent_out (ent_out (ent_out (ent_out (ent_out (ent_out (ent_out (ent_out (ent_out (ent_out ent_nil)))))))))))
def Tlaw9_0a (n0 : Nat) (c1 : List PV) (i2 : Int) (n3 : Nat) (c4 : List PV) (i5 i6 i7 i8 i9 : Int) : Q := ⟨(tm 273 [(1, (AV.p (PV.list n0 c1))), (2, (AV.p (PV.int .i64 i2))), (3, (AV.loc 3 0)), (7, (AV.p (PV.list n3 c4))), (11, (AV.p (PV.int .i64 i5)))]), (mm 273 [(3, (Bk.pcs true [(PV.int .i64 i6), (PV.int .i64 i7), (PV.int .i64 i8), (PV.int .i64 i9)]))])⟩
def Xlaw9_0a (y : Nat × List PV × Int × Nat × List PV × Int × Int × Int × Int) : Ext × Q := (Ext.normal, ⟨(tm 273 [(1, (AV.p (PV.list y.1 y.2.1))), (2, (AV.p (PV.int .i64 y.2.2.1))), (3, (AV.loc 3 0)), (7, (AV.p (PV.list y.2.2.2.1 y.2.2.2.2.1)))]), (mm 273 [(3, (Bk.pcs true [(PV.int .i64 y.2.2.2.2.2.1), (PV.int .i64 y.2.2.2.2.2.2.1), (PV.int .i64 y.2.2.2.2.2.2.2.1), (PV.int .i64 y.2.2.2.2.2.2.2.2)]))])⟩)
def Ilaw9_0a (q : Ext × S) : Nat × List PV × Int × Nat × List PV × Int × Int × Int × Int := ((pP_list0 (pA_p (avT q.2 1))), (pP_list1 (pA_p (avT q.2 1))), (pP_int1 (pA_p (avT q.2 2))), (pP_list0 (pA_p (avT q.2 7))), (pP_list1 (pA_p (avT q.2 7))), (pP_int1 (hdP (pB_pcs1 (avM q.2 3)))), (pP_int1 (hdP (List.tail (pB_pcs1 (avM q.2 3))))), (pP_int1 (hdP (List.tail (List.tail (pB_pcs1 (avM q.2 3)))))), (pP_int1 (hdP (List.tail (List.tail (List.tail (pB_pcs1 (avM q.2 3))))))))
def Xlaw9_0b (y : Unit) : Ext × Q := (Ext.ret, ⟨(tm 273 [(6, (AV.p (PV.bool false)))]), (mm 273 [])⟩)
def Ilaw9_0b (q : Ext × S) : Unit := ()
abbrev Ylaw9_0 : Type := (Nat × List PV × Int × Nat × List PV × Int × Int × Int × Int) ⊕ ((Unit))
def XLlaw9_0 : XL Ylaw9_0 := .more Xlaw9_0a (.one Xlaw9_0b)
def Ilaw9_0 (q : Ext × S) : Ylaw9_0 := bif (cE q.1 == 0) then (Sum.inl (Ilaw9_0a q)) else (Sum.inr (Ilaw9_0b q))
theorem XIlaw9_0a (y : Nat × List PV × Int × Nat × List PV × Int × Int × Int × Int) : Ilaw9_0 (xe (Xlaw9_0a y)) = (Sum.inl y) := by kernel_rfl
theorem XIlaw9_0b (y : Unit) : Ilaw9_0 (xe (Xlaw9_0b y)) = (Sum.inr y) := by kernel_rfl
theorem XIlaw9_0 (y : Ylaw9_0) : Ilaw9_0 (xe (XLlaw9_0.fn y)) = y := (match y with | .inl y => XIlaw9_0a y | .inr y => XIlaw9_0b y)
noncomputable abbrev Llaw9_0 : Q → Option Ylaw9_0 := lpO env a9.body 0 XLlaw9_0
noncomputable abbrev Rlaw9_0 : Q → Option (Ext × S) := lpR env a9.body 0
def Tlaw9_2a (n0 : Nat) (c1 : List PV) (i2 : Int) (n3 : Nat) (c4 : List PV) (b5 b6 : Bool) (i7 i8 i9 i10 i11 : Int) : Q := ⟨(tm 273 [(1, (AV.p (PV.list n0 c1))), (2, (AV.p (PV.int .i64 i2))), (3, (AV.loc 3 0)), (7, (AV.p (PV.list n3 c4))), (12, (AV.p (PV.bool b5))), (13, (AV.p (PV.bool b6))), (14, (AV.p (PV.int .i64 i7)))]), (mm 273 [(3, (Bk.pcs true [(PV.int .i64 i8), (PV.int .i64 i9), (PV.int .i64 i10), (PV.int .i64 i11)]))])⟩
def Xlaw9_2a (y : Nat × List PV × Bool × Bool × Int × Int × Int × Int) : Ext × Q := (Ext.normal, ⟨(tm 273 [(7, (AV.p (PV.list y.1 y.2.1))), (12, (AV.p (PV.bool y.2.2.1))), (13, (AV.p (PV.bool y.2.2.2.1)))]), (mm 273 [(3, (Bk.pcs true [(PV.int .i64 y.2.2.2.2.1), (PV.int .i64 y.2.2.2.2.2.1), (PV.int .i64 y.2.2.2.2.2.2.1), (PV.int .i64 y.2.2.2.2.2.2.2)]))])⟩)
def Ilaw9_2a (q : Ext × S) : Nat × List PV × Bool × Bool × Int × Int × Int × Int := ((pP_list0 (pA_p (avT q.2 7))), (pP_list1 (pA_p (avT q.2 7))), (pP_bool0 (pA_p (avT q.2 12))), (pP_bool0 (pA_p (avT q.2 13))), (pP_int1 (hdP (pB_pcs1 (avM q.2 3)))), (pP_int1 (hdP (List.tail (pB_pcs1 (avM q.2 3))))), (pP_int1 (hdP (List.tail (List.tail (pB_pcs1 (avM q.2 3)))))), (pP_int1 (hdP (List.tail (List.tail (List.tail (pB_pcs1 (avM q.2 3))))))))
def Xlaw9_2b (y : Unit) : Ext × Q := (Ext.ret, ⟨(tm 273 [(6, (AV.p (PV.bool false)))]), (mm 273 [])⟩)
def Ilaw9_2b (q : Ext × S) : Unit := ()
abbrev Ylaw9_2 : Type := (Nat × List PV × Bool × Bool × Int × Int × Int × Int) ⊕ ((Unit))
def XLlaw9_2 : XL Ylaw9_2 := .more Xlaw9_2a (.one Xlaw9_2b)
def Ilaw9_2 (q : Ext × S) : Ylaw9_2 := bif (cE q.1 == 0) then (Sum.inl (Ilaw9_2a q)) else (Sum.inr (Ilaw9_2b q))
theorem XIlaw9_2a (y : Nat × List PV × Bool × Bool × Int × Int × Int × Int) : Ilaw9_2 (xe (Xlaw9_2a y)) = (Sum.inl y) := by kernel_rfl
theorem XIlaw9_2b (y : Unit) : Ilaw9_2 (xe (Xlaw9_2b y)) = (Sum.inr y) := by kernel_rfl
theorem XIlaw9_2 (y : Ylaw9_2) : Ilaw9_2 (xe (XLlaw9_2.fn y)) = y := (match y with | .inl y => XIlaw9_2a y | .inr y => XIlaw9_2b y)
noncomputable abbrev Llaw9_2 : Q → Option Ylaw9_2 := lpO env a9.body 2 XLlaw9_2
noncomputable abbrev Rlaw9_2 : Q → Option (Ext × S) := lpR env a9.body 2
def Tlaw9_1000080a (n0 : Nat) (c1 : List PV) (i2 i3 i4 i5 i6 : Int) : Q := ⟨(tm 273 [(1, (AV.p (PV.list n0 c1))), (2, (AV.p (PV.int .i64 i2))), (3, (AV.loc 3 0))]), (mm 273 [(3, (Bk.pcs true [(PV.int .i64 i3), (PV.int .i64 i4), (PV.int .i64 i5), (PV.int .i64 i6)]))])⟩
def Xlaw9_1000080a (y : Unit) : Ext × Q := (Ext.ret, ⟨(tm 273 [(6, (AV.p (PV.bool true)))]), (mm 273 [])⟩)
def Ilaw9_1000080a (q : Ext × S) : Unit := ()
def Xlaw9_1000080b (y : Nat × List PV × Int × Int × Int × Int × Int) : Ext × Q := (Ext.normal, ⟨(tm 273 [(1, (AV.p (PV.list y.1 y.2.1))), (2, (AV.p (PV.int .i64 y.2.2.1))), (3, (AV.loc 3 0))]), (mm 273 [(3, (Bk.pcs true [(PV.int .i64 y.2.2.2.1), (PV.int .i64 y.2.2.2.2.1), (PV.int .i64 y.2.2.2.2.2.1), (PV.int .i64 y.2.2.2.2.2.2)]))])⟩)
def Ilaw9_1000080b (q : Ext × S) : Nat × List PV × Int × Int × Int × Int × Int := ((pP_list0 (pA_p (avT q.2 1))), (pP_list1 (pA_p (avT q.2 1))), (pP_int1 (pA_p (avT q.2 2))), (pP_int1 (hdP (pB_pcs1 (avM q.2 3)))), (pP_int1 (hdP (List.tail (pB_pcs1 (avM q.2 3))))), (pP_int1 (hdP (List.tail (List.tail (pB_pcs1 (avM q.2 3)))))), (pP_int1 (hdP (List.tail (List.tail (List.tail (pB_pcs1 (avM q.2 3))))))))
abbrev Ylaw9_1000080 : Type := (Unit) ⊕ ((Nat × List PV × Int × Int × Int × Int × Int))
def XLlaw9_1000080 : XL Ylaw9_1000080 := .more Xlaw9_1000080a (.one Xlaw9_1000080b)
def Ilaw9_1000080 (q : Ext × S) : Ylaw9_1000080 := bif (cE q.1 == 2) then (Sum.inl (Ilaw9_1000080a q)) else (Sum.inr (Ilaw9_1000080b q))
theorem XIlaw9_1000080a (y : Unit) : Ilaw9_1000080 (xe (Xlaw9_1000080a y)) = (Sum.inl y) := by kernel_rfl
theorem XIlaw9_1000080b (y : Nat × List PV × Int × Int × Int × Int × Int) : Ilaw9_1000080 (xe (Xlaw9_1000080b y)) = (Sum.inr y) := by kernel_rfl
theorem XIlaw9_1000080 (y : Ylaw9_1000080) : Ilaw9_1000080 (xe (XLlaw9_1000080.fn y)) = y := (match y with | .inl y => XIlaw9_1000080a y | .inr y => XIlaw9_1000080b y)
noncomputable abbrev Llaw9_1000080 : Q → Option Ylaw9_1000080 := lpO env a9.body 1000080 XLlaw9_1000080
noncomputable abbrev Rlaw9_1000080 : Q → Option (Ext × S) := lpR env a9.body 1000080
theorem Llaw9_1000080a_of {s : Q} {y : Unit} (h : Rlaw9_1000080 s = exO (Xlaw9_1000080a y)) : Llaw9_1000080 s = some (Sum.inl y) := lpO_of Ilaw9_1000080 XIlaw9_1000080 (y := (Sum.inl y)) h
theorem Llaw9_1000080b_of {s : Q} {y : Nat × List PV × Int × Int × Int × Int × Int} (h : Rlaw9_1000080 s = exO (Xlaw9_1000080b y)) : Llaw9_1000080 s = some (Sum.inr y) := lpO_of Ilaw9_1000080 XIlaw9_1000080 (y := (Sum.inr y)) h
def Tlaw9_1000069a (n0 : Nat) (c1 : List PV) (i2 : Int) (n3 : Nat) (c4 : List PV) (i5 i6 i7 i8 i9 i10 : Int) (b11 : Bool) (i12 i13 i14 i15 : Int) : Q := ⟨(tm 273 [(1, (AV.p (PV.list n0 c1))), (2, (AV.p (PV.int .i64 i2))), (3, (AV.loc 3 0)), (7, (AV.p (PV.list n3 c4))), (8, (AV.p (PV.int .i64 i5))), (9, (AV.loc 9 0)), (10, (AV.p (PV.int .i64 i6)))]), (mm 273 [(3, (Bk.pcs true [(PV.int .i64 i7), (PV.int .i64 i8), (PV.int .i64 i9), (PV.int .i64 i10)])), (9, (Bk.pcs true [(PV.bool b11), (PV.int .i64 i12), (PV.int .i64 i13), (PV.int .i64 i14), (PV.int .i64 i15)]))])⟩
def Xlaw9_1000069a (y : Unit) : Ext × Q := (Ext.ret, ⟨(tm 273 [(6, (AV.p (PV.bool false)))]), (mm 273 [])⟩)
def Ilaw9_1000069a (q : Ext × S) : Unit := ()
def Xlaw9_1000069b (y : Nat × List PV × Int × Nat × List PV × Int × Int × Int × Int) : Ext × Q := (Ext.normal, ⟨(tm 273 [(1, (AV.p (PV.list y.1 y.2.1))), (2, (AV.p (PV.int .i64 y.2.2.1))), (3, (AV.loc 3 0)), (7, (AV.p (PV.list y.2.2.2.1 y.2.2.2.2.1)))]), (mm 273 [(3, (Bk.pcs true [(PV.int .i64 y.2.2.2.2.2.1), (PV.int .i64 y.2.2.2.2.2.2.1), (PV.int .i64 y.2.2.2.2.2.2.2.1), (PV.int .i64 y.2.2.2.2.2.2.2.2)]))])⟩)
def Ilaw9_1000069b (q : Ext × S) : Nat × List PV × Int × Nat × List PV × Int × Int × Int × Int := ((pP_list0 (pA_p (avT q.2 1))), (pP_list1 (pA_p (avT q.2 1))), (pP_int1 (pA_p (avT q.2 2))), (pP_list0 (pA_p (avT q.2 7))), (pP_list1 (pA_p (avT q.2 7))), (pP_int1 (hdP (pB_pcs1 (avM q.2 3)))), (pP_int1 (hdP (List.tail (pB_pcs1 (avM q.2 3))))), (pP_int1 (hdP (List.tail (List.tail (pB_pcs1 (avM q.2 3)))))), (pP_int1 (hdP (List.tail (List.tail (List.tail (pB_pcs1 (avM q.2 3))))))))
abbrev Ylaw9_1000069 : Type := (Unit) ⊕ ((Nat × List PV × Int × Nat × List PV × Int × Int × Int × Int))
def XLlaw9_1000069 : XL Ylaw9_1000069 := .more Xlaw9_1000069a (.one Xlaw9_1000069b)
def Ilaw9_1000069 (q : Ext × S) : Ylaw9_1000069 := bif (cE q.1 == 2) then (Sum.inl (Ilaw9_1000069a q)) else (Sum.inr (Ilaw9_1000069b q))
theorem XIlaw9_1000069a (y : Unit) : Ilaw9_1000069 (xe (Xlaw9_1000069a y)) = (Sum.inl y) := by kernel_rfl
theorem XIlaw9_1000069b (y : Nat × List PV × Int × Nat × List PV × Int × Int × Int × Int) : Ilaw9_1000069 (xe (Xlaw9_1000069b y)) = (Sum.inr y) := by kernel_rfl
theorem XIlaw9_1000069 (y : Ylaw9_1000069) : Ilaw9_1000069 (xe (XLlaw9_1000069.fn y)) = y := (match y with | .inl y => XIlaw9_1000069a y | .inr y => XIlaw9_1000069b y)
noncomputable abbrev Llaw9_1000069 : Q → Option Ylaw9_1000069 := lpO env a9.body 1000069 XLlaw9_1000069
noncomputable abbrev Rlaw9_1000069 : Q → Option (Ext × S) := lpR env a9.body 1000069
theorem Llaw9_1000069b_of {s : Q} {y : Nat × List PV × Int × Nat × List PV × Int × Int × Int × Int} (h : Rlaw9_1000069 s = exO (Xlaw9_1000069b y)) : Llaw9_1000069 s = some (Sum.inr y) := lpO_of Ilaw9_1000069 XIlaw9_1000069 (y := (Sum.inr y)) h
def Tlaw9_1000052a (n0 : Nat) (c1 : List PV) (i2 : Int) (n3 : Nat) (c4 : List PV) (i5 i6 i7 i8 i9 : Int) : Q := ⟨(tm 273 [(1, (AV.p (PV.list n0 c1))), (2, (AV.p (PV.int .i64 i2))), (3, (AV.loc 3 0)), (7, (AV.p (PV.list n3 c4))), (11, (AV.p (PV.int .i64 i5)))]), (mm 273 [(3, (Bk.pcs true [(PV.int .i64 i6), (PV.int .i64 i7), (PV.int .i64 i8), (PV.int .i64 i9)]))])⟩
def Xlaw9_1000052a (y : Unit) : Ext × Q := (Ext.ret, ⟨(tm 273 [(6, (AV.p (PV.bool false)))]), (mm 273 [])⟩)
def Ilaw9_1000052a (q : Ext × S) : Unit := ()
def Xlaw9_1000052b (y : Nat × List PV × Int × Nat × List PV × Int × Int × Int × Int × Int) : Ext × Q := (Ext.normal, ⟨(tm 273 [(1, (AV.p (PV.list y.1 y.2.1))), (2, (AV.p (PV.int .i64 y.2.2.1))), (3, (AV.loc 3 0)), (7, (AV.p (PV.list y.2.2.2.1 y.2.2.2.2.1))), (11, (AV.p (PV.int .i64 y.2.2.2.2.2.1)))]), (mm 273 [(3, (Bk.pcs true [(PV.int .i64 y.2.2.2.2.2.2.1), (PV.int .i64 y.2.2.2.2.2.2.2.1), (PV.int .i64 y.2.2.2.2.2.2.2.2.1), (PV.int .i64 y.2.2.2.2.2.2.2.2.2)]))])⟩)
def Ilaw9_1000052b (q : Ext × S) : Nat × List PV × Int × Nat × List PV × Int × Int × Int × Int × Int := ((pP_list0 (pA_p (avT q.2 1))), (pP_list1 (pA_p (avT q.2 1))), (pP_int1 (pA_p (avT q.2 2))), (pP_list0 (pA_p (avT q.2 7))), (pP_list1 (pA_p (avT q.2 7))), (pP_int1 (pA_p (avT q.2 11))), (pP_int1 (hdP (pB_pcs1 (avM q.2 3)))), (pP_int1 (hdP (List.tail (pB_pcs1 (avM q.2 3))))), (pP_int1 (hdP (List.tail (List.tail (pB_pcs1 (avM q.2 3)))))), (pP_int1 (hdP (List.tail (List.tail (List.tail (pB_pcs1 (avM q.2 3))))))))
abbrev Ylaw9_1000052 : Type := (Unit) ⊕ ((Nat × List PV × Int × Nat × List PV × Int × Int × Int × Int × Int))
def XLlaw9_1000052 : XL Ylaw9_1000052 := .more Xlaw9_1000052a (.one Xlaw9_1000052b)
def Ilaw9_1000052 (q : Ext × S) : Ylaw9_1000052 := bif (cE q.1 == 2) then (Sum.inl (Ilaw9_1000052a q)) else (Sum.inr (Ilaw9_1000052b q))
theorem XIlaw9_1000052a (y : Unit) : Ilaw9_1000052 (xe (Xlaw9_1000052a y)) = (Sum.inl y) := by kernel_rfl
theorem XIlaw9_1000052b (y : Nat × List PV × Int × Nat × List PV × Int × Int × Int × Int × Int) : Ilaw9_1000052 (xe (Xlaw9_1000052b y)) = (Sum.inr y) := by kernel_rfl
theorem XIlaw9_1000052 (y : Ylaw9_1000052) : Ilaw9_1000052 (xe (XLlaw9_1000052.fn y)) = y := (match y with | .inl y => XIlaw9_1000052a y | .inr y => XIlaw9_1000052b y)
noncomputable abbrev Llaw9_1000052 : Q → Option Ylaw9_1000052 := lpO env a9.body 1000052 XLlaw9_1000052
noncomputable abbrev Rlaw9_1000052 : Q → Option (Ext × S) := lpR env a9.body 1000052
theorem Llaw9_1000052b_of {s : Q} {y : Nat × List PV × Int × Nat × List PV × Int × Int × Int × Int × Int} (h : Rlaw9_1000052 s = exO (Xlaw9_1000052b y)) : Llaw9_1000052 s = some (Sum.inr y) := lpO_of Ilaw9_1000052 XIlaw9_1000052 (y := (Sum.inr y)) h
def Tlaw9_1000032a (n0 : Nat) (c1 : List PV) (i2 : Int) (n3 : Nat) (c4 : List PV) (b5 b6 : Bool) (i7 i8 i9 i10 i11 : Int) : Q := ⟨(tm 273 [(1, (AV.p (PV.list n0 c1))), (2, (AV.p (PV.int .i64 i2))), (3, (AV.loc 3 0)), (7, (AV.p (PV.list n3 c4))), (12, (AV.p (PV.bool b5))), (13, (AV.p (PV.bool b6))), (14, (AV.p (PV.int .i64 i7)))]), (mm 273 [(3, (Bk.pcs true [(PV.int .i64 i8), (PV.int .i64 i9), (PV.int .i64 i10), (PV.int .i64 i11)]))])⟩
def Xlaw9_1000032a (y : Unit) : Ext × Q := (Ext.ret, ⟨(tm 273 [(6, (AV.p (PV.bool false)))]), (mm 273 [])⟩)
def Ilaw9_1000032a (q : Ext × S) : Unit := ()
def Xlaw9_1000032b (y : Nat × List PV × Int × Nat × List PV × Bool × Bool × Int × Int × Int × Int × Int) : Ext × Q := (Ext.normal, ⟨(tm 273 [(1, (AV.p (PV.list y.1 y.2.1))), (2, (AV.p (PV.int .i64 y.2.2.1))), (3, (AV.loc 3 0)), (7, (AV.p (PV.list y.2.2.2.1 y.2.2.2.2.1))), (12, (AV.p (PV.bool y.2.2.2.2.2.1))), (13, (AV.p (PV.bool y.2.2.2.2.2.2.1))), (14, (AV.p (PV.int .i64 y.2.2.2.2.2.2.2.1)))]), (mm 273 [(3, (Bk.pcs true [(PV.int .i64 y.2.2.2.2.2.2.2.2.1), (PV.int .i64 y.2.2.2.2.2.2.2.2.2.1), (PV.int .i64 y.2.2.2.2.2.2.2.2.2.2.1), (PV.int .i64 y.2.2.2.2.2.2.2.2.2.2.2)]))])⟩)
def Ilaw9_1000032b (q : Ext × S) : Nat × List PV × Int × Nat × List PV × Bool × Bool × Int × Int × Int × Int × Int := ((pP_list0 (pA_p (avT q.2 1))), (pP_list1 (pA_p (avT q.2 1))), (pP_int1 (pA_p (avT q.2 2))), (pP_list0 (pA_p (avT q.2 7))), (pP_list1 (pA_p (avT q.2 7))), (pP_bool0 (pA_p (avT q.2 12))), (pP_bool0 (pA_p (avT q.2 13))), (pP_int1 (pA_p (avT q.2 14))), (pP_int1 (hdP (pB_pcs1 (avM q.2 3)))), (pP_int1 (hdP (List.tail (pB_pcs1 (avM q.2 3))))), (pP_int1 (hdP (List.tail (List.tail (pB_pcs1 (avM q.2 3)))))), (pP_int1 (hdP (List.tail (List.tail (List.tail (pB_pcs1 (avM q.2 3))))))))
abbrev Ylaw9_1000032 : Type := (Unit) ⊕ ((Nat × List PV × Int × Nat × List PV × Bool × Bool × Int × Int × Int × Int × Int))
def XLlaw9_1000032 : XL Ylaw9_1000032 := .more Xlaw9_1000032a (.one Xlaw9_1000032b)
def Ilaw9_1000032 (q : Ext × S) : Ylaw9_1000032 := bif (cE q.1 == 2) then (Sum.inl (Ilaw9_1000032a q)) else (Sum.inr (Ilaw9_1000032b q))
theorem XIlaw9_1000032a (y : Unit) : Ilaw9_1000032 (xe (Xlaw9_1000032a y)) = (Sum.inl y) := by kernel_rfl
theorem XIlaw9_1000032b (y : Nat × List PV × Int × Nat × List PV × Bool × Bool × Int × Int × Int × Int × Int) : Ilaw9_1000032 (xe (Xlaw9_1000032b y)) = (Sum.inr y) := by kernel_rfl
theorem XIlaw9_1000032 (y : Ylaw9_1000032) : Ilaw9_1000032 (xe (XLlaw9_1000032.fn y)) = y := (match y with | .inl y => XIlaw9_1000032a y | .inr y => XIlaw9_1000032b y)
noncomputable abbrev Llaw9_1000032 : Q → Option Ylaw9_1000032 := lpO env a9.body 1000032 XLlaw9_1000032
noncomputable abbrev Rlaw9_1000032 : Q → Option (Ext × S) := lpR env a9.body 1000032
theorem Llaw9_1000032b_of {s : Q} {y : Nat × List PV × Int × Nat × List PV × Bool × Bool × Int × Int × Int × Int × Int} (h : Rlaw9_1000032 s = exO (Xlaw9_1000032b y)) : Llaw9_1000032 s = some (Sum.inr y) := lpO_of Ilaw9_1000032 XIlaw9_1000032 (y := (Sum.inr y)) h
def Tlaw9_1000027a (n0 : Nat) (c1 : List PV) (i2 : Int) (n3 : Nat) (c4 : List PV) (b5 b6 : Bool) (i7 i8 i9 i10 i11 i12 : Int) (b13 : Bool) (i14 i15 i16 i17 : Int) : Q := ⟨(tm 273 [(1, (AV.p (PV.list n0 c1))), (2, (AV.p (PV.int .i64 i2))), (3, (AV.loc 3 0)), (7, (AV.p (PV.list n3 c4))), (12, (AV.p (PV.bool b5))), (13, (AV.p (PV.bool b6))), (14, (AV.p (PV.int .i64 i7))), (15, (AV.loc 15 0)), (16, (AV.p (PV.int .i64 i8)))]), (mm 273 [(3, (Bk.pcs true [(PV.int .i64 i9), (PV.int .i64 i10), (PV.int .i64 i11), (PV.int .i64 i12)])), (15, (Bk.pcs true [(PV.bool b13), (PV.int .i64 i14), (PV.int .i64 i15), (PV.int .i64 i16), (PV.int .i64 i17)]))])⟩
def Xlaw9_1000027a (y : Unit) : Ext × Q := (Ext.ret, ⟨(tm 273 [(6, (AV.p (PV.bool false)))]), (mm 273 [])⟩)
def Ilaw9_1000027a (q : Ext × S) : Unit := ()
def Xlaw9_1000027b (y : Nat × List PV × Int × Nat × List PV × Bool × Bool × Int × Int × Int × Int × Int × Bool × Int × Int × Int × Int) : Ext × Q := (Ext.normal, ⟨(tm 273 [(1, (AV.p (PV.list y.1 y.2.1))), (2, (AV.p (PV.int .i64 y.2.2.1))), (3, (AV.loc 3 0)), (7, (AV.p (PV.list y.2.2.2.1 y.2.2.2.2.1))), (12, (AV.p (PV.bool y.2.2.2.2.2.1))), (13, (AV.p (PV.bool y.2.2.2.2.2.2.1))), (14, (AV.p (PV.int .i64 y.2.2.2.2.2.2.2.1))), (15, (AV.loc 15 0))]), (mm 273 [(3, (Bk.pcs true [(PV.int .i64 y.2.2.2.2.2.2.2.2.1), (PV.int .i64 y.2.2.2.2.2.2.2.2.2.1), (PV.int .i64 y.2.2.2.2.2.2.2.2.2.2.1), (PV.int .i64 y.2.2.2.2.2.2.2.2.2.2.2.1)])), (15, (Bk.pcs true [(PV.bool y.2.2.2.2.2.2.2.2.2.2.2.2.1), (PV.int .i64 y.2.2.2.2.2.2.2.2.2.2.2.2.2.1), (PV.int .i64 y.2.2.2.2.2.2.2.2.2.2.2.2.2.2.1), (PV.int .i64 y.2.2.2.2.2.2.2.2.2.2.2.2.2.2.2.1), (PV.int .i64 y.2.2.2.2.2.2.2.2.2.2.2.2.2.2.2.2)]))])⟩)
def Ilaw9_1000027b (q : Ext × S) : Nat × List PV × Int × Nat × List PV × Bool × Bool × Int × Int × Int × Int × Int × Bool × Int × Int × Int × Int := ((pP_list0 (pA_p (avT q.2 1))), (pP_list1 (pA_p (avT q.2 1))), (pP_int1 (pA_p (avT q.2 2))), (pP_list0 (pA_p (avT q.2 7))), (pP_list1 (pA_p (avT q.2 7))), (pP_bool0 (pA_p (avT q.2 12))), (pP_bool0 (pA_p (avT q.2 13))), (pP_int1 (pA_p (avT q.2 14))), (pP_int1 (hdP (pB_pcs1 (avM q.2 3)))), (pP_int1 (hdP (List.tail (pB_pcs1 (avM q.2 3))))), (pP_int1 (hdP (List.tail (List.tail (pB_pcs1 (avM q.2 3)))))), (pP_int1 (hdP (List.tail (List.tail (List.tail (pB_pcs1 (avM q.2 3))))))), (pP_bool0 (hdP (pB_pcs1 (avM q.2 15)))), (pP_int1 (hdP (List.tail (pB_pcs1 (avM q.2 15))))), (pP_int1 (hdP (List.tail (List.tail (pB_pcs1 (avM q.2 15)))))), (pP_int1 (hdP (List.tail (List.tail (List.tail (pB_pcs1 (avM q.2 15))))))), (pP_int1 (hdP (List.tail (List.tail (List.tail (List.tail (pB_pcs1 (avM q.2 15)))))))))
abbrev Ylaw9_1000027 : Type := (Unit) ⊕ ((Nat × List PV × Int × Nat × List PV × Bool × Bool × Int × Int × Int × Int × Int × Bool × Int × Int × Int × Int))
def XLlaw9_1000027 : XL Ylaw9_1000027 := .more Xlaw9_1000027a (.one Xlaw9_1000027b)
def Ilaw9_1000027 (q : Ext × S) : Ylaw9_1000027 := bif (cE q.1 == 2) then (Sum.inl (Ilaw9_1000027a q)) else (Sum.inr (Ilaw9_1000027b q))
theorem XIlaw9_1000027a (y : Unit) : Ilaw9_1000027 (xe (Xlaw9_1000027a y)) = (Sum.inl y) := by kernel_rfl
theorem XIlaw9_1000027b (y : Nat × List PV × Int × Nat × List PV × Bool × Bool × Int × Int × Int × Int × Int × Bool × Int × Int × Int × Int) : Ilaw9_1000027 (xe (Xlaw9_1000027b y)) = (Sum.inr y) := by kernel_rfl
theorem XIlaw9_1000027 (y : Ylaw9_1000027) : Ilaw9_1000027 (xe (XLlaw9_1000027.fn y)) = y := (match y with | .inl y => XIlaw9_1000027a y | .inr y => XIlaw9_1000027b y)
noncomputable abbrev Llaw9_1000027 : Q → Option Ylaw9_1000027 := lpO env a9.body 1000027 XLlaw9_1000027
noncomputable abbrev Rlaw9_1000027 : Q → Option (Ext × S) := lpR env a9.body 1000027
theorem Llaw9_1000027b_of {s : Q} {y : Nat × List PV × Int × Nat × List PV × Bool × Bool × Int × Int × Int × Int × Int × Bool × Int × Int × Int × Int} (h : Rlaw9_1000027 s = exO (Xlaw9_1000027b y)) : Llaw9_1000027 s = some (Sum.inr y) := lpO_of Ilaw9_1000027 XIlaw9_1000027 (y := (Sum.inr y)) h
theorem Ulaw9 : uniq ((blocksOf a9.body).map (·.1)) = true := by kernel_rfl
def Blaw9_0a (F : FnT) (N : QO) (E : EO) (L0 : Q → Option Ylaw9_0) (L2 : Q → Option Ylaw9_2) (L1000080 : Q → Option Ylaw9_1000080) (L1000069 : Q → Option Ylaw9_1000069) (L1000052 : Q → Option Ylaw9_1000052) (L1000032 : Q → Option Ylaw9_1000032) (L1000027 : Q → Option Ylaw9_1000027) (n0 : Nat) (c1 : List PV) (i2 : Int) (n3 : Nat) (c4 : List PV) (i5 i6 i7 i8 i9 : Int) : Option (Ext × S) :=
  bif (decide (i5 < (n3 : Int))) then
    bindO (L1000052 (Tlaw9_1000052a n0 c1 i2 n3 c4 i5 i6 i7 i8 i9)) fun z =>
    Sum.elim (fun y0 =>
      E (Xlaw9_0b ())) (fun y1 =>
      N (Tlaw9_0a y1.1 y1.2.1 y1.2.2.1 y1.2.2.2.1 y1.2.2.2.2.1 (w64 (y1.2.2.2.2.2.1 + (1 : Int))) y1.2.2.2.2.2.2.1 y1.2.2.2.2.2.2.2.1 y1.2.2.2.2.2.2.2.2.1 y1.2.2.2.2.2.2.2.2.2)) z
  else E (Xlaw9_0a (n0, c1, i2, n3, c4, i6, i7, i8, i9))
theorem Blaw9_0a_eq (F : FnT) (N : QO) (E : EO) (L0 : Q → Option Ylaw9_0) (L2 : Q → Option Ylaw9_2) (L1000080 : Q → Option Ylaw9_1000080) (L1000069 : Q → Option Ylaw9_1000069) (L1000052 : Q → Option Ylaw9_1000052) (L1000032 : Q → Option Ylaw9_1000032) (L1000027 : Q → Option Ylaw9_1000027) (n0 : Nat) (c1 : List PV) (i2 : Int) (n3 : Nat) (c4 : List PV) (i5 i6 i7 i8 i9 : Int) : semB (callP F Elaw9 20) s9 (loopT [⟨0, Ylaw9_0, L0, XLlaw9_0⟩, ⟨2, Ylaw9_2, L2, XLlaw9_2⟩, ⟨1000080, Ylaw9_1000080, L1000080, XLlaw9_1000080⟩, ⟨1000069, Ylaw9_1000069, L1000069, XLlaw9_1000069⟩, ⟨1000052, Ylaw9_1000052, L1000052, XLlaw9_1000052⟩, ⟨1000032, Ylaw9_1000032, L1000032, XLlaw9_1000032⟩, ⟨1000027, Ylaw9_1000027, L1000027, XLlaw9_1000027⟩]) 400 (blkIn a9.body 0) N E (Tlaw9_0a n0 c1 i2 n3 c4 i5 i6 i7 i8 i9) = Blaw9_0a F N E L0 L2 L1000080 L1000069 L1000052 L1000032 L1000027 n0 c1 i2 n3 c4 i5 i6 i7 i8 i9 := by kernel_rfl
theorem Rlaw9_0a_of  (n0 : Nat) (c1 : List PV) (i2 : Int) (n3 : Nat) (c4 : List PV) (i5 i6 i7 i8 i9 : Int) {r : Ext × S} (h : Blaw9_0a (Fn env) Rlaw9_0 exO Llaw9_0 Llaw9_2 Llaw9_1000080 Llaw9_1000069 Llaw9_1000052 Llaw9_1000032 Llaw9_1000027 n0 c1 i2 n3 c4 i5 i6 i7 i8 i9 = some r) : Rlaw9_0 (Tlaw9_0a n0 c1 i2 n3 c4 i5 i6 i7 i8 i9) = some r :=
  lp_of Elaw9_ok (by kernel_rfl) (lo_cons (lpO_ok Ulaw9) (lo_cons (lpO_ok Ulaw9) (lo_cons (lpO_ok Ulaw9) (lo_cons (lpO_ok Ulaw9) (lo_cons (lpO_ok Ulaw9) (lo_cons (lpO_ok Ulaw9) (lo_cons (lpO_ok Ulaw9) lo_nil))))))) (by kernel_rfl) ((Blaw9_0a_eq _ _ _ _ _ _ _ _ _ _ _ _ _ _ _ _ _ _ _ _).trans h)
def Blaw9_2a (F : FnT) (N : QO) (E : EO) (L0 : Q → Option Ylaw9_0) (L2 : Q → Option Ylaw9_2) (L1000080 : Q → Option Ylaw9_1000080) (L1000069 : Q → Option Ylaw9_1000069) (L1000052 : Q → Option Ylaw9_1000052) (L1000032 : Q → Option Ylaw9_1000032) (L1000027 : Q → Option Ylaw9_1000027) (n0 : Nat) (c1 : List PV) (i2 : Int) (n3 : Nat) (c4 : List PV) (b5 b6 : Bool) (i7 i8 i9 i10 i11 : Int) : Option (Ext × S) :=
  bif (decide (i7 < (n0 : Int))) then
    bindO (L1000032 (Tlaw9_1000032a n0 c1 i2 n3 c4 b5 b6 i7 i8 i9 i10 i11)) fun z =>
    Sum.elim (fun y0 =>
      E (Xlaw9_2b ())) (fun y1 =>
      N (Tlaw9_2a y1.1 y1.2.1 y1.2.2.1 y1.2.2.2.1 y1.2.2.2.2.1 y1.2.2.2.2.2.1 y1.2.2.2.2.2.2.1 (w64 (y1.2.2.2.2.2.2.2.1 + (1 : Int))) y1.2.2.2.2.2.2.2.2.1 y1.2.2.2.2.2.2.2.2.2.1 y1.2.2.2.2.2.2.2.2.2.2.1 y1.2.2.2.2.2.2.2.2.2.2.2)) z
  else E (Xlaw9_2a (n3, c4, b5, b6, i8, i9, i10, i11))
theorem Blaw9_2a_eq (F : FnT) (N : QO) (E : EO) (L0 : Q → Option Ylaw9_0) (L2 : Q → Option Ylaw9_2) (L1000080 : Q → Option Ylaw9_1000080) (L1000069 : Q → Option Ylaw9_1000069) (L1000052 : Q → Option Ylaw9_1000052) (L1000032 : Q → Option Ylaw9_1000032) (L1000027 : Q → Option Ylaw9_1000027) (n0 : Nat) (c1 : List PV) (i2 : Int) (n3 : Nat) (c4 : List PV) (b5 b6 : Bool) (i7 i8 i9 i10 i11 : Int) : semB (callP F Elaw9 20) s9 (loopT [⟨0, Ylaw9_0, L0, XLlaw9_0⟩, ⟨2, Ylaw9_2, L2, XLlaw9_2⟩, ⟨1000080, Ylaw9_1000080, L1000080, XLlaw9_1000080⟩, ⟨1000069, Ylaw9_1000069, L1000069, XLlaw9_1000069⟩, ⟨1000052, Ylaw9_1000052, L1000052, XLlaw9_1000052⟩, ⟨1000032, Ylaw9_1000032, L1000032, XLlaw9_1000032⟩, ⟨1000027, Ylaw9_1000027, L1000027, XLlaw9_1000027⟩]) 400 (blkIn a9.body 2) N E (Tlaw9_2a n0 c1 i2 n3 c4 b5 b6 i7 i8 i9 i10 i11) = Blaw9_2a F N E L0 L2 L1000080 L1000069 L1000052 L1000032 L1000027 n0 c1 i2 n3 c4 b5 b6 i7 i8 i9 i10 i11 := by kernel_rfl
theorem Rlaw9_2a_of  (n0 : Nat) (c1 : List PV) (i2 : Int) (n3 : Nat) (c4 : List PV) (b5 b6 : Bool) (i7 i8 i9 i10 i11 : Int) {r : Ext × S} (h : Blaw9_2a (Fn env) Rlaw9_2 exO Llaw9_0 Llaw9_2 Llaw9_1000080 Llaw9_1000069 Llaw9_1000052 Llaw9_1000032 Llaw9_1000027 n0 c1 i2 n3 c4 b5 b6 i7 i8 i9 i10 i11 = some r) : Rlaw9_2 (Tlaw9_2a n0 c1 i2 n3 c4 b5 b6 i7 i8 i9 i10 i11) = some r :=
  lp_of Elaw9_ok (by kernel_rfl) (lo_cons (lpO_ok Ulaw9) (lo_cons (lpO_ok Ulaw9) (lo_cons (lpO_ok Ulaw9) (lo_cons (lpO_ok Ulaw9) (lo_cons (lpO_ok Ulaw9) (lo_cons (lpO_ok Ulaw9) (lo_cons (lpO_ok Ulaw9) lo_nil))))))) (by kernel_rfl) ((Blaw9_2a_eq _ _ _ _ _ _ _ _ _ _ _ _ _ _ _ _ _ _ _ _ _ _).trans h)
def Blaw9_1000080a (F : FnT) (N : QO) (E : EO) (L0 : Q → Option Ylaw9_0) (L2 : Q → Option Ylaw9_2) (L1000080 : Q → Option Ylaw9_1000080) (L1000069 : Q → Option Ylaw9_1000069) (L1000052 : Q → Option Ylaw9_1000052) (L1000032 : Q → Option Ylaw9_1000032) (L1000027 : Q → Option Ylaw9_1000027) (n0 : Nat) (c1 : List PV) (i2 i3 i4 i5 i6 : Int) : Option (Ext × S) :=
  bindO (F 53 (RSh.one CK.bool) [(PV.list n0 c1)]) fun (y0 : (Bool)) =>
  bif y0 then
    bindO (F 48 (RSh.one (CK.int .i64)) [(PV.agg [(PV.int .i64 i3), (PV.int .i64 i4), (PV.int .i64 i5), (PV.int .i64 i6)])]) fun (y1 : (Int)) =>
    bif (y1 != (0 : Int)) then
      E (Xlaw9_1000080a ())
    else bindO (F 63 (RSh.one (CK.int .i64)) [(PV.list n0 c1)]) fun (y2 : (Int)) =>
    bif (y2 != (0 : Int)) then
      E (Xlaw9_1000080a ())
    else bindO (F 61 (RSh.one CK.bool) [(PV.int .i64 i2)]) fun (y3 : (Bool)) =>
    bif y3 then
      E (Xlaw9_1000080b (n0, c1, i2, i3, i4, i5, i6))
    else E (Xlaw9_1000080a ())
  else E (Xlaw9_1000080a ())
theorem Blaw9_1000080a_eq (F : FnT) (N : QO) (E : EO) (L0 : Q → Option Ylaw9_0) (L2 : Q → Option Ylaw9_2) (L1000080 : Q → Option Ylaw9_1000080) (L1000069 : Q → Option Ylaw9_1000069) (L1000052 : Q → Option Ylaw9_1000052) (L1000032 : Q → Option Ylaw9_1000032) (L1000027 : Q → Option Ylaw9_1000027) (n0 : Nat) (c1 : List PV) (i2 i3 i4 i5 i6 : Int) : semN (callP F Elaw9 20) s9 (loopT [⟨0, Ylaw9_0, L0, XLlaw9_0⟩, ⟨2, Ylaw9_2, L2, XLlaw9_2⟩, ⟨1000080, Ylaw9_1000080, L1000080, XLlaw9_1000080⟩, ⟨1000069, Ylaw9_1000069, L1000069, XLlaw9_1000069⟩, ⟨1000052, Ylaw9_1000052, L1000052, XLlaw9_1000052⟩, ⟨1000032, Ylaw9_1000032, L1000032, XLlaw9_1000032⟩, ⟨1000027, Ylaw9_1000027, L1000027, XLlaw9_1000027⟩]) 400 (blkIn a9.body 1000080) E (Tlaw9_1000080a n0 c1 i2 i3 i4 i5 i6) = Blaw9_1000080a F N E L0 L2 L1000080 L1000069 L1000052 L1000032 L1000027 n0 c1 i2 i3 i4 i5 i6 := by kernel_rfl
theorem Rlaw9_1000080a_of  (n0 : Nat) (c1 : List PV) (i2 i3 i4 i5 i6 : Int) {r : Ext × S} (h : Blaw9_1000080a (Fn env) Rlaw9_1000080 exO Llaw9_0 Llaw9_2 Llaw9_1000080 Llaw9_1000069 Llaw9_1000052 Llaw9_1000032 Llaw9_1000027 n0 c1 i2 i3 i4 i5 i6 = some r) : Rlaw9_1000080 (Tlaw9_1000080a n0 c1 i2 i3 i4 i5 i6) = some r :=
  nd_of Elaw9_ok (by kernel_rfl) (lo_cons (lpO_ok Ulaw9) (lo_cons (lpO_ok Ulaw9) (lo_cons (lpO_ok Ulaw9) (lo_cons (lpO_ok Ulaw9) (lo_cons (lpO_ok Ulaw9) (lo_cons (lpO_ok Ulaw9) (lo_cons (lpO_ok Ulaw9) lo_nil))))))) (by kernel_rfl) ((Blaw9_1000080a_eq _ Rlaw9_1000080 _ _ _ _ _ _ _ _ _ _ _ _ _ _ _).trans h)
def Blaw9_1000069a (F : FnT) (N : QO) (E : EO) (L0 : Q → Option Ylaw9_0) (L2 : Q → Option Ylaw9_2) (L1000080 : Q → Option Ylaw9_1000080) (L1000069 : Q → Option Ylaw9_1000069) (L1000052 : Q → Option Ylaw9_1000052) (L1000032 : Q → Option Ylaw9_1000032) (L1000027 : Q → Option Ylaw9_1000027) (n0 : Nat) (c1 : List PV) (i2 : Int) (n3 : Nat) (c4 : List PV) (i5 i6 i7 i8 i9 i10 : Int) (b11 : Bool) (i12 i13 i14 i15 : Int) : Option (Ext × S) :=
  bif (i5 != (0 : Int)) then
    E (Xlaw9_1000069a ())
  else bif (i6 != (0 : Int)) then
    E (Xlaw9_1000069a ())
  else bif (decide ((n3 : Int) > (n0 : Int))) then
    E (Xlaw9_1000069a ())
  else bif b11 then
    bindO (F 64 (RSh.one CK.bool) [(PV.list n3 c4), (PV.int .i64 i2)]) fun (y0 : (Bool)) =>
    bif y0 then
      E (Xlaw9_1000069b (n0, c1, i2, n3, c4, i7, i8, i9, i10))
    else E (Xlaw9_1000069a ())
  else bindO (F 64 (RSh.one CK.bool) [(PV.list n3 c4), (PV.int .i64 i2)]) fun (y1 : (Bool)) =>
  bif y1 then
    E (Xlaw9_1000069a ())
  else E (Xlaw9_1000069b (n0, c1, i2, n3, c4, i7, i8, i9, i10))
theorem Blaw9_1000069a_eq (F : FnT) (N : QO) (E : EO) (L0 : Q → Option Ylaw9_0) (L2 : Q → Option Ylaw9_2) (L1000080 : Q → Option Ylaw9_1000080) (L1000069 : Q → Option Ylaw9_1000069) (L1000052 : Q → Option Ylaw9_1000052) (L1000032 : Q → Option Ylaw9_1000032) (L1000027 : Q → Option Ylaw9_1000027) (n0 : Nat) (c1 : List PV) (i2 : Int) (n3 : Nat) (c4 : List PV) (i5 i6 i7 i8 i9 i10 : Int) (b11 : Bool) (i12 i13 i14 i15 : Int) : semN (callP F Elaw9 20) s9 (loopT [⟨0, Ylaw9_0, L0, XLlaw9_0⟩, ⟨2, Ylaw9_2, L2, XLlaw9_2⟩, ⟨1000080, Ylaw9_1000080, L1000080, XLlaw9_1000080⟩, ⟨1000069, Ylaw9_1000069, L1000069, XLlaw9_1000069⟩, ⟨1000052, Ylaw9_1000052, L1000052, XLlaw9_1000052⟩, ⟨1000032, Ylaw9_1000032, L1000032, XLlaw9_1000032⟩, ⟨1000027, Ylaw9_1000027, L1000027, XLlaw9_1000027⟩]) 400 (blkIn a9.body 1000069) E (Tlaw9_1000069a n0 c1 i2 n3 c4 i5 i6 i7 i8 i9 i10 b11 i12 i13 i14 i15) = Blaw9_1000069a F N E L0 L2 L1000080 L1000069 L1000052 L1000032 L1000027 n0 c1 i2 n3 c4 i5 i6 i7 i8 i9 i10 b11 i12 i13 i14 i15 := by kernel_rfl
theorem Rlaw9_1000069a_of  (n0 : Nat) (c1 : List PV) (i2 : Int) (n3 : Nat) (c4 : List PV) (i5 i6 i7 i8 i9 i10 : Int) (b11 : Bool) (i12 i13 i14 i15 : Int) {r : Ext × S} (h : Blaw9_1000069a (Fn env) Rlaw9_1000069 exO Llaw9_0 Llaw9_2 Llaw9_1000080 Llaw9_1000069 Llaw9_1000052 Llaw9_1000032 Llaw9_1000027 n0 c1 i2 n3 c4 i5 i6 i7 i8 i9 i10 b11 i12 i13 i14 i15 = some r) : Rlaw9_1000069 (Tlaw9_1000069a n0 c1 i2 n3 c4 i5 i6 i7 i8 i9 i10 b11 i12 i13 i14 i15) = some r :=
  nd_of Elaw9_ok (by kernel_rfl) (lo_cons (lpO_ok Ulaw9) (lo_cons (lpO_ok Ulaw9) (lo_cons (lpO_ok Ulaw9) (lo_cons (lpO_ok Ulaw9) (lo_cons (lpO_ok Ulaw9) (lo_cons (lpO_ok Ulaw9) (lo_cons (lpO_ok Ulaw9) lo_nil))))))) (by kernel_rfl) ((Blaw9_1000069a_eq _ Rlaw9_1000069 _ _ _ _ _ _ _ _ _ _ _ _ _ _ _ _ _ _ _ _ _ _ _ _).trans h)
def Blaw9_1000052a (F : FnT) (N : QO) (E : EO) (L0 : Q → Option Ylaw9_0) (L2 : Q → Option Ylaw9_2) (L1000080 : Q → Option Ylaw9_1000080) (L1000069 : Q → Option Ylaw9_1000069) (L1000052 : Q → Option Ylaw9_1000052) (L1000032 : Q → Option Ylaw9_1000032) (L1000027 : Q → Option Ylaw9_1000027) (n0 : Nat) (c1 : List PV) (i2 : Int) (n3 : Nat) (c4 : List PV) (i5 i6 i7 i8 i9 : Int) : Option (Ext × S) :=
  bif (decide (((0 : Int) ≤ i5) ∧ (i5 < (n3 : Int)))) then
    bindO (intC .i64 (c4[(((Int.toNat i5) * 3) + 0)]?)) fun x0 =>
    bif (x0 != (w64 (i5 + (1 : Int)))) then
      E (Xlaw9_1000052a ())
    else bif (decide (((0 : Int) ≤ i5) ∧ (i5 < (n3 : Int)))) then
      bindO (intC .i64 (c4[(((Int.toNat i5) * 3) + 1)]?)) fun x1 =>
      bif (decide (((0 : Int) ≤ i5) ∧ (i5 < (n3 : Int)))) then
        bindO (intC .i64 (c4[(((Int.toNat i5) * 3) + 2)]?)) fun x2 =>
        bif (decide (x1 > x2)) then
          E (Xlaw9_1000052a ())
        else bif (decide (i5 > (0 : Int))) then
          bif (decide (((0 : Int) ≤ i5) ∧ (i5 < (n3 : Int)))) then
            bindO (intC .i64 (c4[(((Int.toNat i5) * 3) + 1)]?)) fun x3 =>
            bif (decide (((0 : Int) ≤ (w64 (i5 - (1 : Int)))) ∧ ((w64 (i5 - (1 : Int))) < (n3 : Int)))) then
              bindO (intC .i64 (c4[(((Int.toNat (w64 (i5 - (1 : Int)))) * 3) + 2)]?)) fun x4 =>
              bif (decide (x3 ≤ x4)) then
                E (Xlaw9_1000052a ())
              else E (Xlaw9_1000052b (n0, c1, i2, n3, c4, i5, i6, i7, i8, i9))
            else none
          else none
        else E (Xlaw9_1000052b (n0, c1, i2, n3, c4, i5, i6, i7, i8, i9))
      else none
    else none
  else none
theorem Blaw9_1000052a_eq (F : FnT) (N : QO) (E : EO) (L0 : Q → Option Ylaw9_0) (L2 : Q → Option Ylaw9_2) (L1000080 : Q → Option Ylaw9_1000080) (L1000069 : Q → Option Ylaw9_1000069) (L1000052 : Q → Option Ylaw9_1000052) (L1000032 : Q → Option Ylaw9_1000032) (L1000027 : Q → Option Ylaw9_1000027) (n0 : Nat) (c1 : List PV) (i2 : Int) (n3 : Nat) (c4 : List PV) (i5 i6 i7 i8 i9 : Int) : semN (callP F Elaw9 20) s9 (loopT [⟨0, Ylaw9_0, L0, XLlaw9_0⟩, ⟨2, Ylaw9_2, L2, XLlaw9_2⟩, ⟨1000080, Ylaw9_1000080, L1000080, XLlaw9_1000080⟩, ⟨1000069, Ylaw9_1000069, L1000069, XLlaw9_1000069⟩, ⟨1000052, Ylaw9_1000052, L1000052, XLlaw9_1000052⟩, ⟨1000032, Ylaw9_1000032, L1000032, XLlaw9_1000032⟩, ⟨1000027, Ylaw9_1000027, L1000027, XLlaw9_1000027⟩]) 400 (blkIn a9.body 1000052) E (Tlaw9_1000052a n0 c1 i2 n3 c4 i5 i6 i7 i8 i9) = Blaw9_1000052a F N E L0 L2 L1000080 L1000069 L1000052 L1000032 L1000027 n0 c1 i2 n3 c4 i5 i6 i7 i8 i9 := by kernel_rfl
theorem Rlaw9_1000052a_of  (n0 : Nat) (c1 : List PV) (i2 : Int) (n3 : Nat) (c4 : List PV) (i5 i6 i7 i8 i9 : Int) {r : Ext × S} (h : Blaw9_1000052a (Fn env) Rlaw9_1000052 exO Llaw9_0 Llaw9_2 Llaw9_1000080 Llaw9_1000069 Llaw9_1000052 Llaw9_1000032 Llaw9_1000027 n0 c1 i2 n3 c4 i5 i6 i7 i8 i9 = some r) : Rlaw9_1000052 (Tlaw9_1000052a n0 c1 i2 n3 c4 i5 i6 i7 i8 i9) = some r :=
  nd_of Elaw9_ok (by kernel_rfl) (lo_cons (lpO_ok Ulaw9) (lo_cons (lpO_ok Ulaw9) (lo_cons (lpO_ok Ulaw9) (lo_cons (lpO_ok Ulaw9) (lo_cons (lpO_ok Ulaw9) (lo_cons (lpO_ok Ulaw9) (lo_cons (lpO_ok Ulaw9) lo_nil))))))) (by kernel_rfl) ((Blaw9_1000052a_eq _ Rlaw9_1000052 _ _ _ _ _ _ _ _ _ _ _ _ _ _ _ _ _ _).trans h)
def Blaw9_1000032a (F : FnT) (N : QO) (E : EO) (L0 : Q → Option Ylaw9_0) (L2 : Q → Option Ylaw9_2) (L1000080 : Q → Option Ylaw9_1000080) (L1000069 : Q → Option Ylaw9_1000069) (L1000052 : Q → Option Ylaw9_1000052) (L1000032 : Q → Option Ylaw9_1000032) (L1000027 : Q → Option Ylaw9_1000027) (n0 : Nat) (c1 : List PV) (i2 : Int) (n3 : Nat) (c4 : List PV) (b5 b6 : Bool) (i7 i8 i9 i10 i11 : Int) : Option (Ext × S) :=
  bindO (F 55 (RSh.one CK.list) [(PV.list n0 c1)]) fun (y0 : ((Nat) × (List PV))) =>
  bif (decide (((0 : Int) ≤ i7) ∧ (i7 < (n0 : Int)))) then
    bindO (intC .i64 (c1[(((Int.toNat i7) * 3) + 0)]?)) fun x1 =>
    bindO (F 56 (RSh.tup [(Prod.mk true [CK.bool, (CK.int .i64), (CK.int .i64), (CK.int .i64), (CK.int .i64)]), (Prod.mk false [(CK.int .i64)])]) [(PV.agg [(PV.int .i64 i8), (PV.int .i64 i9), (PV.int .i64 i10), (PV.int .i64 i11)]), (PV.list y0.1 y0.2), (PV.int .i64 x1)]) fun (y2 : ((Bool) × ((Int) × ((Int) × ((Int) × ((Int) × (Int))))))) =>
    bindO (L1000027 (Tlaw9_1000027a n0 c1 i2 n3 c4 b5 b6 i7 y2.2.2.2.2.2 i8 i9 i10 i11 y2.1 y2.2.1 y2.2.2.1 y2.2.2.2.1 y2.2.2.2.2.1)) fun z =>
    Sum.elim (fun y3 =>
      E (Xlaw9_1000032a ())) (fun y4 =>
      bif y4.2.2.2.2.2.2.1 then
        bif (y4.2.2.2.2.2.2.2.1 == (0 : Int)) then
          E (Xlaw9_1000032b (y4.1, y4.2.1, y4.2.2.1, y4.2.2.2.1, y4.2.2.2.2.1, y4.2.2.2.2.2.1, true, y4.2.2.2.2.2.2.2.1, y4.2.2.2.2.2.2.2.2.1, y4.2.2.2.2.2.2.2.2.2.1, y4.2.2.2.2.2.2.2.2.2.2.1, y4.2.2.2.2.2.2.2.2.2.2.2.1))
        else bif y4.2.2.2.2.2.1 then
          bif (decide (((0 : Int) ≤ y4.2.2.2.2.2.2.2.1) ∧ (y4.2.2.2.2.2.2.2.1 < (y4.1 : Int)))) then
            bindO (intC .i64 (y4.2.1[(((Int.toNat y4.2.2.2.2.2.2.2.1) * 3) + 0)]?)) fun x5 =>
            bif (decide (((0 : Int) ≤ (w64 (y4.2.2.2.2.2.2.2.1 - (1 : Int)))) ∧ ((w64 (y4.2.2.2.2.2.2.2.1 - (1 : Int))) < (y4.1 : Int)))) then
              bindO (intC .i64 (y4.2.1[(((Int.toNat (w64 (y4.2.2.2.2.2.2.2.1 - (1 : Int)))) * 3) + 0)]?)) fun x6 =>
              bif (decide ((w64 (x5 - x6)) ≤ y4.2.2.2.2.2.2.2.2.2.2.2.1)) then
                bif (decide (((0 : Int) ≤ (w64 (y4.2.2.2.2.2.2.2.1 - (1 : Int)))) ∧ ((w64 (y4.2.2.2.2.2.2.2.1 - (1 : Int))) < (y4.1 : Int)))) then
                  bindO (intC .i64 (y4.2.1[(((Int.toNat (w64 (y4.2.2.2.2.2.2.2.1 - (1 : Int)))) * 3) + 0)]?)) fun x7 =>
                  bif (decide (((0 : Int) ≤ y4.2.2.2.2.2.2.2.1) ∧ (y4.2.2.2.2.2.2.2.1 < (y4.1 : Int)))) then
                    bindO (intC .i64 (y4.2.1[(((Int.toNat y4.2.2.2.2.2.2.2.1) * 3) + 0)]?)) fun x8 =>
                    bif (decide (((0 : Int) ≤ (w64 (y4.2.2.2.2.2.2.2.1 - (1 : Int)))) ∧ ((w64 (y4.2.2.2.2.2.2.2.1 - (1 : Int))) < (y4.1 : Int)))) then
                      bindO (intC .i64 (y4.2.1[(((Int.toNat (w64 (y4.2.2.2.2.2.2.2.1 - (1 : Int)))) * 3) + 0)]?)) fun x9 =>
                      bindO (F 18 (RSh.one (CK.int .i64)) [(PV.int .i64 y4.2.2.1), (PV.int .i64 (w64 (x8 - x9)))]) fun (y10 : (Int)) =>
                      bindO (F 55 (RSh.one CK.list) [(PV.list y4.1 y4.2.1)]) fun (y11 : ((Nat) × (List PV))) =>
                      bindO (F 56 (RSh.tup [(Prod.mk true [CK.bool, (CK.int .i64), (CK.int .i64), (CK.int .i64), (CK.int .i64)]), (Prod.mk false [(CK.int .i64)])]) [(PV.agg [(PV.int .i64 y4.2.2.2.2.2.2.2.2.1), (PV.int .i64 y4.2.2.2.2.2.2.2.2.2.1), (PV.int .i64 y4.2.2.2.2.2.2.2.2.2.2.1), (PV.int .i64 y4.2.2.2.2.2.2.2.2.2.2.2.1)]), (PV.list y11.1 y11.2), (PV.int .i64 (w64 (x7 + y10)))]) fun (y12 : ((Bool) × ((Int) × ((Int) × ((Int) × ((Int) × (Int))))))) =>
                      bif y12.1 then
                        bif (decide (((0 : Int) ≤ y4.2.2.2.2.2.2.2.1) ∧ (y4.2.2.2.2.2.2.2.1 < (y4.1 : Int)))) then
                          bindO (intC .i64 (y4.2.1[((Int.toNat y4.2.2.2.2.2.2.2.1) * 3)]?)) fun x13 =>
                          bindO (intC .i64 (y4.2.1[(((Int.toNat y4.2.2.2.2.2.2.2.1) * 3) + 1)]?)) fun x14 =>
                          bindO (intC .i64 (y4.2.1[((((Int.toNat y4.2.2.2.2.2.2.2.1) * 3) + 1) + 1)]?)) fun x15 =>
                          bindO (F 46 (RSh.tup [(Prod.mk true [CK.bool, (CK.int .i64), (CK.int .i64), (CK.int .i64), (CK.int .i64)]), (Prod.mk false [(CK.int .i64)])]) [(PV.agg [(PV.int .i64 y4.2.2.2.2.2.2.2.2.1), (PV.int .i64 y4.2.2.2.2.2.2.2.2.2.1), (PV.int .i64 y4.2.2.2.2.2.2.2.2.2.2.1), (PV.int .i64 y4.2.2.2.2.2.2.2.2.2.2.2.1)]), (PV.agg [(PV.bool true), (PV.int .i64 y12.2.1), (PV.int .i64 y12.2.2.1), (PV.int .i64 y12.2.2.2.1), (PV.int .i64 y12.2.2.2.2.1)]), (PV.agg [(PV.int .i64 x13), (PV.int .i64 x14), (PV.int .i64 x15)])]) fun (y16 : ((Bool) × ((Int) × ((Int) × ((Int) × ((Int) × (Int))))))) =>
                          bif (y12.2.2.2.2.2 != (0 : Int)) then
                            E (Xlaw9_1000032a ())
                          else bif (y16.2.2.2.2.2 != (0 : Int)) then
                            E (Xlaw9_1000032a ())
                          else bif y16.1 then
                            bif y4.2.2.2.2.2.2.2.2.2.2.2.2.1 then
                              bif (!(true && ((y16.2.1 == y4.2.2.2.2.2.2.2.2.2.2.2.2.2.1) && ((y16.2.2.1 == y4.2.2.2.2.2.2.2.2.2.2.2.2.2.2.1) && ((y16.2.2.2.1 == y4.2.2.2.2.2.2.2.2.2.2.2.2.2.2.2.1) && ((y16.2.2.2.2.1 == y4.2.2.2.2.2.2.2.2.2.2.2.2.2.2.2.2) && true)))))) then
                                E (Xlaw9_1000032a ())
                              else E (Xlaw9_1000032b (y4.1, y4.2.1, y4.2.2.1, y4.2.2.2.1, y4.2.2.2.2.1, true, true, y4.2.2.2.2.2.2.2.1, y4.2.2.2.2.2.2.2.2.1, y4.2.2.2.2.2.2.2.2.2.1, y4.2.2.2.2.2.2.2.2.2.2.1, y4.2.2.2.2.2.2.2.2.2.2.2.1))
                            else E (Xlaw9_1000032a ())
                          else bif y4.2.2.2.2.2.2.2.2.2.2.2.2.1 then
                            E (Xlaw9_1000032a ())
                          else bif (!(true && ((y16.2.1 == y4.2.2.2.2.2.2.2.2.2.2.2.2.2.1) && ((y16.2.2.1 == y4.2.2.2.2.2.2.2.2.2.2.2.2.2.2.1) && ((y16.2.2.2.1 == y4.2.2.2.2.2.2.2.2.2.2.2.2.2.2.2.1) && ((y16.2.2.2.2.1 == y4.2.2.2.2.2.2.2.2.2.2.2.2.2.2.2.2) && true)))))) then
                            E (Xlaw9_1000032a ())
                          else E (Xlaw9_1000032b (y4.1, y4.2.1, y4.2.2.1, y4.2.2.2.1, y4.2.2.2.2.1, true, true, y4.2.2.2.2.2.2.2.1, y4.2.2.2.2.2.2.2.2.1, y4.2.2.2.2.2.2.2.2.2.1, y4.2.2.2.2.2.2.2.2.2.2.1, y4.2.2.2.2.2.2.2.2.2.2.2.1))
                        else none
                      else bif (decide (((0 : Int) ≤ y4.2.2.2.2.2.2.2.1) ∧ (y4.2.2.2.2.2.2.2.1 < (y4.1 : Int)))) then
                        bindO (intC .i64 (y4.2.1[((Int.toNat y4.2.2.2.2.2.2.2.1) * 3)]?)) fun x17 =>
                        bindO (intC .i64 (y4.2.1[(((Int.toNat y4.2.2.2.2.2.2.2.1) * 3) + 1)]?)) fun x18 =>
                        bindO (intC .i64 (y4.2.1[((((Int.toNat y4.2.2.2.2.2.2.2.1) * 3) + 1) + 1)]?)) fun x19 =>
                        bindO (F 46 (RSh.tup [(Prod.mk true [CK.bool, (CK.int .i64), (CK.int .i64), (CK.int .i64), (CK.int .i64)]), (Prod.mk false [(CK.int .i64)])]) [(PV.agg [(PV.int .i64 y4.2.2.2.2.2.2.2.2.1), (PV.int .i64 y4.2.2.2.2.2.2.2.2.2.1), (PV.int .i64 y4.2.2.2.2.2.2.2.2.2.2.1), (PV.int .i64 y4.2.2.2.2.2.2.2.2.2.2.2.1)]), (PV.agg [(PV.bool false), (PV.int .i64 y12.2.1), (PV.int .i64 y12.2.2.1), (PV.int .i64 y12.2.2.2.1), (PV.int .i64 y12.2.2.2.2.1)]), (PV.agg [(PV.int .i64 x17), (PV.int .i64 x18), (PV.int .i64 x19)])]) fun (y20 : ((Bool) × ((Int) × ((Int) × ((Int) × ((Int) × (Int))))))) =>
                        bif (y12.2.2.2.2.2 != (0 : Int)) then
                          E (Xlaw9_1000032a ())
                        else bif (y20.2.2.2.2.2 != (0 : Int)) then
                          E (Xlaw9_1000032a ())
                        else bif y20.1 then
                          bif y4.2.2.2.2.2.2.2.2.2.2.2.2.1 then
                            bif (!(true && ((y20.2.1 == y4.2.2.2.2.2.2.2.2.2.2.2.2.2.1) && ((y20.2.2.1 == y4.2.2.2.2.2.2.2.2.2.2.2.2.2.2.1) && ((y20.2.2.2.1 == y4.2.2.2.2.2.2.2.2.2.2.2.2.2.2.2.1) && ((y20.2.2.2.2.1 == y4.2.2.2.2.2.2.2.2.2.2.2.2.2.2.2.2) && true)))))) then
                              E (Xlaw9_1000032a ())
                            else E (Xlaw9_1000032b (y4.1, y4.2.1, y4.2.2.1, y4.2.2.2.1, y4.2.2.2.2.1, true, true, y4.2.2.2.2.2.2.2.1, y4.2.2.2.2.2.2.2.2.1, y4.2.2.2.2.2.2.2.2.2.1, y4.2.2.2.2.2.2.2.2.2.2.1, y4.2.2.2.2.2.2.2.2.2.2.2.1))
                          else E (Xlaw9_1000032a ())
                        else bif y4.2.2.2.2.2.2.2.2.2.2.2.2.1 then
                          E (Xlaw9_1000032a ())
                        else bif (!(true && ((y20.2.1 == y4.2.2.2.2.2.2.2.2.2.2.2.2.2.1) && ((y20.2.2.1 == y4.2.2.2.2.2.2.2.2.2.2.2.2.2.2.1) && ((y20.2.2.2.1 == y4.2.2.2.2.2.2.2.2.2.2.2.2.2.2.2.1) && ((y20.2.2.2.2.1 == y4.2.2.2.2.2.2.2.2.2.2.2.2.2.2.2.2) && true)))))) then
                          E (Xlaw9_1000032a ())
                        else E (Xlaw9_1000032b (y4.1, y4.2.1, y4.2.2.1, y4.2.2.2.1, y4.2.2.2.2.1, true, true, y4.2.2.2.2.2.2.2.1, y4.2.2.2.2.2.2.2.2.1, y4.2.2.2.2.2.2.2.2.2.1, y4.2.2.2.2.2.2.2.2.2.2.1, y4.2.2.2.2.2.2.2.2.2.2.2.1))
                      else none
                    else none
                  else none
                else none
              else bif (decide (((0 : Int) ≤ (w64 (y4.2.2.2.2.2.2.2.1 - (1 : Int)))) ∧ ((w64 (y4.2.2.2.2.2.2.2.1 - (1 : Int))) < (y4.1 : Int)))) then
                bindO (intC .i64 (y4.2.1[(((Int.toNat (w64 (y4.2.2.2.2.2.2.2.1 - (1 : Int)))) * 3) + 0)]?)) fun x21 =>
                bif (decide (((0 : Int) ≤ y4.2.2.2.2.2.2.2.1) ∧ (y4.2.2.2.2.2.2.2.1 < (y4.1 : Int)))) then
                  bindO (intC .i64 (y4.2.1[(((Int.toNat y4.2.2.2.2.2.2.2.1) * 3) + 0)]?)) fun x22 =>
                  bif (decide (((0 : Int) ≤ (w64 (y4.2.2.2.2.2.2.2.1 - (1 : Int)))) ∧ ((w64 (y4.2.2.2.2.2.2.2.1 - (1 : Int))) < (y4.1 : Int)))) then
                    bindO (intC .i64 (y4.2.1[(((Int.toNat (w64 (y4.2.2.2.2.2.2.2.1 - (1 : Int)))) * 3) + 0)]?)) fun x23 =>
                    bindO (F 18 (RSh.one (CK.int .i64)) [(PV.int .i64 y4.2.2.1), (PV.int .i64 (w64 (x22 - x23)))]) fun (y24 : (Int)) =>
                    bindO (F 55 (RSh.one CK.list) [(PV.list y4.1 y4.2.1)]) fun (y25 : ((Nat) × (List PV))) =>
                    bindO (F 56 (RSh.tup [(Prod.mk true [CK.bool, (CK.int .i64), (CK.int .i64), (CK.int .i64), (CK.int .i64)]), (Prod.mk false [(CK.int .i64)])]) [(PV.agg [(PV.int .i64 y4.2.2.2.2.2.2.2.2.1), (PV.int .i64 y4.2.2.2.2.2.2.2.2.2.1), (PV.int .i64 y4.2.2.2.2.2.2.2.2.2.2.1), (PV.int .i64 y4.2.2.2.2.2.2.2.2.2.2.2.1)]), (PV.list y25.1 y25.2), (PV.int .i64 (w64 (x21 + y24)))]) fun (y26 : ((Bool) × ((Int) × ((Int) × ((Int) × ((Int) × (Int))))))) =>
                    bif y26.1 then
                      bif (decide (((0 : Int) ≤ y4.2.2.2.2.2.2.2.1) ∧ (y4.2.2.2.2.2.2.2.1 < (y4.1 : Int)))) then
                        bindO (intC .i64 (y4.2.1[((Int.toNat y4.2.2.2.2.2.2.2.1) * 3)]?)) fun x27 =>
                        bindO (intC .i64 (y4.2.1[(((Int.toNat y4.2.2.2.2.2.2.2.1) * 3) + 1)]?)) fun x28 =>
                        bindO (intC .i64 (y4.2.1[((((Int.toNat y4.2.2.2.2.2.2.2.1) * 3) + 1) + 1)]?)) fun x29 =>
                        bindO (F 46 (RSh.tup [(Prod.mk true [CK.bool, (CK.int .i64), (CK.int .i64), (CK.int .i64), (CK.int .i64)]), (Prod.mk false [(CK.int .i64)])]) [(PV.agg [(PV.int .i64 y4.2.2.2.2.2.2.2.2.1), (PV.int .i64 y4.2.2.2.2.2.2.2.2.2.1), (PV.int .i64 y4.2.2.2.2.2.2.2.2.2.2.1), (PV.int .i64 y4.2.2.2.2.2.2.2.2.2.2.2.1)]), (PV.agg [(PV.bool true), (PV.int .i64 y26.2.1), (PV.int .i64 y26.2.2.1), (PV.int .i64 y26.2.2.2.1), (PV.int .i64 y26.2.2.2.2.1)]), (PV.agg [(PV.int .i64 x27), (PV.int .i64 x28), (PV.int .i64 x29)])]) fun (y30 : ((Bool) × ((Int) × ((Int) × ((Int) × ((Int) × (Int))))))) =>
                        bif (y26.2.2.2.2.2 != (0 : Int)) then
                          E (Xlaw9_1000032a ())
                        else bif (y30.2.2.2.2.2 != (0 : Int)) then
                          E (Xlaw9_1000032a ())
                        else bif y30.1 then
                          bif y4.2.2.2.2.2.2.2.2.2.2.2.2.1 then
                            bif (!(true && ((y30.2.1 == y4.2.2.2.2.2.2.2.2.2.2.2.2.2.1) && ((y30.2.2.1 == y4.2.2.2.2.2.2.2.2.2.2.2.2.2.2.1) && ((y30.2.2.2.1 == y4.2.2.2.2.2.2.2.2.2.2.2.2.2.2.2.1) && ((y30.2.2.2.2.1 == y4.2.2.2.2.2.2.2.2.2.2.2.2.2.2.2.2) && true)))))) then
                              E (Xlaw9_1000032a ())
                            else E (Xlaw9_1000032b (y4.1, y4.2.1, y4.2.2.1, y4.2.2.2.1, y4.2.2.2.2.1, false, true, y4.2.2.2.2.2.2.2.1, y4.2.2.2.2.2.2.2.2.1, y4.2.2.2.2.2.2.2.2.2.1, y4.2.2.2.2.2.2.2.2.2.2.1, y4.2.2.2.2.2.2.2.2.2.2.2.1))
                          else E (Xlaw9_1000032a ())
                        else bif y4.2.2.2.2.2.2.2.2.2.2.2.2.1 then
                          E (Xlaw9_1000032a ())
                        else bif (!(true && ((y30.2.1 == y4.2.2.2.2.2.2.2.2.2.2.2.2.2.1) && ((y30.2.2.1 == y4.2.2.2.2.2.2.2.2.2.2.2.2.2.2.1) && ((y30.2.2.2.1 == y4.2.2.2.2.2.2.2.2.2.2.2.2.2.2.2.1) && ((y30.2.2.2.2.1 == y4.2.2.2.2.2.2.2.2.2.2.2.2.2.2.2.2) && true)))))) then
                          E (Xlaw9_1000032a ())
                        else E (Xlaw9_1000032b (y4.1, y4.2.1, y4.2.2.1, y4.2.2.2.1, y4.2.2.2.2.1, false, true, y4.2.2.2.2.2.2.2.1, y4.2.2.2.2.2.2.2.2.1, y4.2.2.2.2.2.2.2.2.2.1, y4.2.2.2.2.2.2.2.2.2.2.1, y4.2.2.2.2.2.2.2.2.2.2.2.1))
                      else none
                    else bif (decide (((0 : Int) ≤ y4.2.2.2.2.2.2.2.1) ∧ (y4.2.2.2.2.2.2.2.1 < (y4.1 : Int)))) then
                      bindO (intC .i64 (y4.2.1[((Int.toNat y4.2.2.2.2.2.2.2.1) * 3)]?)) fun x31 =>
                      bindO (intC .i64 (y4.2.1[(((Int.toNat y4.2.2.2.2.2.2.2.1) * 3) + 1)]?)) fun x32 =>
                      bindO (intC .i64 (y4.2.1[((((Int.toNat y4.2.2.2.2.2.2.2.1) * 3) + 1) + 1)]?)) fun x33 =>
                      bindO (F 46 (RSh.tup [(Prod.mk true [CK.bool, (CK.int .i64), (CK.int .i64), (CK.int .i64), (CK.int .i64)]), (Prod.mk false [(CK.int .i64)])]) [(PV.agg [(PV.int .i64 y4.2.2.2.2.2.2.2.2.1), (PV.int .i64 y4.2.2.2.2.2.2.2.2.2.1), (PV.int .i64 y4.2.2.2.2.2.2.2.2.2.2.1), (PV.int .i64 y4.2.2.2.2.2.2.2.2.2.2.2.1)]), (PV.agg [(PV.bool false), (PV.int .i64 y26.2.1), (PV.int .i64 y26.2.2.1), (PV.int .i64 y26.2.2.2.1), (PV.int .i64 y26.2.2.2.2.1)]), (PV.agg [(PV.int .i64 x31), (PV.int .i64 x32), (PV.int .i64 x33)])]) fun (y34 : ((Bool) × ((Int) × ((Int) × ((Int) × ((Int) × (Int))))))) =>
                      bif (y26.2.2.2.2.2 != (0 : Int)) then
                        E (Xlaw9_1000032a ())
                      else bif (y34.2.2.2.2.2 != (0 : Int)) then
                        E (Xlaw9_1000032a ())
                      else bif y34.1 then
                        bif y4.2.2.2.2.2.2.2.2.2.2.2.2.1 then
                          bif (!(true && ((y34.2.1 == y4.2.2.2.2.2.2.2.2.2.2.2.2.2.1) && ((y34.2.2.1 == y4.2.2.2.2.2.2.2.2.2.2.2.2.2.2.1) && ((y34.2.2.2.1 == y4.2.2.2.2.2.2.2.2.2.2.2.2.2.2.2.1) && ((y34.2.2.2.2.1 == y4.2.2.2.2.2.2.2.2.2.2.2.2.2.2.2.2) && true)))))) then
                            E (Xlaw9_1000032a ())
                          else E (Xlaw9_1000032b (y4.1, y4.2.1, y4.2.2.1, y4.2.2.2.1, y4.2.2.2.2.1, false, true, y4.2.2.2.2.2.2.2.1, y4.2.2.2.2.2.2.2.2.1, y4.2.2.2.2.2.2.2.2.2.1, y4.2.2.2.2.2.2.2.2.2.2.1, y4.2.2.2.2.2.2.2.2.2.2.2.1))
                        else E (Xlaw9_1000032a ())
                      else bif y4.2.2.2.2.2.2.2.2.2.2.2.2.1 then
                        E (Xlaw9_1000032a ())
                      else bif (!(true && ((y34.2.1 == y4.2.2.2.2.2.2.2.2.2.2.2.2.2.1) && ((y34.2.2.1 == y4.2.2.2.2.2.2.2.2.2.2.2.2.2.2.1) && ((y34.2.2.2.1 == y4.2.2.2.2.2.2.2.2.2.2.2.2.2.2.2.1) && ((y34.2.2.2.2.1 == y4.2.2.2.2.2.2.2.2.2.2.2.2.2.2.2.2) && true)))))) then
                        E (Xlaw9_1000032a ())
                      else E (Xlaw9_1000032b (y4.1, y4.2.1, y4.2.2.1, y4.2.2.2.1, y4.2.2.2.2.1, false, true, y4.2.2.2.2.2.2.2.1, y4.2.2.2.2.2.2.2.2.1, y4.2.2.2.2.2.2.2.2.2.1, y4.2.2.2.2.2.2.2.2.2.2.1, y4.2.2.2.2.2.2.2.2.2.2.2.1))
                    else none
                  else none
                else none
              else none
            else none
          else none
        else bif (decide (((0 : Int) ≤ (w64 (y4.2.2.2.2.2.2.2.1 - (1 : Int)))) ∧ ((w64 (y4.2.2.2.2.2.2.2.1 - (1 : Int))) < (y4.1 : Int)))) then
          bindO (intC .i64 (y4.2.1[(((Int.toNat (w64 (y4.2.2.2.2.2.2.2.1 - (1 : Int)))) * 3) + 0)]?)) fun x35 =>
          bif (decide (((0 : Int) ≤ y4.2.2.2.2.2.2.2.1) ∧ (y4.2.2.2.2.2.2.2.1 < (y4.1 : Int)))) then
            bindO (intC .i64 (y4.2.1[(((Int.toNat y4.2.2.2.2.2.2.2.1) * 3) + 0)]?)) fun x36 =>
            bif (decide (((0 : Int) ≤ (w64 (y4.2.2.2.2.2.2.2.1 - (1 : Int)))) ∧ ((w64 (y4.2.2.2.2.2.2.2.1 - (1 : Int))) < (y4.1 : Int)))) then
              bindO (intC .i64 (y4.2.1[(((Int.toNat (w64 (y4.2.2.2.2.2.2.2.1 - (1 : Int)))) * 3) + 0)]?)) fun x37 =>
              bindO (F 18 (RSh.one (CK.int .i64)) [(PV.int .i64 y4.2.2.1), (PV.int .i64 (w64 (x36 - x37)))]) fun (y38 : (Int)) =>
              bindO (F 55 (RSh.one CK.list) [(PV.list y4.1 y4.2.1)]) fun (y39 : ((Nat) × (List PV))) =>
              bindO (F 56 (RSh.tup [(Prod.mk true [CK.bool, (CK.int .i64), (CK.int .i64), (CK.int .i64), (CK.int .i64)]), (Prod.mk false [(CK.int .i64)])]) [(PV.agg [(PV.int .i64 y4.2.2.2.2.2.2.2.2.1), (PV.int .i64 y4.2.2.2.2.2.2.2.2.2.1), (PV.int .i64 y4.2.2.2.2.2.2.2.2.2.2.1), (PV.int .i64 y4.2.2.2.2.2.2.2.2.2.2.2.1)]), (PV.list y39.1 y39.2), (PV.int .i64 (w64 (x35 + y38)))]) fun (y40 : ((Bool) × ((Int) × ((Int) × ((Int) × ((Int) × (Int))))))) =>
              bif y40.1 then
                bif (decide (((0 : Int) ≤ y4.2.2.2.2.2.2.2.1) ∧ (y4.2.2.2.2.2.2.2.1 < (y4.1 : Int)))) then
                  bindO (intC .i64 (y4.2.1[((Int.toNat y4.2.2.2.2.2.2.2.1) * 3)]?)) fun x41 =>
                  bindO (intC .i64 (y4.2.1[(((Int.toNat y4.2.2.2.2.2.2.2.1) * 3) + 1)]?)) fun x42 =>
                  bindO (intC .i64 (y4.2.1[((((Int.toNat y4.2.2.2.2.2.2.2.1) * 3) + 1) + 1)]?)) fun x43 =>
                  bindO (F 46 (RSh.tup [(Prod.mk true [CK.bool, (CK.int .i64), (CK.int .i64), (CK.int .i64), (CK.int .i64)]), (Prod.mk false [(CK.int .i64)])]) [(PV.agg [(PV.int .i64 y4.2.2.2.2.2.2.2.2.1), (PV.int .i64 y4.2.2.2.2.2.2.2.2.2.1), (PV.int .i64 y4.2.2.2.2.2.2.2.2.2.2.1), (PV.int .i64 y4.2.2.2.2.2.2.2.2.2.2.2.1)]), (PV.agg [(PV.bool true), (PV.int .i64 y40.2.1), (PV.int .i64 y40.2.2.1), (PV.int .i64 y40.2.2.2.1), (PV.int .i64 y40.2.2.2.2.1)]), (PV.agg [(PV.int .i64 x41), (PV.int .i64 x42), (PV.int .i64 x43)])]) fun (y44 : ((Bool) × ((Int) × ((Int) × ((Int) × ((Int) × (Int))))))) =>
                  bif (y40.2.2.2.2.2 != (0 : Int)) then
                    E (Xlaw9_1000032a ())
                  else bif (y44.2.2.2.2.2 != (0 : Int)) then
                    E (Xlaw9_1000032a ())
                  else bif y44.1 then
                    bif y4.2.2.2.2.2.2.2.2.2.2.2.2.1 then
                      bif (!(true && ((y44.2.1 == y4.2.2.2.2.2.2.2.2.2.2.2.2.2.1) && ((y44.2.2.1 == y4.2.2.2.2.2.2.2.2.2.2.2.2.2.2.1) && ((y44.2.2.2.1 == y4.2.2.2.2.2.2.2.2.2.2.2.2.2.2.2.1) && ((y44.2.2.2.2.1 == y4.2.2.2.2.2.2.2.2.2.2.2.2.2.2.2.2) && true)))))) then
                        E (Xlaw9_1000032a ())
                      else E (Xlaw9_1000032b (y4.1, y4.2.1, y4.2.2.1, y4.2.2.2.1, y4.2.2.2.2.1, false, true, y4.2.2.2.2.2.2.2.1, y4.2.2.2.2.2.2.2.2.1, y4.2.2.2.2.2.2.2.2.2.1, y4.2.2.2.2.2.2.2.2.2.2.1, y4.2.2.2.2.2.2.2.2.2.2.2.1))
                    else E (Xlaw9_1000032a ())
                  else bif y4.2.2.2.2.2.2.2.2.2.2.2.2.1 then
                    E (Xlaw9_1000032a ())
                  else bif (!(true && ((y44.2.1 == y4.2.2.2.2.2.2.2.2.2.2.2.2.2.1) && ((y44.2.2.1 == y4.2.2.2.2.2.2.2.2.2.2.2.2.2.2.1) && ((y44.2.2.2.1 == y4.2.2.2.2.2.2.2.2.2.2.2.2.2.2.2.1) && ((y44.2.2.2.2.1 == y4.2.2.2.2.2.2.2.2.2.2.2.2.2.2.2.2) && true)))))) then
                    E (Xlaw9_1000032a ())
                  else E (Xlaw9_1000032b (y4.1, y4.2.1, y4.2.2.1, y4.2.2.2.1, y4.2.2.2.2.1, false, true, y4.2.2.2.2.2.2.2.1, y4.2.2.2.2.2.2.2.2.1, y4.2.2.2.2.2.2.2.2.2.1, y4.2.2.2.2.2.2.2.2.2.2.1, y4.2.2.2.2.2.2.2.2.2.2.2.1))
                else none
              else bif (decide (((0 : Int) ≤ y4.2.2.2.2.2.2.2.1) ∧ (y4.2.2.2.2.2.2.2.1 < (y4.1 : Int)))) then
                bindO (intC .i64 (y4.2.1[((Int.toNat y4.2.2.2.2.2.2.2.1) * 3)]?)) fun x45 =>
                bindO (intC .i64 (y4.2.1[(((Int.toNat y4.2.2.2.2.2.2.2.1) * 3) + 1)]?)) fun x46 =>
                bindO (intC .i64 (y4.2.1[((((Int.toNat y4.2.2.2.2.2.2.2.1) * 3) + 1) + 1)]?)) fun x47 =>
                bindO (F 46 (RSh.tup [(Prod.mk true [CK.bool, (CK.int .i64), (CK.int .i64), (CK.int .i64), (CK.int .i64)]), (Prod.mk false [(CK.int .i64)])]) [(PV.agg [(PV.int .i64 y4.2.2.2.2.2.2.2.2.1), (PV.int .i64 y4.2.2.2.2.2.2.2.2.2.1), (PV.int .i64 y4.2.2.2.2.2.2.2.2.2.2.1), (PV.int .i64 y4.2.2.2.2.2.2.2.2.2.2.2.1)]), (PV.agg [(PV.bool false), (PV.int .i64 y40.2.1), (PV.int .i64 y40.2.2.1), (PV.int .i64 y40.2.2.2.1), (PV.int .i64 y40.2.2.2.2.1)]), (PV.agg [(PV.int .i64 x45), (PV.int .i64 x46), (PV.int .i64 x47)])]) fun (y48 : ((Bool) × ((Int) × ((Int) × ((Int) × ((Int) × (Int))))))) =>
                bif (y40.2.2.2.2.2 != (0 : Int)) then
                  E (Xlaw9_1000032a ())
                else bif (y48.2.2.2.2.2 != (0 : Int)) then
                  E (Xlaw9_1000032a ())
                else bif y48.1 then
                  bif y4.2.2.2.2.2.2.2.2.2.2.2.2.1 then
                    bif (!(true && ((y48.2.1 == y4.2.2.2.2.2.2.2.2.2.2.2.2.2.1) && ((y48.2.2.1 == y4.2.2.2.2.2.2.2.2.2.2.2.2.2.2.1) && ((y48.2.2.2.1 == y4.2.2.2.2.2.2.2.2.2.2.2.2.2.2.2.1) && ((y48.2.2.2.2.1 == y4.2.2.2.2.2.2.2.2.2.2.2.2.2.2.2.2) && true)))))) then
                      E (Xlaw9_1000032a ())
                    else E (Xlaw9_1000032b (y4.1, y4.2.1, y4.2.2.1, y4.2.2.2.1, y4.2.2.2.2.1, false, true, y4.2.2.2.2.2.2.2.1, y4.2.2.2.2.2.2.2.2.1, y4.2.2.2.2.2.2.2.2.2.1, y4.2.2.2.2.2.2.2.2.2.2.1, y4.2.2.2.2.2.2.2.2.2.2.2.1))
                  else E (Xlaw9_1000032a ())
                else bif y4.2.2.2.2.2.2.2.2.2.2.2.2.1 then
                  E (Xlaw9_1000032a ())
                else bif (!(true && ((y48.2.1 == y4.2.2.2.2.2.2.2.2.2.2.2.2.2.1) && ((y48.2.2.1 == y4.2.2.2.2.2.2.2.2.2.2.2.2.2.2.1) && ((y48.2.2.2.1 == y4.2.2.2.2.2.2.2.2.2.2.2.2.2.2.2.1) && ((y48.2.2.2.2.1 == y4.2.2.2.2.2.2.2.2.2.2.2.2.2.2.2.2) && true)))))) then
                  E (Xlaw9_1000032a ())
                else E (Xlaw9_1000032b (y4.1, y4.2.1, y4.2.2.1, y4.2.2.2.1, y4.2.2.2.2.1, false, true, y4.2.2.2.2.2.2.2.1, y4.2.2.2.2.2.2.2.2.1, y4.2.2.2.2.2.2.2.2.2.1, y4.2.2.2.2.2.2.2.2.2.2.1, y4.2.2.2.2.2.2.2.2.2.2.2.1))
              else none
            else none
          else none
        else none
      else bif (decide (((0 : Int) ≤ y4.2.2.2.2.2.2.2.1) ∧ (y4.2.2.2.2.2.2.2.1 < (y4.1 : Int)))) then
        bindO (intC .i64 (y4.2.1[((((Int.toNat y4.2.2.2.2.2.2.2.1) * 3) + 1) + 1)]?)) fun x49 =>
        bif (decide (x49 < y4.2.2.2.2.2.2.2.2.2.1)) then
          bif (y4.2.2.2.2.2.2.2.1 == (0 : Int)) then
            E (Xlaw9_1000032b (y4.1, y4.2.1, y4.2.2.1, y4.2.2.2.1, y4.2.2.2.2.1, y4.2.2.2.2.2.1, true, y4.2.2.2.2.2.2.2.1, y4.2.2.2.2.2.2.2.2.1, y4.2.2.2.2.2.2.2.2.2.1, y4.2.2.2.2.2.2.2.2.2.2.1, y4.2.2.2.2.2.2.2.2.2.2.2.1))
          else bif y4.2.2.2.2.2.1 then
            bif (decide (((0 : Int) ≤ y4.2.2.2.2.2.2.2.1) ∧ (y4.2.2.2.2.2.2.2.1 < (y4.1 : Int)))) then
              bindO (intC .i64 (y4.2.1[(((Int.toNat y4.2.2.2.2.2.2.2.1) * 3) + 0)]?)) fun x50 =>
              bif (decide (((0 : Int) ≤ (w64 (y4.2.2.2.2.2.2.2.1 - (1 : Int)))) ∧ ((w64 (y4.2.2.2.2.2.2.2.1 - (1 : Int))) < (y4.1 : Int)))) then
                bindO (intC .i64 (y4.2.1[(((Int.toNat (w64 (y4.2.2.2.2.2.2.2.1 - (1 : Int)))) * 3) + 0)]?)) fun x51 =>
                bif (decide ((w64 (x50 - x51)) ≤ y4.2.2.2.2.2.2.2.2.2.2.2.1)) then
                  bif (decide (((0 : Int) ≤ (w64 (y4.2.2.2.2.2.2.2.1 - (1 : Int)))) ∧ ((w64 (y4.2.2.2.2.2.2.2.1 - (1 : Int))) < (y4.1 : Int)))) then
                    bindO (intC .i64 (y4.2.1[(((Int.toNat (w64 (y4.2.2.2.2.2.2.2.1 - (1 : Int)))) * 3) + 0)]?)) fun x52 =>
                    bif (decide (((0 : Int) ≤ y4.2.2.2.2.2.2.2.1) ∧ (y4.2.2.2.2.2.2.2.1 < (y4.1 : Int)))) then
                      bindO (intC .i64 (y4.2.1[(((Int.toNat y4.2.2.2.2.2.2.2.1) * 3) + 0)]?)) fun x53 =>
                      bif (decide (((0 : Int) ≤ (w64 (y4.2.2.2.2.2.2.2.1 - (1 : Int)))) ∧ ((w64 (y4.2.2.2.2.2.2.2.1 - (1 : Int))) < (y4.1 : Int)))) then
                        bindO (intC .i64 (y4.2.1[(((Int.toNat (w64 (y4.2.2.2.2.2.2.2.1 - (1 : Int)))) * 3) + 0)]?)) fun x54 =>
                        bindO (F 18 (RSh.one (CK.int .i64)) [(PV.int .i64 y4.2.2.1), (PV.int .i64 (w64 (x53 - x54)))]) fun (y55 : (Int)) =>
                        bindO (F 55 (RSh.one CK.list) [(PV.list y4.1 y4.2.1)]) fun (y56 : ((Nat) × (List PV))) =>
                        bindO (F 56 (RSh.tup [(Prod.mk true [CK.bool, (CK.int .i64), (CK.int .i64), (CK.int .i64), (CK.int .i64)]), (Prod.mk false [(CK.int .i64)])]) [(PV.agg [(PV.int .i64 y4.2.2.2.2.2.2.2.2.1), (PV.int .i64 y4.2.2.2.2.2.2.2.2.2.1), (PV.int .i64 y4.2.2.2.2.2.2.2.2.2.2.1), (PV.int .i64 y4.2.2.2.2.2.2.2.2.2.2.2.1)]), (PV.list y56.1 y56.2), (PV.int .i64 (w64 (x52 + y55)))]) fun (y57 : ((Bool) × ((Int) × ((Int) × ((Int) × ((Int) × (Int))))))) =>
                        bif y57.1 then
                          bif (decide (((0 : Int) ≤ y4.2.2.2.2.2.2.2.1) ∧ (y4.2.2.2.2.2.2.2.1 < (y4.1 : Int)))) then
                            bindO (intC .i64 (y4.2.1[((Int.toNat y4.2.2.2.2.2.2.2.1) * 3)]?)) fun x58 =>
                            bindO (intC .i64 (y4.2.1[(((Int.toNat y4.2.2.2.2.2.2.2.1) * 3) + 1)]?)) fun x59 =>
                            bindO (intC .i64 (y4.2.1[((((Int.toNat y4.2.2.2.2.2.2.2.1) * 3) + 1) + 1)]?)) fun x60 =>
                            bindO (F 46 (RSh.tup [(Prod.mk true [CK.bool, (CK.int .i64), (CK.int .i64), (CK.int .i64), (CK.int .i64)]), (Prod.mk false [(CK.int .i64)])]) [(PV.agg [(PV.int .i64 y4.2.2.2.2.2.2.2.2.1), (PV.int .i64 y4.2.2.2.2.2.2.2.2.2.1), (PV.int .i64 y4.2.2.2.2.2.2.2.2.2.2.1), (PV.int .i64 y4.2.2.2.2.2.2.2.2.2.2.2.1)]), (PV.agg [(PV.bool true), (PV.int .i64 y57.2.1), (PV.int .i64 y57.2.2.1), (PV.int .i64 y57.2.2.2.1), (PV.int .i64 y57.2.2.2.2.1)]), (PV.agg [(PV.int .i64 x58), (PV.int .i64 x59), (PV.int .i64 x60)])]) fun (y61 : ((Bool) × ((Int) × ((Int) × ((Int) × ((Int) × (Int))))))) =>
                            bif (y57.2.2.2.2.2 != (0 : Int)) then
                              E (Xlaw9_1000032a ())
                            else bif (y61.2.2.2.2.2 != (0 : Int)) then
                              E (Xlaw9_1000032a ())
                            else bif y61.1 then
                              bif y4.2.2.2.2.2.2.2.2.2.2.2.2.1 then
                                bif (!(true && ((y61.2.1 == y4.2.2.2.2.2.2.2.2.2.2.2.2.2.1) && ((y61.2.2.1 == y4.2.2.2.2.2.2.2.2.2.2.2.2.2.2.1) && ((y61.2.2.2.1 == y4.2.2.2.2.2.2.2.2.2.2.2.2.2.2.2.1) && ((y61.2.2.2.2.1 == y4.2.2.2.2.2.2.2.2.2.2.2.2.2.2.2.2) && true)))))) then
                                  E (Xlaw9_1000032a ())
                                else E (Xlaw9_1000032b (y4.1, y4.2.1, y4.2.2.1, y4.2.2.2.1, y4.2.2.2.2.1, true, true, y4.2.2.2.2.2.2.2.1, y4.2.2.2.2.2.2.2.2.1, y4.2.2.2.2.2.2.2.2.2.1, y4.2.2.2.2.2.2.2.2.2.2.1, y4.2.2.2.2.2.2.2.2.2.2.2.1))
                              else E (Xlaw9_1000032a ())
                            else bif y4.2.2.2.2.2.2.2.2.2.2.2.2.1 then
                              E (Xlaw9_1000032a ())
                            else bif (!(true && ((y61.2.1 == y4.2.2.2.2.2.2.2.2.2.2.2.2.2.1) && ((y61.2.2.1 == y4.2.2.2.2.2.2.2.2.2.2.2.2.2.2.1) && ((y61.2.2.2.1 == y4.2.2.2.2.2.2.2.2.2.2.2.2.2.2.2.1) && ((y61.2.2.2.2.1 == y4.2.2.2.2.2.2.2.2.2.2.2.2.2.2.2.2) && true)))))) then
                              E (Xlaw9_1000032a ())
                            else E (Xlaw9_1000032b (y4.1, y4.2.1, y4.2.2.1, y4.2.2.2.1, y4.2.2.2.2.1, true, true, y4.2.2.2.2.2.2.2.1, y4.2.2.2.2.2.2.2.2.1, y4.2.2.2.2.2.2.2.2.2.1, y4.2.2.2.2.2.2.2.2.2.2.1, y4.2.2.2.2.2.2.2.2.2.2.2.1))
                          else none
                        else bif (decide (((0 : Int) ≤ y4.2.2.2.2.2.2.2.1) ∧ (y4.2.2.2.2.2.2.2.1 < (y4.1 : Int)))) then
                          bindO (intC .i64 (y4.2.1[((Int.toNat y4.2.2.2.2.2.2.2.1) * 3)]?)) fun x62 =>
                          bindO (intC .i64 (y4.2.1[(((Int.toNat y4.2.2.2.2.2.2.2.1) * 3) + 1)]?)) fun x63 =>
                          bindO (intC .i64 (y4.2.1[((((Int.toNat y4.2.2.2.2.2.2.2.1) * 3) + 1) + 1)]?)) fun x64 =>
                          bindO (F 46 (RSh.tup [(Prod.mk true [CK.bool, (CK.int .i64), (CK.int .i64), (CK.int .i64), (CK.int .i64)]), (Prod.mk false [(CK.int .i64)])]) [(PV.agg [(PV.int .i64 y4.2.2.2.2.2.2.2.2.1), (PV.int .i64 y4.2.2.2.2.2.2.2.2.2.1), (PV.int .i64 y4.2.2.2.2.2.2.2.2.2.2.1), (PV.int .i64 y4.2.2.2.2.2.2.2.2.2.2.2.1)]), (PV.agg [(PV.bool false), (PV.int .i64 y57.2.1), (PV.int .i64 y57.2.2.1), (PV.int .i64 y57.2.2.2.1), (PV.int .i64 y57.2.2.2.2.1)]), (PV.agg [(PV.int .i64 x62), (PV.int .i64 x63), (PV.int .i64 x64)])]) fun (y65 : ((Bool) × ((Int) × ((Int) × ((Int) × ((Int) × (Int))))))) =>
                          bif (y57.2.2.2.2.2 != (0 : Int)) then
                            E (Xlaw9_1000032a ())
                          else bif (y65.2.2.2.2.2 != (0 : Int)) then
                            E (Xlaw9_1000032a ())
                          else bif y65.1 then
                            bif y4.2.2.2.2.2.2.2.2.2.2.2.2.1 then
                              bif (!(true && ((y65.2.1 == y4.2.2.2.2.2.2.2.2.2.2.2.2.2.1) && ((y65.2.2.1 == y4.2.2.2.2.2.2.2.2.2.2.2.2.2.2.1) && ((y65.2.2.2.1 == y4.2.2.2.2.2.2.2.2.2.2.2.2.2.2.2.1) && ((y65.2.2.2.2.1 == y4.2.2.2.2.2.2.2.2.2.2.2.2.2.2.2.2) && true)))))) then
                                E (Xlaw9_1000032a ())
                              else E (Xlaw9_1000032b (y4.1, y4.2.1, y4.2.2.1, y4.2.2.2.1, y4.2.2.2.2.1, true, true, y4.2.2.2.2.2.2.2.1, y4.2.2.2.2.2.2.2.2.1, y4.2.2.2.2.2.2.2.2.2.1, y4.2.2.2.2.2.2.2.2.2.2.1, y4.2.2.2.2.2.2.2.2.2.2.2.1))
                            else E (Xlaw9_1000032a ())
                          else bif y4.2.2.2.2.2.2.2.2.2.2.2.2.1 then
                            E (Xlaw9_1000032a ())
                          else bif (!(true && ((y65.2.1 == y4.2.2.2.2.2.2.2.2.2.2.2.2.2.1) && ((y65.2.2.1 == y4.2.2.2.2.2.2.2.2.2.2.2.2.2.2.1) && ((y65.2.2.2.1 == y4.2.2.2.2.2.2.2.2.2.2.2.2.2.2.2.1) && ((y65.2.2.2.2.1 == y4.2.2.2.2.2.2.2.2.2.2.2.2.2.2.2.2) && true)))))) then
                            E (Xlaw9_1000032a ())
                          else E (Xlaw9_1000032b (y4.1, y4.2.1, y4.2.2.1, y4.2.2.2.1, y4.2.2.2.2.1, true, true, y4.2.2.2.2.2.2.2.1, y4.2.2.2.2.2.2.2.2.1, y4.2.2.2.2.2.2.2.2.2.1, y4.2.2.2.2.2.2.2.2.2.2.1, y4.2.2.2.2.2.2.2.2.2.2.2.1))
                        else none
                      else none
                    else none
                  else none
                else bif (decide (((0 : Int) ≤ (w64 (y4.2.2.2.2.2.2.2.1 - (1 : Int)))) ∧ ((w64 (y4.2.2.2.2.2.2.2.1 - (1 : Int))) < (y4.1 : Int)))) then
                  bindO (intC .i64 (y4.2.1[(((Int.toNat (w64 (y4.2.2.2.2.2.2.2.1 - (1 : Int)))) * 3) + 0)]?)) fun x66 =>
                  bif (decide (((0 : Int) ≤ y4.2.2.2.2.2.2.2.1) ∧ (y4.2.2.2.2.2.2.2.1 < (y4.1 : Int)))) then
                    bindO (intC .i64 (y4.2.1[(((Int.toNat y4.2.2.2.2.2.2.2.1) * 3) + 0)]?)) fun x67 =>
                    bif (decide (((0 : Int) ≤ (w64 (y4.2.2.2.2.2.2.2.1 - (1 : Int)))) ∧ ((w64 (y4.2.2.2.2.2.2.2.1 - (1 : Int))) < (y4.1 : Int)))) then
                      bindO (intC .i64 (y4.2.1[(((Int.toNat (w64 (y4.2.2.2.2.2.2.2.1 - (1 : Int)))) * 3) + 0)]?)) fun x68 =>
                      bindO (F 18 (RSh.one (CK.int .i64)) [(PV.int .i64 y4.2.2.1), (PV.int .i64 (w64 (x67 - x68)))]) fun (y69 : (Int)) =>
                      bindO (F 55 (RSh.one CK.list) [(PV.list y4.1 y4.2.1)]) fun (y70 : ((Nat) × (List PV))) =>
                      bindO (F 56 (RSh.tup [(Prod.mk true [CK.bool, (CK.int .i64), (CK.int .i64), (CK.int .i64), (CK.int .i64)]), (Prod.mk false [(CK.int .i64)])]) [(PV.agg [(PV.int .i64 y4.2.2.2.2.2.2.2.2.1), (PV.int .i64 y4.2.2.2.2.2.2.2.2.2.1), (PV.int .i64 y4.2.2.2.2.2.2.2.2.2.2.1), (PV.int .i64 y4.2.2.2.2.2.2.2.2.2.2.2.1)]), (PV.list y70.1 y70.2), (PV.int .i64 (w64 (x66 + y69)))]) fun (y71 : ((Bool) × ((Int) × ((Int) × ((Int) × ((Int) × (Int))))))) =>
                      bif y71.1 then
                        bif (decide (((0 : Int) ≤ y4.2.2.2.2.2.2.2.1) ∧ (y4.2.2.2.2.2.2.2.1 < (y4.1 : Int)))) then
                          bindO (intC .i64 (y4.2.1[((Int.toNat y4.2.2.2.2.2.2.2.1) * 3)]?)) fun x72 =>
                          bindO (intC .i64 (y4.2.1[(((Int.toNat y4.2.2.2.2.2.2.2.1) * 3) + 1)]?)) fun x73 =>
                          bindO (intC .i64 (y4.2.1[((((Int.toNat y4.2.2.2.2.2.2.2.1) * 3) + 1) + 1)]?)) fun x74 =>
                          bindO (F 46 (RSh.tup [(Prod.mk true [CK.bool, (CK.int .i64), (CK.int .i64), (CK.int .i64), (CK.int .i64)]), (Prod.mk false [(CK.int .i64)])]) [(PV.agg [(PV.int .i64 y4.2.2.2.2.2.2.2.2.1), (PV.int .i64 y4.2.2.2.2.2.2.2.2.2.1), (PV.int .i64 y4.2.2.2.2.2.2.2.2.2.2.1), (PV.int .i64 y4.2.2.2.2.2.2.2.2.2.2.2.1)]), (PV.agg [(PV.bool true), (PV.int .i64 y71.2.1), (PV.int .i64 y71.2.2.1), (PV.int .i64 y71.2.2.2.1), (PV.int .i64 y71.2.2.2.2.1)]), (PV.agg [(PV.int .i64 x72), (PV.int .i64 x73), (PV.int .i64 x74)])]) fun (y75 : ((Bool) × ((Int) × ((Int) × ((Int) × ((Int) × (Int))))))) =>
                          bif (y71.2.2.2.2.2 != (0 : Int)) then
                            E (Xlaw9_1000032a ())
                          else bif (y75.2.2.2.2.2 != (0 : Int)) then
                            E (Xlaw9_1000032a ())
                          else bif y75.1 then
                            bif y4.2.2.2.2.2.2.2.2.2.2.2.2.1 then
                              bif (!(true && ((y75.2.1 == y4.2.2.2.2.2.2.2.2.2.2.2.2.2.1) && ((y75.2.2.1 == y4.2.2.2.2.2.2.2.2.2.2.2.2.2.2.1) && ((y75.2.2.2.1 == y4.2.2.2.2.2.2.2.2.2.2.2.2.2.2.2.1) && ((y75.2.2.2.2.1 == y4.2.2.2.2.2.2.2.2.2.2.2.2.2.2.2.2) && true)))))) then
                                E (Xlaw9_1000032a ())
                              else E (Xlaw9_1000032b (y4.1, y4.2.1, y4.2.2.1, y4.2.2.2.1, y4.2.2.2.2.1, false, true, y4.2.2.2.2.2.2.2.1, y4.2.2.2.2.2.2.2.2.1, y4.2.2.2.2.2.2.2.2.2.1, y4.2.2.2.2.2.2.2.2.2.2.1, y4.2.2.2.2.2.2.2.2.2.2.2.1))
                            else E (Xlaw9_1000032a ())
                          else bif y4.2.2.2.2.2.2.2.2.2.2.2.2.1 then
                            E (Xlaw9_1000032a ())
                          else bif (!(true && ((y75.2.1 == y4.2.2.2.2.2.2.2.2.2.2.2.2.2.1) && ((y75.2.2.1 == y4.2.2.2.2.2.2.2.2.2.2.2.2.2.2.1) && ((y75.2.2.2.1 == y4.2.2.2.2.2.2.2.2.2.2.2.2.2.2.2.1) && ((y75.2.2.2.2.1 == y4.2.2.2.2.2.2.2.2.2.2.2.2.2.2.2.2) && true)))))) then
                            E (Xlaw9_1000032a ())
                          else E (Xlaw9_1000032b (y4.1, y4.2.1, y4.2.2.1, y4.2.2.2.1, y4.2.2.2.2.1, false, true, y4.2.2.2.2.2.2.2.1, y4.2.2.2.2.2.2.2.2.1, y4.2.2.2.2.2.2.2.2.2.1, y4.2.2.2.2.2.2.2.2.2.2.1, y4.2.2.2.2.2.2.2.2.2.2.2.1))
                        else none
                      else bif (decide (((0 : Int) ≤ y4.2.2.2.2.2.2.2.1) ∧ (y4.2.2.2.2.2.2.2.1 < (y4.1 : Int)))) then
                        bindO (intC .i64 (y4.2.1[((Int.toNat y4.2.2.2.2.2.2.2.1) * 3)]?)) fun x76 =>
                        bindO (intC .i64 (y4.2.1[(((Int.toNat y4.2.2.2.2.2.2.2.1) * 3) + 1)]?)) fun x77 =>
                        bindO (intC .i64 (y4.2.1[((((Int.toNat y4.2.2.2.2.2.2.2.1) * 3) + 1) + 1)]?)) fun x78 =>
                        bindO (F 46 (RSh.tup [(Prod.mk true [CK.bool, (CK.int .i64), (CK.int .i64), (CK.int .i64), (CK.int .i64)]), (Prod.mk false [(CK.int .i64)])]) [(PV.agg [(PV.int .i64 y4.2.2.2.2.2.2.2.2.1), (PV.int .i64 y4.2.2.2.2.2.2.2.2.2.1), (PV.int .i64 y4.2.2.2.2.2.2.2.2.2.2.1), (PV.int .i64 y4.2.2.2.2.2.2.2.2.2.2.2.1)]), (PV.agg [(PV.bool false), (PV.int .i64 y71.2.1), (PV.int .i64 y71.2.2.1), (PV.int .i64 y71.2.2.2.1), (PV.int .i64 y71.2.2.2.2.1)]), (PV.agg [(PV.int .i64 x76), (PV.int .i64 x77), (PV.int .i64 x78)])]) fun (y79 : ((Bool) × ((Int) × ((Int) × ((Int) × ((Int) × (Int))))))) =>
                        bif (y71.2.2.2.2.2 != (0 : Int)) then
                          E (Xlaw9_1000032a ())
                        else bif (y79.2.2.2.2.2 != (0 : Int)) then
                          E (Xlaw9_1000032a ())
                        else bif y79.1 then
                          bif y4.2.2.2.2.2.2.2.2.2.2.2.2.1 then
                            bif (!(true && ((y79.2.1 == y4.2.2.2.2.2.2.2.2.2.2.2.2.2.1) && ((y79.2.2.1 == y4.2.2.2.2.2.2.2.2.2.2.2.2.2.2.1) && ((y79.2.2.2.1 == y4.2.2.2.2.2.2.2.2.2.2.2.2.2.2.2.1) && ((y79.2.2.2.2.1 == y4.2.2.2.2.2.2.2.2.2.2.2.2.2.2.2.2) && true)))))) then
                              E (Xlaw9_1000032a ())
                            else E (Xlaw9_1000032b (y4.1, y4.2.1, y4.2.2.1, y4.2.2.2.1, y4.2.2.2.2.1, false, true, y4.2.2.2.2.2.2.2.1, y4.2.2.2.2.2.2.2.2.1, y4.2.2.2.2.2.2.2.2.2.1, y4.2.2.2.2.2.2.2.2.2.2.1, y4.2.2.2.2.2.2.2.2.2.2.2.1))
                          else E (Xlaw9_1000032a ())
                        else bif y4.2.2.2.2.2.2.2.2.2.2.2.2.1 then
                          E (Xlaw9_1000032a ())
                        else bif (!(true && ((y79.2.1 == y4.2.2.2.2.2.2.2.2.2.2.2.2.2.1) && ((y79.2.2.1 == y4.2.2.2.2.2.2.2.2.2.2.2.2.2.2.1) && ((y79.2.2.2.1 == y4.2.2.2.2.2.2.2.2.2.2.2.2.2.2.2.1) && ((y79.2.2.2.2.1 == y4.2.2.2.2.2.2.2.2.2.2.2.2.2.2.2.2) && true)))))) then
                          E (Xlaw9_1000032a ())
                        else E (Xlaw9_1000032b (y4.1, y4.2.1, y4.2.2.1, y4.2.2.2.1, y4.2.2.2.2.1, false, true, y4.2.2.2.2.2.2.2.1, y4.2.2.2.2.2.2.2.2.1, y4.2.2.2.2.2.2.2.2.2.1, y4.2.2.2.2.2.2.2.2.2.2.1, y4.2.2.2.2.2.2.2.2.2.2.2.1))
                      else none
                    else none
                  else none
                else none
              else none
            else none
          else bif (decide (((0 : Int) ≤ (w64 (y4.2.2.2.2.2.2.2.1 - (1 : Int)))) ∧ ((w64 (y4.2.2.2.2.2.2.2.1 - (1 : Int))) < (y4.1 : Int)))) then
            bindO (intC .i64 (y4.2.1[(((Int.toNat (w64 (y4.2.2.2.2.2.2.2.1 - (1 : Int)))) * 3) + 0)]?)) fun x80 =>
            bif (decide (((0 : Int) ≤ y4.2.2.2.2.2.2.2.1) ∧ (y4.2.2.2.2.2.2.2.1 < (y4.1 : Int)))) then
              bindO (intC .i64 (y4.2.1[(((Int.toNat y4.2.2.2.2.2.2.2.1) * 3) + 0)]?)) fun x81 =>
              bif (decide (((0 : Int) ≤ (w64 (y4.2.2.2.2.2.2.2.1 - (1 : Int)))) ∧ ((w64 (y4.2.2.2.2.2.2.2.1 - (1 : Int))) < (y4.1 : Int)))) then
                bindO (intC .i64 (y4.2.1[(((Int.toNat (w64 (y4.2.2.2.2.2.2.2.1 - (1 : Int)))) * 3) + 0)]?)) fun x82 =>
                bindO (F 18 (RSh.one (CK.int .i64)) [(PV.int .i64 y4.2.2.1), (PV.int .i64 (w64 (x81 - x82)))]) fun (y83 : (Int)) =>
                bindO (F 55 (RSh.one CK.list) [(PV.list y4.1 y4.2.1)]) fun (y84 : ((Nat) × (List PV))) =>
                bindO (F 56 (RSh.tup [(Prod.mk true [CK.bool, (CK.int .i64), (CK.int .i64), (CK.int .i64), (CK.int .i64)]), (Prod.mk false [(CK.int .i64)])]) [(PV.agg [(PV.int .i64 y4.2.2.2.2.2.2.2.2.1), (PV.int .i64 y4.2.2.2.2.2.2.2.2.2.1), (PV.int .i64 y4.2.2.2.2.2.2.2.2.2.2.1), (PV.int .i64 y4.2.2.2.2.2.2.2.2.2.2.2.1)]), (PV.list y84.1 y84.2), (PV.int .i64 (w64 (x80 + y83)))]) fun (y85 : ((Bool) × ((Int) × ((Int) × ((Int) × ((Int) × (Int))))))) =>
                bif y85.1 then
                  bif (decide (((0 : Int) ≤ y4.2.2.2.2.2.2.2.1) ∧ (y4.2.2.2.2.2.2.2.1 < (y4.1 : Int)))) then
                    bindO (intC .i64 (y4.2.1[((Int.toNat y4.2.2.2.2.2.2.2.1) * 3)]?)) fun x86 =>
                    bindO (intC .i64 (y4.2.1[(((Int.toNat y4.2.2.2.2.2.2.2.1) * 3) + 1)]?)) fun x87 =>
                    bindO (intC .i64 (y4.2.1[((((Int.toNat y4.2.2.2.2.2.2.2.1) * 3) + 1) + 1)]?)) fun x88 =>
                    bindO (F 46 (RSh.tup [(Prod.mk true [CK.bool, (CK.int .i64), (CK.int .i64), (CK.int .i64), (CK.int .i64)]), (Prod.mk false [(CK.int .i64)])]) [(PV.agg [(PV.int .i64 y4.2.2.2.2.2.2.2.2.1), (PV.int .i64 y4.2.2.2.2.2.2.2.2.2.1), (PV.int .i64 y4.2.2.2.2.2.2.2.2.2.2.1), (PV.int .i64 y4.2.2.2.2.2.2.2.2.2.2.2.1)]), (PV.agg [(PV.bool true), (PV.int .i64 y85.2.1), (PV.int .i64 y85.2.2.1), (PV.int .i64 y85.2.2.2.1), (PV.int .i64 y85.2.2.2.2.1)]), (PV.agg [(PV.int .i64 x86), (PV.int .i64 x87), (PV.int .i64 x88)])]) fun (y89 : ((Bool) × ((Int) × ((Int) × ((Int) × ((Int) × (Int))))))) =>
                    bif (y85.2.2.2.2.2 != (0 : Int)) then
                      E (Xlaw9_1000032a ())
                    else bif (y89.2.2.2.2.2 != (0 : Int)) then
                      E (Xlaw9_1000032a ())
                    else bif y89.1 then
                      bif y4.2.2.2.2.2.2.2.2.2.2.2.2.1 then
                        bif (!(true && ((y89.2.1 == y4.2.2.2.2.2.2.2.2.2.2.2.2.2.1) && ((y89.2.2.1 == y4.2.2.2.2.2.2.2.2.2.2.2.2.2.2.1) && ((y89.2.2.2.1 == y4.2.2.2.2.2.2.2.2.2.2.2.2.2.2.2.1) && ((y89.2.2.2.2.1 == y4.2.2.2.2.2.2.2.2.2.2.2.2.2.2.2.2) && true)))))) then
                          E (Xlaw9_1000032a ())
                        else E (Xlaw9_1000032b (y4.1, y4.2.1, y4.2.2.1, y4.2.2.2.1, y4.2.2.2.2.1, false, true, y4.2.2.2.2.2.2.2.1, y4.2.2.2.2.2.2.2.2.1, y4.2.2.2.2.2.2.2.2.2.1, y4.2.2.2.2.2.2.2.2.2.2.1, y4.2.2.2.2.2.2.2.2.2.2.2.1))
                      else E (Xlaw9_1000032a ())
                    else bif y4.2.2.2.2.2.2.2.2.2.2.2.2.1 then
                      E (Xlaw9_1000032a ())
                    else bif (!(true && ((y89.2.1 == y4.2.2.2.2.2.2.2.2.2.2.2.2.2.1) && ((y89.2.2.1 == y4.2.2.2.2.2.2.2.2.2.2.2.2.2.2.1) && ((y89.2.2.2.1 == y4.2.2.2.2.2.2.2.2.2.2.2.2.2.2.2.1) && ((y89.2.2.2.2.1 == y4.2.2.2.2.2.2.2.2.2.2.2.2.2.2.2.2) && true)))))) then
                      E (Xlaw9_1000032a ())
                    else E (Xlaw9_1000032b (y4.1, y4.2.1, y4.2.2.1, y4.2.2.2.1, y4.2.2.2.2.1, false, true, y4.2.2.2.2.2.2.2.1, y4.2.2.2.2.2.2.2.2.1, y4.2.2.2.2.2.2.2.2.2.1, y4.2.2.2.2.2.2.2.2.2.2.1, y4.2.2.2.2.2.2.2.2.2.2.2.1))
                  else none
                else bif (decide (((0 : Int) ≤ y4.2.2.2.2.2.2.2.1) ∧ (y4.2.2.2.2.2.2.2.1 < (y4.1 : Int)))) then
                  bindO (intC .i64 (y4.2.1[((Int.toNat y4.2.2.2.2.2.2.2.1) * 3)]?)) fun x90 =>
                  bindO (intC .i64 (y4.2.1[(((Int.toNat y4.2.2.2.2.2.2.2.1) * 3) + 1)]?)) fun x91 =>
                  bindO (intC .i64 (y4.2.1[((((Int.toNat y4.2.2.2.2.2.2.2.1) * 3) + 1) + 1)]?)) fun x92 =>
                  bindO (F 46 (RSh.tup [(Prod.mk true [CK.bool, (CK.int .i64), (CK.int .i64), (CK.int .i64), (CK.int .i64)]), (Prod.mk false [(CK.int .i64)])]) [(PV.agg [(PV.int .i64 y4.2.2.2.2.2.2.2.2.1), (PV.int .i64 y4.2.2.2.2.2.2.2.2.2.1), (PV.int .i64 y4.2.2.2.2.2.2.2.2.2.2.1), (PV.int .i64 y4.2.2.2.2.2.2.2.2.2.2.2.1)]), (PV.agg [(PV.bool false), (PV.int .i64 y85.2.1), (PV.int .i64 y85.2.2.1), (PV.int .i64 y85.2.2.2.1), (PV.int .i64 y85.2.2.2.2.1)]), (PV.agg [(PV.int .i64 x90), (PV.int .i64 x91), (PV.int .i64 x92)])]) fun (y93 : ((Bool) × ((Int) × ((Int) × ((Int) × ((Int) × (Int))))))) =>
                  bif (y85.2.2.2.2.2 != (0 : Int)) then
                    E (Xlaw9_1000032a ())
                  else bif (y93.2.2.2.2.2 != (0 : Int)) then
                    E (Xlaw9_1000032a ())
                  else bif y93.1 then
                    bif y4.2.2.2.2.2.2.2.2.2.2.2.2.1 then
                      bif (!(true && ((y93.2.1 == y4.2.2.2.2.2.2.2.2.2.2.2.2.2.1) && ((y93.2.2.1 == y4.2.2.2.2.2.2.2.2.2.2.2.2.2.2.1) && ((y93.2.2.2.1 == y4.2.2.2.2.2.2.2.2.2.2.2.2.2.2.2.1) && ((y93.2.2.2.2.1 == y4.2.2.2.2.2.2.2.2.2.2.2.2.2.2.2.2) && true)))))) then
                        E (Xlaw9_1000032a ())
                      else E (Xlaw9_1000032b (y4.1, y4.2.1, y4.2.2.1, y4.2.2.2.1, y4.2.2.2.2.1, false, true, y4.2.2.2.2.2.2.2.1, y4.2.2.2.2.2.2.2.2.1, y4.2.2.2.2.2.2.2.2.2.1, y4.2.2.2.2.2.2.2.2.2.2.1, y4.2.2.2.2.2.2.2.2.2.2.2.1))
                    else E (Xlaw9_1000032a ())
                  else bif y4.2.2.2.2.2.2.2.2.2.2.2.2.1 then
                    E (Xlaw9_1000032a ())
                  else bif (!(true && ((y93.2.1 == y4.2.2.2.2.2.2.2.2.2.2.2.2.2.1) && ((y93.2.2.1 == y4.2.2.2.2.2.2.2.2.2.2.2.2.2.2.1) && ((y93.2.2.2.1 == y4.2.2.2.2.2.2.2.2.2.2.2.2.2.2.2.1) && ((y93.2.2.2.2.1 == y4.2.2.2.2.2.2.2.2.2.2.2.2.2.2.2.2) && true)))))) then
                    E (Xlaw9_1000032a ())
                  else E (Xlaw9_1000032b (y4.1, y4.2.1, y4.2.2.1, y4.2.2.2.1, y4.2.2.2.2.1, false, true, y4.2.2.2.2.2.2.2.1, y4.2.2.2.2.2.2.2.2.1, y4.2.2.2.2.2.2.2.2.2.1, y4.2.2.2.2.2.2.2.2.2.2.1, y4.2.2.2.2.2.2.2.2.2.2.2.1))
                else none
              else none
            else none
          else none
        else bif (y4.2.2.2.2.2.2.2.1 == (0 : Int)) then
          E (Xlaw9_1000032b (y4.1, y4.2.1, y4.2.2.1, y4.2.2.2.1, y4.2.2.2.2.1, y4.2.2.2.2.2.1, false, y4.2.2.2.2.2.2.2.1, y4.2.2.2.2.2.2.2.2.1, y4.2.2.2.2.2.2.2.2.2.1, y4.2.2.2.2.2.2.2.2.2.2.1, y4.2.2.2.2.2.2.2.2.2.2.2.1))
        else bif y4.2.2.2.2.2.1 then
          bif (decide (((0 : Int) ≤ y4.2.2.2.2.2.2.2.1) ∧ (y4.2.2.2.2.2.2.2.1 < (y4.1 : Int)))) then
            bindO (intC .i64 (y4.2.1[(((Int.toNat y4.2.2.2.2.2.2.2.1) * 3) + 0)]?)) fun x94 =>
            bif (decide (((0 : Int) ≤ (w64 (y4.2.2.2.2.2.2.2.1 - (1 : Int)))) ∧ ((w64 (y4.2.2.2.2.2.2.2.1 - (1 : Int))) < (y4.1 : Int)))) then
              bindO (intC .i64 (y4.2.1[(((Int.toNat (w64 (y4.2.2.2.2.2.2.2.1 - (1 : Int)))) * 3) + 0)]?)) fun x95 =>
              bif (decide ((w64 (x94 - x95)) ≤ y4.2.2.2.2.2.2.2.2.2.2.2.1)) then
                bif (decide (((0 : Int) ≤ (w64 (y4.2.2.2.2.2.2.2.1 - (1 : Int)))) ∧ ((w64 (y4.2.2.2.2.2.2.2.1 - (1 : Int))) < (y4.1 : Int)))) then
                  bindO (intC .i64 (y4.2.1[(((Int.toNat (w64 (y4.2.2.2.2.2.2.2.1 - (1 : Int)))) * 3) + 0)]?)) fun x96 =>
                  bif (decide (((0 : Int) ≤ y4.2.2.2.2.2.2.2.1) ∧ (y4.2.2.2.2.2.2.2.1 < (y4.1 : Int)))) then
                    bindO (intC .i64 (y4.2.1[(((Int.toNat y4.2.2.2.2.2.2.2.1) * 3) + 0)]?)) fun x97 =>
                    bif (decide (((0 : Int) ≤ (w64 (y4.2.2.2.2.2.2.2.1 - (1 : Int)))) ∧ ((w64 (y4.2.2.2.2.2.2.2.1 - (1 : Int))) < (y4.1 : Int)))) then
                      bindO (intC .i64 (y4.2.1[(((Int.toNat (w64 (y4.2.2.2.2.2.2.2.1 - (1 : Int)))) * 3) + 0)]?)) fun x98 =>
                      bindO (F 18 (RSh.one (CK.int .i64)) [(PV.int .i64 y4.2.2.1), (PV.int .i64 (w64 (x97 - x98)))]) fun (y99 : (Int)) =>
                      bindO (F 55 (RSh.one CK.list) [(PV.list y4.1 y4.2.1)]) fun (y100 : ((Nat) × (List PV))) =>
                      bindO (F 56 (RSh.tup [(Prod.mk true [CK.bool, (CK.int .i64), (CK.int .i64), (CK.int .i64), (CK.int .i64)]), (Prod.mk false [(CK.int .i64)])]) [(PV.agg [(PV.int .i64 y4.2.2.2.2.2.2.2.2.1), (PV.int .i64 y4.2.2.2.2.2.2.2.2.2.1), (PV.int .i64 y4.2.2.2.2.2.2.2.2.2.2.1), (PV.int .i64 y4.2.2.2.2.2.2.2.2.2.2.2.1)]), (PV.list y100.1 y100.2), (PV.int .i64 (w64 (x96 + y99)))]) fun (y101 : ((Bool) × ((Int) × ((Int) × ((Int) × ((Int) × (Int))))))) =>
                      bif y101.1 then
                        bif (decide (((0 : Int) ≤ y4.2.2.2.2.2.2.2.1) ∧ (y4.2.2.2.2.2.2.2.1 < (y4.1 : Int)))) then
                          bindO (intC .i64 (y4.2.1[((Int.toNat y4.2.2.2.2.2.2.2.1) * 3)]?)) fun x102 =>
                          bindO (intC .i64 (y4.2.1[(((Int.toNat y4.2.2.2.2.2.2.2.1) * 3) + 1)]?)) fun x103 =>
                          bindO (intC .i64 (y4.2.1[((((Int.toNat y4.2.2.2.2.2.2.2.1) * 3) + 1) + 1)]?)) fun x104 =>
                          bindO (F 46 (RSh.tup [(Prod.mk true [CK.bool, (CK.int .i64), (CK.int .i64), (CK.int .i64), (CK.int .i64)]), (Prod.mk false [(CK.int .i64)])]) [(PV.agg [(PV.int .i64 y4.2.2.2.2.2.2.2.2.1), (PV.int .i64 y4.2.2.2.2.2.2.2.2.2.1), (PV.int .i64 y4.2.2.2.2.2.2.2.2.2.2.1), (PV.int .i64 y4.2.2.2.2.2.2.2.2.2.2.2.1)]), (PV.agg [(PV.bool true), (PV.int .i64 y101.2.1), (PV.int .i64 y101.2.2.1), (PV.int .i64 y101.2.2.2.1), (PV.int .i64 y101.2.2.2.2.1)]), (PV.agg [(PV.int .i64 x102), (PV.int .i64 x103), (PV.int .i64 x104)])]) fun (y105 : ((Bool) × ((Int) × ((Int) × ((Int) × ((Int) × (Int))))))) =>
                          bif (y101.2.2.2.2.2 != (0 : Int)) then
                            E (Xlaw9_1000032a ())
                          else bif (y105.2.2.2.2.2 != (0 : Int)) then
                            E (Xlaw9_1000032a ())
                          else bif y105.1 then
                            bif y4.2.2.2.2.2.2.2.2.2.2.2.2.1 then
                              bif (!(true && ((y105.2.1 == y4.2.2.2.2.2.2.2.2.2.2.2.2.2.1) && ((y105.2.2.1 == y4.2.2.2.2.2.2.2.2.2.2.2.2.2.2.1) && ((y105.2.2.2.1 == y4.2.2.2.2.2.2.2.2.2.2.2.2.2.2.2.1) && ((y105.2.2.2.2.1 == y4.2.2.2.2.2.2.2.2.2.2.2.2.2.2.2.2) && true)))))) then
                                E (Xlaw9_1000032a ())
                              else E (Xlaw9_1000032b (y4.1, y4.2.1, y4.2.2.1, y4.2.2.2.1, y4.2.2.2.2.1, true, false, y4.2.2.2.2.2.2.2.1, y4.2.2.2.2.2.2.2.2.1, y4.2.2.2.2.2.2.2.2.2.1, y4.2.2.2.2.2.2.2.2.2.2.1, y4.2.2.2.2.2.2.2.2.2.2.2.1))
                            else E (Xlaw9_1000032a ())
                          else bif y4.2.2.2.2.2.2.2.2.2.2.2.2.1 then
                            E (Xlaw9_1000032a ())
                          else bif (!(true && ((y105.2.1 == y4.2.2.2.2.2.2.2.2.2.2.2.2.2.1) && ((y105.2.2.1 == y4.2.2.2.2.2.2.2.2.2.2.2.2.2.2.1) && ((y105.2.2.2.1 == y4.2.2.2.2.2.2.2.2.2.2.2.2.2.2.2.1) && ((y105.2.2.2.2.1 == y4.2.2.2.2.2.2.2.2.2.2.2.2.2.2.2.2) && true)))))) then
                            E (Xlaw9_1000032a ())
                          else E (Xlaw9_1000032b (y4.1, y4.2.1, y4.2.2.1, y4.2.2.2.1, y4.2.2.2.2.1, true, false, y4.2.2.2.2.2.2.2.1, y4.2.2.2.2.2.2.2.2.1, y4.2.2.2.2.2.2.2.2.2.1, y4.2.2.2.2.2.2.2.2.2.2.1, y4.2.2.2.2.2.2.2.2.2.2.2.1))
                        else none
                      else bif (decide (((0 : Int) ≤ y4.2.2.2.2.2.2.2.1) ∧ (y4.2.2.2.2.2.2.2.1 < (y4.1 : Int)))) then
                        bindO (intC .i64 (y4.2.1[((Int.toNat y4.2.2.2.2.2.2.2.1) * 3)]?)) fun x106 =>
                        bindO (intC .i64 (y4.2.1[(((Int.toNat y4.2.2.2.2.2.2.2.1) * 3) + 1)]?)) fun x107 =>
                        bindO (intC .i64 (y4.2.1[((((Int.toNat y4.2.2.2.2.2.2.2.1) * 3) + 1) + 1)]?)) fun x108 =>
                        bindO (F 46 (RSh.tup [(Prod.mk true [CK.bool, (CK.int .i64), (CK.int .i64), (CK.int .i64), (CK.int .i64)]), (Prod.mk false [(CK.int .i64)])]) [(PV.agg [(PV.int .i64 y4.2.2.2.2.2.2.2.2.1), (PV.int .i64 y4.2.2.2.2.2.2.2.2.2.1), (PV.int .i64 y4.2.2.2.2.2.2.2.2.2.2.1), (PV.int .i64 y4.2.2.2.2.2.2.2.2.2.2.2.1)]), (PV.agg [(PV.bool false), (PV.int .i64 y101.2.1), (PV.int .i64 y101.2.2.1), (PV.int .i64 y101.2.2.2.1), (PV.int .i64 y101.2.2.2.2.1)]), (PV.agg [(PV.int .i64 x106), (PV.int .i64 x107), (PV.int .i64 x108)])]) fun (y109 : ((Bool) × ((Int) × ((Int) × ((Int) × ((Int) × (Int))))))) =>
                        bif (y101.2.2.2.2.2 != (0 : Int)) then
                          E (Xlaw9_1000032a ())
                        else bif (y109.2.2.2.2.2 != (0 : Int)) then
                          E (Xlaw9_1000032a ())
                        else bif y109.1 then
                          bif y4.2.2.2.2.2.2.2.2.2.2.2.2.1 then
                            bif (!(true && ((y109.2.1 == y4.2.2.2.2.2.2.2.2.2.2.2.2.2.1) && ((y109.2.2.1 == y4.2.2.2.2.2.2.2.2.2.2.2.2.2.2.1) && ((y109.2.2.2.1 == y4.2.2.2.2.2.2.2.2.2.2.2.2.2.2.2.1) && ((y109.2.2.2.2.1 == y4.2.2.2.2.2.2.2.2.2.2.2.2.2.2.2.2) && true)))))) then
                              E (Xlaw9_1000032a ())
                            else E (Xlaw9_1000032b (y4.1, y4.2.1, y4.2.2.1, y4.2.2.2.1, y4.2.2.2.2.1, true, false, y4.2.2.2.2.2.2.2.1, y4.2.2.2.2.2.2.2.2.1, y4.2.2.2.2.2.2.2.2.2.1, y4.2.2.2.2.2.2.2.2.2.2.1, y4.2.2.2.2.2.2.2.2.2.2.2.1))
                          else E (Xlaw9_1000032a ())
                        else bif y4.2.2.2.2.2.2.2.2.2.2.2.2.1 then
                          E (Xlaw9_1000032a ())
                        else bif (!(true && ((y109.2.1 == y4.2.2.2.2.2.2.2.2.2.2.2.2.2.1) && ((y109.2.2.1 == y4.2.2.2.2.2.2.2.2.2.2.2.2.2.2.1) && ((y109.2.2.2.1 == y4.2.2.2.2.2.2.2.2.2.2.2.2.2.2.2.1) && ((y109.2.2.2.2.1 == y4.2.2.2.2.2.2.2.2.2.2.2.2.2.2.2.2) && true)))))) then
                          E (Xlaw9_1000032a ())
                        else E (Xlaw9_1000032b (y4.1, y4.2.1, y4.2.2.1, y4.2.2.2.1, y4.2.2.2.2.1, true, false, y4.2.2.2.2.2.2.2.1, y4.2.2.2.2.2.2.2.2.1, y4.2.2.2.2.2.2.2.2.2.1, y4.2.2.2.2.2.2.2.2.2.2.1, y4.2.2.2.2.2.2.2.2.2.2.2.1))
                      else none
                    else none
                  else none
                else none
              else bif (decide (((0 : Int) ≤ (w64 (y4.2.2.2.2.2.2.2.1 - (1 : Int)))) ∧ ((w64 (y4.2.2.2.2.2.2.2.1 - (1 : Int))) < (y4.1 : Int)))) then
                bindO (intC .i64 (y4.2.1[(((Int.toNat (w64 (y4.2.2.2.2.2.2.2.1 - (1 : Int)))) * 3) + 0)]?)) fun x110 =>
                bif (decide (((0 : Int) ≤ y4.2.2.2.2.2.2.2.1) ∧ (y4.2.2.2.2.2.2.2.1 < (y4.1 : Int)))) then
                  bindO (intC .i64 (y4.2.1[(((Int.toNat y4.2.2.2.2.2.2.2.1) * 3) + 0)]?)) fun x111 =>
                  bif (decide (((0 : Int) ≤ (w64 (y4.2.2.2.2.2.2.2.1 - (1 : Int)))) ∧ ((w64 (y4.2.2.2.2.2.2.2.1 - (1 : Int))) < (y4.1 : Int)))) then
                    bindO (intC .i64 (y4.2.1[(((Int.toNat (w64 (y4.2.2.2.2.2.2.2.1 - (1 : Int)))) * 3) + 0)]?)) fun x112 =>
                    bindO (F 18 (RSh.one (CK.int .i64)) [(PV.int .i64 y4.2.2.1), (PV.int .i64 (w64 (x111 - x112)))]) fun (y113 : (Int)) =>
                    bindO (F 55 (RSh.one CK.list) [(PV.list y4.1 y4.2.1)]) fun (y114 : ((Nat) × (List PV))) =>
                    bindO (F 56 (RSh.tup [(Prod.mk true [CK.bool, (CK.int .i64), (CK.int .i64), (CK.int .i64), (CK.int .i64)]), (Prod.mk false [(CK.int .i64)])]) [(PV.agg [(PV.int .i64 y4.2.2.2.2.2.2.2.2.1), (PV.int .i64 y4.2.2.2.2.2.2.2.2.2.1), (PV.int .i64 y4.2.2.2.2.2.2.2.2.2.2.1), (PV.int .i64 y4.2.2.2.2.2.2.2.2.2.2.2.1)]), (PV.list y114.1 y114.2), (PV.int .i64 (w64 (x110 + y113)))]) fun (y115 : ((Bool) × ((Int) × ((Int) × ((Int) × ((Int) × (Int))))))) =>
                    bif y115.1 then
                      bif (decide (((0 : Int) ≤ y4.2.2.2.2.2.2.2.1) ∧ (y4.2.2.2.2.2.2.2.1 < (y4.1 : Int)))) then
                        bindO (intC .i64 (y4.2.1[((Int.toNat y4.2.2.2.2.2.2.2.1) * 3)]?)) fun x116 =>
                        bindO (intC .i64 (y4.2.1[(((Int.toNat y4.2.2.2.2.2.2.2.1) * 3) + 1)]?)) fun x117 =>
                        bindO (intC .i64 (y4.2.1[((((Int.toNat y4.2.2.2.2.2.2.2.1) * 3) + 1) + 1)]?)) fun x118 =>
                        bindO (F 46 (RSh.tup [(Prod.mk true [CK.bool, (CK.int .i64), (CK.int .i64), (CK.int .i64), (CK.int .i64)]), (Prod.mk false [(CK.int .i64)])]) [(PV.agg [(PV.int .i64 y4.2.2.2.2.2.2.2.2.1), (PV.int .i64 y4.2.2.2.2.2.2.2.2.2.1), (PV.int .i64 y4.2.2.2.2.2.2.2.2.2.2.1), (PV.int .i64 y4.2.2.2.2.2.2.2.2.2.2.2.1)]), (PV.agg [(PV.bool true), (PV.int .i64 y115.2.1), (PV.int .i64 y115.2.2.1), (PV.int .i64 y115.2.2.2.1), (PV.int .i64 y115.2.2.2.2.1)]), (PV.agg [(PV.int .i64 x116), (PV.int .i64 x117), (PV.int .i64 x118)])]) fun (y119 : ((Bool) × ((Int) × ((Int) × ((Int) × ((Int) × (Int))))))) =>
                        bif (y115.2.2.2.2.2 != (0 : Int)) then
                          E (Xlaw9_1000032a ())
                        else bif (y119.2.2.2.2.2 != (0 : Int)) then
                          E (Xlaw9_1000032a ())
                        else bif y119.1 then
                          bif y4.2.2.2.2.2.2.2.2.2.2.2.2.1 then
                            bif (!(true && ((y119.2.1 == y4.2.2.2.2.2.2.2.2.2.2.2.2.2.1) && ((y119.2.2.1 == y4.2.2.2.2.2.2.2.2.2.2.2.2.2.2.1) && ((y119.2.2.2.1 == y4.2.2.2.2.2.2.2.2.2.2.2.2.2.2.2.1) && ((y119.2.2.2.2.1 == y4.2.2.2.2.2.2.2.2.2.2.2.2.2.2.2.2) && true)))))) then
                              E (Xlaw9_1000032a ())
                            else E (Xlaw9_1000032b (y4.1, y4.2.1, y4.2.2.1, y4.2.2.2.1, y4.2.2.2.2.1, false, false, y4.2.2.2.2.2.2.2.1, y4.2.2.2.2.2.2.2.2.1, y4.2.2.2.2.2.2.2.2.2.1, y4.2.2.2.2.2.2.2.2.2.2.1, y4.2.2.2.2.2.2.2.2.2.2.2.1))
                          else E (Xlaw9_1000032a ())
                        else bif y4.2.2.2.2.2.2.2.2.2.2.2.2.1 then
                          E (Xlaw9_1000032a ())
                        else bif (!(true && ((y119.2.1 == y4.2.2.2.2.2.2.2.2.2.2.2.2.2.1) && ((y119.2.2.1 == y4.2.2.2.2.2.2.2.2.2.2.2.2.2.2.1) && ((y119.2.2.2.1 == y4.2.2.2.2.2.2.2.2.2.2.2.2.2.2.2.1) && ((y119.2.2.2.2.1 == y4.2.2.2.2.2.2.2.2.2.2.2.2.2.2.2.2) && true)))))) then
                          E (Xlaw9_1000032a ())
                        else E (Xlaw9_1000032b (y4.1, y4.2.1, y4.2.2.1, y4.2.2.2.1, y4.2.2.2.2.1, false, false, y4.2.2.2.2.2.2.2.1, y4.2.2.2.2.2.2.2.2.1, y4.2.2.2.2.2.2.2.2.2.1, y4.2.2.2.2.2.2.2.2.2.2.1, y4.2.2.2.2.2.2.2.2.2.2.2.1))
                      else none
                    else bif (decide (((0 : Int) ≤ y4.2.2.2.2.2.2.2.1) ∧ (y4.2.2.2.2.2.2.2.1 < (y4.1 : Int)))) then
                      bindO (intC .i64 (y4.2.1[((Int.toNat y4.2.2.2.2.2.2.2.1) * 3)]?)) fun x120 =>
                      bindO (intC .i64 (y4.2.1[(((Int.toNat y4.2.2.2.2.2.2.2.1) * 3) + 1)]?)) fun x121 =>
                      bindO (intC .i64 (y4.2.1[((((Int.toNat y4.2.2.2.2.2.2.2.1) * 3) + 1) + 1)]?)) fun x122 =>
                      bindO (F 46 (RSh.tup [(Prod.mk true [CK.bool, (CK.int .i64), (CK.int .i64), (CK.int .i64), (CK.int .i64)]), (Prod.mk false [(CK.int .i64)])]) [(PV.agg [(PV.int .i64 y4.2.2.2.2.2.2.2.2.1), (PV.int .i64 y4.2.2.2.2.2.2.2.2.2.1), (PV.int .i64 y4.2.2.2.2.2.2.2.2.2.2.1), (PV.int .i64 y4.2.2.2.2.2.2.2.2.2.2.2.1)]), (PV.agg [(PV.bool false), (PV.int .i64 y115.2.1), (PV.int .i64 y115.2.2.1), (PV.int .i64 y115.2.2.2.1), (PV.int .i64 y115.2.2.2.2.1)]), (PV.agg [(PV.int .i64 x120), (PV.int .i64 x121), (PV.int .i64 x122)])]) fun (y123 : ((Bool) × ((Int) × ((Int) × ((Int) × ((Int) × (Int))))))) =>
                      bif (y115.2.2.2.2.2 != (0 : Int)) then
                        E (Xlaw9_1000032a ())
                      else bif (y123.2.2.2.2.2 != (0 : Int)) then
                        E (Xlaw9_1000032a ())
                      else bif y123.1 then
                        bif y4.2.2.2.2.2.2.2.2.2.2.2.2.1 then
                          bif (!(true && ((y123.2.1 == y4.2.2.2.2.2.2.2.2.2.2.2.2.2.1) && ((y123.2.2.1 == y4.2.2.2.2.2.2.2.2.2.2.2.2.2.2.1) && ((y123.2.2.2.1 == y4.2.2.2.2.2.2.2.2.2.2.2.2.2.2.2.1) && ((y123.2.2.2.2.1 == y4.2.2.2.2.2.2.2.2.2.2.2.2.2.2.2.2) && true)))))) then
                            E (Xlaw9_1000032a ())
                          else E (Xlaw9_1000032b (y4.1, y4.2.1, y4.2.2.1, y4.2.2.2.1, y4.2.2.2.2.1, false, false, y4.2.2.2.2.2.2.2.1, y4.2.2.2.2.2.2.2.2.1, y4.2.2.2.2.2.2.2.2.2.1, y4.2.2.2.2.2.2.2.2.2.2.1, y4.2.2.2.2.2.2.2.2.2.2.2.1))
                        else E (Xlaw9_1000032a ())
                      else bif y4.2.2.2.2.2.2.2.2.2.2.2.2.1 then
                        E (Xlaw9_1000032a ())
                      else bif (!(true && ((y123.2.1 == y4.2.2.2.2.2.2.2.2.2.2.2.2.2.1) && ((y123.2.2.1 == y4.2.2.2.2.2.2.2.2.2.2.2.2.2.2.1) && ((y123.2.2.2.1 == y4.2.2.2.2.2.2.2.2.2.2.2.2.2.2.2.1) && ((y123.2.2.2.2.1 == y4.2.2.2.2.2.2.2.2.2.2.2.2.2.2.2.2) && true)))))) then
                        E (Xlaw9_1000032a ())
                      else E (Xlaw9_1000032b (y4.1, y4.2.1, y4.2.2.1, y4.2.2.2.1, y4.2.2.2.2.1, false, false, y4.2.2.2.2.2.2.2.1, y4.2.2.2.2.2.2.2.2.1, y4.2.2.2.2.2.2.2.2.2.1, y4.2.2.2.2.2.2.2.2.2.2.1, y4.2.2.2.2.2.2.2.2.2.2.2.1))
                    else none
                  else none
                else none
              else none
            else none
          else none
        else bif (decide (((0 : Int) ≤ (w64 (y4.2.2.2.2.2.2.2.1 - (1 : Int)))) ∧ ((w64 (y4.2.2.2.2.2.2.2.1 - (1 : Int))) < (y4.1 : Int)))) then
          bindO (intC .i64 (y4.2.1[(((Int.toNat (w64 (y4.2.2.2.2.2.2.2.1 - (1 : Int)))) * 3) + 0)]?)) fun x124 =>
          bif (decide (((0 : Int) ≤ y4.2.2.2.2.2.2.2.1) ∧ (y4.2.2.2.2.2.2.2.1 < (y4.1 : Int)))) then
            bindO (intC .i64 (y4.2.1[(((Int.toNat y4.2.2.2.2.2.2.2.1) * 3) + 0)]?)) fun x125 =>
            bif (decide (((0 : Int) ≤ (w64 (y4.2.2.2.2.2.2.2.1 - (1 : Int)))) ∧ ((w64 (y4.2.2.2.2.2.2.2.1 - (1 : Int))) < (y4.1 : Int)))) then
              bindO (intC .i64 (y4.2.1[(((Int.toNat (w64 (y4.2.2.2.2.2.2.2.1 - (1 : Int)))) * 3) + 0)]?)) fun x126 =>
              bindO (F 18 (RSh.one (CK.int .i64)) [(PV.int .i64 y4.2.2.1), (PV.int .i64 (w64 (x125 - x126)))]) fun (y127 : (Int)) =>
              bindO (F 55 (RSh.one CK.list) [(PV.list y4.1 y4.2.1)]) fun (y128 : ((Nat) × (List PV))) =>
              bindO (F 56 (RSh.tup [(Prod.mk true [CK.bool, (CK.int .i64), (CK.int .i64), (CK.int .i64), (CK.int .i64)]), (Prod.mk false [(CK.int .i64)])]) [(PV.agg [(PV.int .i64 y4.2.2.2.2.2.2.2.2.1), (PV.int .i64 y4.2.2.2.2.2.2.2.2.2.1), (PV.int .i64 y4.2.2.2.2.2.2.2.2.2.2.1), (PV.int .i64 y4.2.2.2.2.2.2.2.2.2.2.2.1)]), (PV.list y128.1 y128.2), (PV.int .i64 (w64 (x124 + y127)))]) fun (y129 : ((Bool) × ((Int) × ((Int) × ((Int) × ((Int) × (Int))))))) =>
              bif y129.1 then
                bif (decide (((0 : Int) ≤ y4.2.2.2.2.2.2.2.1) ∧ (y4.2.2.2.2.2.2.2.1 < (y4.1 : Int)))) then
                  bindO (intC .i64 (y4.2.1[((Int.toNat y4.2.2.2.2.2.2.2.1) * 3)]?)) fun x130 =>
                  bindO (intC .i64 (y4.2.1[(((Int.toNat y4.2.2.2.2.2.2.2.1) * 3) + 1)]?)) fun x131 =>
                  bindO (intC .i64 (y4.2.1[((((Int.toNat y4.2.2.2.2.2.2.2.1) * 3) + 1) + 1)]?)) fun x132 =>
                  bindO (F 46 (RSh.tup [(Prod.mk true [CK.bool, (CK.int .i64), (CK.int .i64), (CK.int .i64), (CK.int .i64)]), (Prod.mk false [(CK.int .i64)])]) [(PV.agg [(PV.int .i64 y4.2.2.2.2.2.2.2.2.1), (PV.int .i64 y4.2.2.2.2.2.2.2.2.2.1), (PV.int .i64 y4.2.2.2.2.2.2.2.2.2.2.1), (PV.int .i64 y4.2.2.2.2.2.2.2.2.2.2.2.1)]), (PV.agg [(PV.bool true), (PV.int .i64 y129.2.1), (PV.int .i64 y129.2.2.1), (PV.int .i64 y129.2.2.2.1), (PV.int .i64 y129.2.2.2.2.1)]), (PV.agg [(PV.int .i64 x130), (PV.int .i64 x131), (PV.int .i64 x132)])]) fun (y133 : ((Bool) × ((Int) × ((Int) × ((Int) × ((Int) × (Int))))))) =>
                  bif (y129.2.2.2.2.2 != (0 : Int)) then
                    E (Xlaw9_1000032a ())
                  else bif (y133.2.2.2.2.2 != (0 : Int)) then
                    E (Xlaw9_1000032a ())
                  else bif y133.1 then
                    bif y4.2.2.2.2.2.2.2.2.2.2.2.2.1 then
                      bif (!(true && ((y133.2.1 == y4.2.2.2.2.2.2.2.2.2.2.2.2.2.1) && ((y133.2.2.1 == y4.2.2.2.2.2.2.2.2.2.2.2.2.2.2.1) && ((y133.2.2.2.1 == y4.2.2.2.2.2.2.2.2.2.2.2.2.2.2.2.1) && ((y133.2.2.2.2.1 == y4.2.2.2.2.2.2.2.2.2.2.2.2.2.2.2.2) && true)))))) then
                        E (Xlaw9_1000032a ())
                      else E (Xlaw9_1000032b (y4.1, y4.2.1, y4.2.2.1, y4.2.2.2.1, y4.2.2.2.2.1, false, false, y4.2.2.2.2.2.2.2.1, y4.2.2.2.2.2.2.2.2.1, y4.2.2.2.2.2.2.2.2.2.1, y4.2.2.2.2.2.2.2.2.2.2.1, y4.2.2.2.2.2.2.2.2.2.2.2.1))
                    else E (Xlaw9_1000032a ())
                  else bif y4.2.2.2.2.2.2.2.2.2.2.2.2.1 then
                    E (Xlaw9_1000032a ())
                  else bif (!(true && ((y133.2.1 == y4.2.2.2.2.2.2.2.2.2.2.2.2.2.1) && ((y133.2.2.1 == y4.2.2.2.2.2.2.2.2.2.2.2.2.2.2.1) && ((y133.2.2.2.1 == y4.2.2.2.2.2.2.2.2.2.2.2.2.2.2.2.1) && ((y133.2.2.2.2.1 == y4.2.2.2.2.2.2.2.2.2.2.2.2.2.2.2.2) && true)))))) then
                    E (Xlaw9_1000032a ())
                  else E (Xlaw9_1000032b (y4.1, y4.2.1, y4.2.2.1, y4.2.2.2.1, y4.2.2.2.2.1, false, false, y4.2.2.2.2.2.2.2.1, y4.2.2.2.2.2.2.2.2.1, y4.2.2.2.2.2.2.2.2.2.1, y4.2.2.2.2.2.2.2.2.2.2.1, y4.2.2.2.2.2.2.2.2.2.2.2.1))
                else none
              else bif (decide (((0 : Int) ≤ y4.2.2.2.2.2.2.2.1) ∧ (y4.2.2.2.2.2.2.2.1 < (y4.1 : Int)))) then
                bindO (intC .i64 (y4.2.1[((Int.toNat y4.2.2.2.2.2.2.2.1) * 3)]?)) fun x134 =>
                bindO (intC .i64 (y4.2.1[(((Int.toNat y4.2.2.2.2.2.2.2.1) * 3) + 1)]?)) fun x135 =>
                bindO (intC .i64 (y4.2.1[((((Int.toNat y4.2.2.2.2.2.2.2.1) * 3) + 1) + 1)]?)) fun x136 =>
                bindO (F 46 (RSh.tup [(Prod.mk true [CK.bool, (CK.int .i64), (CK.int .i64), (CK.int .i64), (CK.int .i64)]), (Prod.mk false [(CK.int .i64)])]) [(PV.agg [(PV.int .i64 y4.2.2.2.2.2.2.2.2.1), (PV.int .i64 y4.2.2.2.2.2.2.2.2.2.1), (PV.int .i64 y4.2.2.2.2.2.2.2.2.2.2.1), (PV.int .i64 y4.2.2.2.2.2.2.2.2.2.2.2.1)]), (PV.agg [(PV.bool false), (PV.int .i64 y129.2.1), (PV.int .i64 y129.2.2.1), (PV.int .i64 y129.2.2.2.1), (PV.int .i64 y129.2.2.2.2.1)]), (PV.agg [(PV.int .i64 x134), (PV.int .i64 x135), (PV.int .i64 x136)])]) fun (y137 : ((Bool) × ((Int) × ((Int) × ((Int) × ((Int) × (Int))))))) =>
                bif (y129.2.2.2.2.2 != (0 : Int)) then
                  E (Xlaw9_1000032a ())
                else bif (y137.2.2.2.2.2 != (0 : Int)) then
                  E (Xlaw9_1000032a ())
                else bif y137.1 then
                  bif y4.2.2.2.2.2.2.2.2.2.2.2.2.1 then
                    bif (!(true && ((y137.2.1 == y4.2.2.2.2.2.2.2.2.2.2.2.2.2.1) && ((y137.2.2.1 == y4.2.2.2.2.2.2.2.2.2.2.2.2.2.2.1) && ((y137.2.2.2.1 == y4.2.2.2.2.2.2.2.2.2.2.2.2.2.2.2.1) && ((y137.2.2.2.2.1 == y4.2.2.2.2.2.2.2.2.2.2.2.2.2.2.2.2) && true)))))) then
                      E (Xlaw9_1000032a ())
                    else E (Xlaw9_1000032b (y4.1, y4.2.1, y4.2.2.1, y4.2.2.2.1, y4.2.2.2.2.1, false, false, y4.2.2.2.2.2.2.2.1, y4.2.2.2.2.2.2.2.2.1, y4.2.2.2.2.2.2.2.2.2.1, y4.2.2.2.2.2.2.2.2.2.2.1, y4.2.2.2.2.2.2.2.2.2.2.2.1))
                  else E (Xlaw9_1000032a ())
                else bif y4.2.2.2.2.2.2.2.2.2.2.2.2.1 then
                  E (Xlaw9_1000032a ())
                else bif (!(true && ((y137.2.1 == y4.2.2.2.2.2.2.2.2.2.2.2.2.2.1) && ((y137.2.2.1 == y4.2.2.2.2.2.2.2.2.2.2.2.2.2.2.1) && ((y137.2.2.2.1 == y4.2.2.2.2.2.2.2.2.2.2.2.2.2.2.2.1) && ((y137.2.2.2.2.1 == y4.2.2.2.2.2.2.2.2.2.2.2.2.2.2.2.2) && true)))))) then
                  E (Xlaw9_1000032a ())
                else E (Xlaw9_1000032b (y4.1, y4.2.1, y4.2.2.1, y4.2.2.2.1, y4.2.2.2.2.1, false, false, y4.2.2.2.2.2.2.2.1, y4.2.2.2.2.2.2.2.2.1, y4.2.2.2.2.2.2.2.2.2.1, y4.2.2.2.2.2.2.2.2.2.2.1, y4.2.2.2.2.2.2.2.2.2.2.2.1))
              else none
            else none
          else none
        else none
      else none) z
  else none
theorem Blaw9_1000032a_eq (F : FnT) (N : QO) (E : EO) (L0 : Q → Option Ylaw9_0) (L2 : Q → Option Ylaw9_2) (L1000080 : Q → Option Ylaw9_1000080) (L1000069 : Q → Option Ylaw9_1000069) (L1000052 : Q → Option Ylaw9_1000052) (L1000032 : Q → Option Ylaw9_1000032) (L1000027 : Q → Option Ylaw9_1000027) (n0 : Nat) (c1 : List PV) (i2 : Int) (n3 : Nat) (c4 : List PV) (b5 b6 : Bool) (i7 i8 i9 i10 i11 : Int) : semN (callP F Elaw9 20) s9 (loopT [⟨0, Ylaw9_0, L0, XLlaw9_0⟩, ⟨2, Ylaw9_2, L2, XLlaw9_2⟩, ⟨1000080, Ylaw9_1000080, L1000080, XLlaw9_1000080⟩, ⟨1000069, Ylaw9_1000069, L1000069, XLlaw9_1000069⟩, ⟨1000052, Ylaw9_1000052, L1000052, XLlaw9_1000052⟩, ⟨1000032, Ylaw9_1000032, L1000032, XLlaw9_1000032⟩, ⟨1000027, Ylaw9_1000027, L1000027, XLlaw9_1000027⟩]) 400 (blkIn a9.body 1000032) E (Tlaw9_1000032a n0 c1 i2 n3 c4 b5 b6 i7 i8 i9 i10 i11) = Blaw9_1000032a F N E L0 L2 L1000080 L1000069 L1000052 L1000032 L1000027 n0 c1 i2 n3 c4 b5 b6 i7 i8 i9 i10 i11 := by kernel_rfl
theorem Rlaw9_1000032a_of  (n0 : Nat) (c1 : List PV) (i2 : Int) (n3 : Nat) (c4 : List PV) (b5 b6 : Bool) (i7 i8 i9 i10 i11 : Int) {r : Ext × S} (h : Blaw9_1000032a (Fn env) Rlaw9_1000032 exO Llaw9_0 Llaw9_2 Llaw9_1000080 Llaw9_1000069 Llaw9_1000052 Llaw9_1000032 Llaw9_1000027 n0 c1 i2 n3 c4 b5 b6 i7 i8 i9 i10 i11 = some r) : Rlaw9_1000032 (Tlaw9_1000032a n0 c1 i2 n3 c4 b5 b6 i7 i8 i9 i10 i11) = some r :=
  nd_of Elaw9_ok (by kernel_rfl) (lo_cons (lpO_ok Ulaw9) (lo_cons (lpO_ok Ulaw9) (lo_cons (lpO_ok Ulaw9) (lo_cons (lpO_ok Ulaw9) (lo_cons (lpO_ok Ulaw9) (lo_cons (lpO_ok Ulaw9) (lo_cons (lpO_ok Ulaw9) lo_nil))))))) (by kernel_rfl) ((Blaw9_1000032a_eq _ Rlaw9_1000032 _ _ _ _ _ _ _ _ _ _ _ _ _ _ _ _ _ _ _ _).trans h)
def Blaw9_1000027a (F : FnT) (N : QO) (E : EO) (L0 : Q → Option Ylaw9_0) (L2 : Q → Option Ylaw9_2) (L1000080 : Q → Option Ylaw9_1000080) (L1000069 : Q → Option Ylaw9_1000069) (L1000052 : Q → Option Ylaw9_1000052) (L1000032 : Q → Option Ylaw9_1000032) (L1000027 : Q → Option Ylaw9_1000027) (n0 : Nat) (c1 : List PV) (i2 : Int) (n3 : Nat) (c4 : List PV) (b5 b6 : Bool) (i7 i8 i9 i10 i11 i12 : Int) (b13 : Bool) (i14 i15 i16 i17 : Int) : Option (Ext × S) :=
  bif (i8 != (0 : Int)) then
    E (Xlaw9_1000027a ())
  else bif b13 then
    bif (decide (((0 : Int) ≤ i7) ∧ (i7 < (n0 : Int)))) then
      bindO (intC .i64 (c1[(((Int.toNat i7) * 3) + 0)]?)) fun x0 =>
      bindO (F 64 (RSh.one CK.bool) [(PV.list n3 c4), (PV.int .i64 x0)]) fun (y1 : (Bool)) =>
      bif y1 then
        bif (decide (((0 : Int) ≤ i7) ∧ (i7 < (n0 : Int)))) then
          bindO (intC .i64 (c1[(((Int.toNat i7) * 3) + 0)]?)) fun x2 =>
          bif (i16 != x2) then
            E (Xlaw9_1000027a ())
          else bif (decide (((0 : Int) ≤ i7) ∧ (i7 < (n0 : Int)))) then
            bindO (intC .i64 (c1[((((Int.toNat i7) * 3) + 1) + 0)]?)) fun x3 =>
            bif (decide (x3 ≥ i9)) then
              bif b13 then
                E (Xlaw9_1000027b (n0, c1, i2, n3, c4, b5, b6, i7, i9, i10, i11, i12, b13, i14, i15, i16, i17))
              else E (Xlaw9_1000027a ())
            else E (Xlaw9_1000027b (n0, c1, i2, n3, c4, b5, b6, i7, i9, i10, i11, i12, b13, i14, i15, i16, i17))
          else none
        else none
      else E (Xlaw9_1000027a ())
    else none
  else bif (decide (((0 : Int) ≤ i7) ∧ (i7 < (n0 : Int)))) then
    bindO (intC .i64 (c1[(((Int.toNat i7) * 3) + 0)]?)) fun x4 =>
    bindO (F 64 (RSh.one CK.bool) [(PV.list n3 c4), (PV.int .i64 x4)]) fun (y5 : (Bool)) =>
    bif y5 then
      E (Xlaw9_1000027a ())
    else bif (decide (((0 : Int) ≤ i7) ∧ (i7 < (n0 : Int)))) then
      bindO (intC .i64 (c1[(((Int.toNat i7) * 3) + 0)]?)) fun x6 =>
      bif (i16 != x6) then
        E (Xlaw9_1000027a ())
      else bif (decide (((0 : Int) ≤ i7) ∧ (i7 < (n0 : Int)))) then
        bindO (intC .i64 (c1[((((Int.toNat i7) * 3) + 1) + 0)]?)) fun x7 =>
        bif (decide (x7 ≥ i9)) then
          bif b13 then
            E (Xlaw9_1000027b (n0, c1, i2, n3, c4, b5, b6, i7, i9, i10, i11, i12, b13, i14, i15, i16, i17))
          else E (Xlaw9_1000027a ())
        else E (Xlaw9_1000027b (n0, c1, i2, n3, c4, b5, b6, i7, i9, i10, i11, i12, b13, i14, i15, i16, i17))
      else none
    else none
  else none
theorem Blaw9_1000027a_eq (F : FnT) (N : QO) (E : EO) (L0 : Q → Option Ylaw9_0) (L2 : Q → Option Ylaw9_2) (L1000080 : Q → Option Ylaw9_1000080) (L1000069 : Q → Option Ylaw9_1000069) (L1000052 : Q → Option Ylaw9_1000052) (L1000032 : Q → Option Ylaw9_1000032) (L1000027 : Q → Option Ylaw9_1000027) (n0 : Nat) (c1 : List PV) (i2 : Int) (n3 : Nat) (c4 : List PV) (b5 b6 : Bool) (i7 i8 i9 i10 i11 i12 : Int) (b13 : Bool) (i14 i15 i16 i17 : Int) : semN (callP F Elaw9 20) s9 (loopT [⟨0, Ylaw9_0, L0, XLlaw9_0⟩, ⟨2, Ylaw9_2, L2, XLlaw9_2⟩, ⟨1000080, Ylaw9_1000080, L1000080, XLlaw9_1000080⟩, ⟨1000069, Ylaw9_1000069, L1000069, XLlaw9_1000069⟩, ⟨1000052, Ylaw9_1000052, L1000052, XLlaw9_1000052⟩, ⟨1000032, Ylaw9_1000032, L1000032, XLlaw9_1000032⟩, ⟨1000027, Ylaw9_1000027, L1000027, XLlaw9_1000027⟩]) 400 (blkIn a9.body 1000027) E (Tlaw9_1000027a n0 c1 i2 n3 c4 b5 b6 i7 i8 i9 i10 i11 i12 b13 i14 i15 i16 i17) = Blaw9_1000027a F N E L0 L2 L1000080 L1000069 L1000052 L1000032 L1000027 n0 c1 i2 n3 c4 b5 b6 i7 i8 i9 i10 i11 i12 b13 i14 i15 i16 i17 := by kernel_rfl
theorem Rlaw9_1000027a_of  (n0 : Nat) (c1 : List PV) (i2 : Int) (n3 : Nat) (c4 : List PV) (b5 b6 : Bool) (i7 i8 i9 i10 i11 i12 : Int) (b13 : Bool) (i14 i15 i16 i17 : Int) {r : Ext × S} (h : Blaw9_1000027a (Fn env) Rlaw9_1000027 exO Llaw9_0 Llaw9_2 Llaw9_1000080 Llaw9_1000069 Llaw9_1000052 Llaw9_1000032 Llaw9_1000027 n0 c1 i2 n3 c4 b5 b6 i7 i8 i9 i10 i11 i12 b13 i14 i15 i16 i17 = some r) : Rlaw9_1000027 (Tlaw9_1000027a n0 c1 i2 n3 c4 b5 b6 i7 i8 i9 i10 i11 i12 b13 i14 i15 i16 i17) = some r :=
  nd_of Elaw9_ok (by kernel_rfl) (lo_cons (lpO_ok Ulaw9) (lo_cons (lpO_ok Ulaw9) (lo_cons (lpO_ok Ulaw9) (lo_cons (lpO_ok Ulaw9) (lo_cons (lpO_ok Ulaw9) (lo_cons (lpO_ok Ulaw9) (lo_cons (lpO_ok Ulaw9) lo_nil))))))) (by kernel_rfl) ((Blaw9_1000027a_eq _ Rlaw9_1000027 _ _ _ _ _ _ _ _ _ _ _ _ _ _ _ _ _ _ _ _ _ _ _ _ _ _).trans h)
def tlaw9 (F : FnT) (L0 : Q → Option Ylaw9_0) (L2 : Q → Option Ylaw9_2) (L1000080 : Q → Option Ylaw9_1000080) (L1000069 : Q → Option Ylaw9_1000069) (L1000052 : Q → Option Ylaw9_1000052) (L1000032 : Q → Option Ylaw9_1000032) (L1000027 : Q → Option Ylaw9_1000027) (p0_0 p0_1 p0_2 p0_3 : Int) (p1n : Nat) (p1c : List PV) (p2 : Int) : Option (Bool) :=
  bindO (F 13 (RSh.one CK.bool) []) fun (y0 : (Bool)) =>
  bif y0 then
    bindO (L1000080 (Tlaw9_1000080a p1n p1c p2 p0_0 p0_1 p0_2 p0_3)) fun z =>
    Sum.elim (fun y1 =>
      some true) (fun y2 =>
      bindO (F 55 (RSh.one CK.list) [(PV.list y2.1 y2.2.1)]) fun (y3 : ((Nat) × (List PV))) =>
      bindO (F 57 (RSh.tup [(Prod.mk false [CK.list]), (Prod.mk false [(CK.int .i64)])]) [(PV.agg [(PV.int .i64 y2.2.2.2.1), (PV.int .i64 y2.2.2.2.2.1), (PV.int .i64 y2.2.2.2.2.2.1), (PV.int .i64 y2.2.2.2.2.2.2)]), (PV.list y3.1 y3.2)]) fun (y4 : (((Nat) × (List PV)) × (Int))) =>
      bindO (F 55 (RSh.one CK.list) [(PV.list y2.1 y2.2.1)]) fun (y5 : ((Nat) × (List PV))) =>
      bindO (F 56 (RSh.tup [(Prod.mk true [CK.bool, (CK.int .i64), (CK.int .i64), (CK.int .i64), (CK.int .i64)]), (Prod.mk false [(CK.int .i64)])]) [(PV.agg [(PV.int .i64 y2.2.2.2.1), (PV.int .i64 y2.2.2.2.2.1), (PV.int .i64 y2.2.2.2.2.2.1), (PV.int .i64 y2.2.2.2.2.2.2)]), (PV.list y5.1 y5.2), (PV.int .i64 y2.2.2.1)]) fun (y6 : ((Bool) × ((Int) × ((Int) × ((Int) × ((Int) × (Int))))))) =>
      bindO (L1000069 (Tlaw9_1000069a y2.1 y2.2.1 y2.2.2.1 y4.1.1 y4.1.2 y4.2 y6.2.2.2.2.2 y2.2.2.2.1 y2.2.2.2.2.1 y2.2.2.2.2.2.1 y2.2.2.2.2.2.2 y6.1 y6.2.1 y6.2.2.1 y6.2.2.2.1 y6.2.2.2.2.1)) fun z =>
      Sum.elim (fun y7 =>
        some false) (fun y8 =>
        bindO (L0 (Tlaw9_0a y8.1 y8.2.1 y8.2.2.1 y8.2.2.2.1 y8.2.2.2.2.1 (0 : Int) y8.2.2.2.2.2.1 y8.2.2.2.2.2.2.1 y8.2.2.2.2.2.2.2.1 y8.2.2.2.2.2.2.2.2)) fun z =>
        Sum.elim (fun y9 =>
          bindO (L2 (Tlaw9_2a y9.1 y9.2.1 y9.2.2.1 y9.2.2.2.1 y9.2.2.2.2.1 true false (0 : Int) y9.2.2.2.2.2.1 y9.2.2.2.2.2.2.1 y9.2.2.2.2.2.2.2.1 y9.2.2.2.2.2.2.2.2)) fun z =>
          Sum.elim (fun y10 =>
            bif y10.2.2.1 then
              bif y10.2.2.2.1 then
                some true
              else bif (decide ((y10.1 : Int) ≤ (1 : Int))) then
                some true
              else some false
            else some true) (fun y11 =>
            some false) z) (fun y12 =>
          some false) z) z) z
  else some false
theorem tlaw9_eq (F : FnT) (L0 : Q → Option Ylaw9_0) (L2 : Q → Option Ylaw9_2) (L1000080 : Q → Option Ylaw9_1000080) (L1000069 : Q → Option Ylaw9_1000069) (L1000052 : Q → Option Ylaw9_1000052) (L1000032 : Q → Option Ylaw9_1000032) (L1000027 : Q → Option Ylaw9_1000027) (p0_0 p0_1 p0_2 p0_3 : Int) (p1n : Nat) (p1c : List PV) (p2 : Int) : semF (callP F Elaw9 20) s9 (loopT [⟨0, Ylaw9_0, L0, XLlaw9_0⟩, ⟨2, Ylaw9_2, L2, XLlaw9_2⟩, ⟨1000080, Ylaw9_1000080, L1000080, XLlaw9_1000080⟩, ⟨1000069, Ylaw9_1000069, L1000069, XLlaw9_1000069⟩, ⟨1000052, Ylaw9_1000052, L1000052, XLlaw9_1000052⟩, ⟨1000032, Ylaw9_1000032, L1000032, XLlaw9_1000032⟩, ⟨1000027, Ylaw9_1000027, L1000027, XLlaw9_1000027⟩]) 400 a9 [PV.agg [PV.int .i64 p0_0, PV.int .i64 p0_1, PV.int .i64 p0_2, PV.int .i64 p0_3], PV.list p1n p1c, PV.int .i64 p2] (fun rv => decR (RSh.one CK.bool) rv.pv) = tlaw9 F L0 L2 L1000080 L1000069 L1000052 L1000032 L1000027 p0_0 p0_1 p0_2 p0_3 p1n p1c p2 := by kernel_rfl
noncomputable abbrev Flaw9 (args : List PV) := Fn env 9 (RSh.one CK.bool) args
theorem Flaw9_of  (p0_0 p0_1 p0_2 p0_3 : Int) (p1n : Nat) (p1c : List PV) (p2 : Int) {res : (Bool)} (h : tlaw9 (Fn env) Llaw9_0 Llaw9_2 Llaw9_1000080 Llaw9_1000069 Llaw9_1000052 Llaw9_1000032 Llaw9_1000027 p0_0 p0_1 p0_2 p0_3 p1n p1c p2 = some res) : Flaw9 [PV.agg [PV.int .i64 p0_0, PV.int .i64 p0_1, PV.int .i64 p0_2, PV.int .i64 p0_3], PV.list p1n p1c, PV.int .i64 p2] = some res :=
  fn_of Elaw9_ok rfl rfl (lo_cons (lpO_ok Ulaw9) (lo_cons (lpO_ok Ulaw9) (lo_cons (lpO_ok Ulaw9) (lo_cons (lpO_ok Ulaw9) (lo_cons (lpO_ok Ulaw9) (lo_cons (lpO_ok Ulaw9) (lo_cons (lpO_ok Ulaw9) lo_nil))))))) ((tlaw9_eq _ _ _ _ _ _ _ _ _ _ _ _ _ _ _).trans h)
end Gv
