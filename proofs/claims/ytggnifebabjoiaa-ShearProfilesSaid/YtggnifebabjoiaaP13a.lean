/- What the functions do, round by round: P13. -/
import Derived.Test.YtggnifebabjoiaaGvEnv
namespace Gv
open Go
set_option maxRecDepth 100000
set_option maxHeartbeats 4000000
def Elaw4 : List Entry := [.out 13 (RSh.one CK.bool), .out 20 (RSh.one CK.bool), .out 22 (RSh.one CK.list), .out 21 (RSh.tup [(Prod.mk false [(CK.int .i64)]), (Prod.mk false [(CK.int .i64)])]), .out 23 (RSh.tup [(Prod.mk true [(CK.int .i64), (CK.int .i64)]), (Prod.mk false [(CK.int .i64)])]), .out 24 (RSh.tup [(Prod.mk true [(CK.int .i64), (CK.int .i64), (CK.int .i64), (CK.int .i64)]), (Prod.mk false [(CK.int .i64)])]), .out 25 (RSh.tup [(Prod.mk true [(CK.int .i64), (CK.int .i64), (CK.int .i64), (CK.int .i64)]), (Prod.mk false [(CK.int .i64)])]), .out 26 (RSh.tup [(Prod.mk false [(CK.int .i64)]), (Prod.mk false [(CK.int .i64)])]), .out 27 (RSh.tup [(Prod.mk false [CK.list]), (Prod.mk false [(CK.int .i64)])]), .out 28 (RSh.tup [(Prod.mk false [(CK.int .i64)]), (Prod.mk false [(CK.int .i64)])]), .out 29 (RSh.one CK.bool), .out 30 (RSh.agg [(CK.int .i64), (CK.int .i64)]), .out 31 (RSh.one (CK.int .i64)), .out 33 (RSh.one CK.list), .out 32 (RSh.one CK.bool), .out 34 (RSh.one (CK.int .i64)), .out 35 (RSh.tup [(Prod.mk true [(CK.int .i64), (CK.int .i64), (CK.int .i64), (CK.int .i64)]), (Prod.mk false [CK.bool])]), .out 36 (RSh.tup [(Prod.mk false [(CK.int .i64)]), (Prod.mk false [CK.bool])])]
theorem Elaw4_ok : ∀ e ∈ Elaw4, EntOK env e := (ent_out (ent_out (ent_out (ent_out (ent_out (ent_out (ent_out (ent_out (ent_out (ent_out (ent_out (ent_out (ent_out (ent_out (ent_out (ent_out (ent_out (ent_out ent_nil))))))))))))))))))
def Tlaw4_1000062a (n0 : Nat) (c1 : List PV) (i2 : Int) (i3 : Int) (i4 : Int) (i5 : Int) (i6 : Int) (i7 : Int) (i8 : Int) (i9 : Int) (i10 : Int) (n11 : Nat) (c12 : List PV) (i13 : Int) (i14 : Int) (i15 : Int) (i16 : Int) (i17 : Int) (i18 : Int) (i19 : Int) (i20 : Int) (i21 : Int) (i22 : Int) (i23 : Int) (i24 : Int) (i25 : Int) (i26 : Int) (i27 : Int) : Q := ⟨(tm 334 [(0, (AV.p (PV.list n0 c1))), (4, (AV.loc 4 0)), (7, (AV.p (PV.int .i64 i2))), (8, (AV.p (PV.int .i64 i3))), (9, (AV.p (PV.int .i64 i4))), (10, (AV.p (PV.int .i64 i5))), (11, (AV.loc 11 0)), (12, (AV.p (PV.int .i64 i6))), (13, (AV.loc 13 0)), (14, (AV.p (PV.int .i64 i7))), (15, (AV.loc 15 0)), (16, (AV.p (PV.int .i64 i8))), (17, (AV.p (PV.int .i64 i9))), (18, (AV.p (PV.int .i64 i10))), (19, (AV.p (PV.list n11 c12))), (20, (AV.p (PV.int .i64 i13))), (21, (AV.p (PV.int .i64 i14))), (22, (AV.p (PV.int .i64 i15)))]), (mm 334 [(4, (Bk.pcs true [(PV.int .i64 i16), (PV.int .i64 i17)])), (11, (Bk.pcs true [(PV.int .i64 i18), (PV.int .i64 i19)])), (13, (Bk.pcs true [(PV.int .i64 i20), (PV.int .i64 i21), (PV.int .i64 i22), (PV.int .i64 i23)])), (15, (Bk.pcs true [(PV.int .i64 i24), (PV.int .i64 i25), (PV.int .i64 i26), (PV.int .i64 i27)]))])⟩
def Xlaw4_1000062a (y : Unit) : Ext × Q := (Ext.ret, ⟨(tm 334 [(6, (AV.p (PV.bool false)))]), (mm 334 [])⟩)
def Ilaw4_1000062a (q : Ext × S) : Unit := ()
def Xlaw4_1000062b (y : Nat × List PV × Int × Int × Int × Int × Int × Int × Int × Nat × List PV × Int × Int × Int × Int × Int × Int × Int × Int × Int × Int × Int × Int × Int × Int) : Ext × Q := (Ext.normal, ⟨(tm 334 [(0, (AV.p (PV.list y.1 y.2.1))), (4, (AV.loc 4 0)), (7, (AV.p (PV.int .i64 y.2.2.1))), (8, (AV.p (PV.int .i64 y.2.2.2.1))), (11, (AV.loc 11 0)), (12, (AV.p (PV.int .i64 y.2.2.2.2.1))), (13, (AV.loc 13 0)), (14, (AV.p (PV.int .i64 y.2.2.2.2.2.1))), (15, (AV.loc 15 0)), (16, (AV.p (PV.int .i64 y.2.2.2.2.2.2.1))), (17, (AV.p (PV.int .i64 y.2.2.2.2.2.2.2.1))), (18, (AV.p (PV.int .i64 y.2.2.2.2.2.2.2.2.1))), (19, (AV.p (PV.list y.2.2.2.2.2.2.2.2.2.1 y.2.2.2.2.2.2.2.2.2.2.1))), (20, (AV.p (PV.int .i64 y.2.2.2.2.2.2.2.2.2.2.2.1))), (22, (AV.p (PV.int .i64 y.2.2.2.2.2.2.2.2.2.2.2.2.1)))]), (mm 334 [(4, (Bk.pcs true [(PV.int .i64 y.2.2.2.2.2.2.2.2.2.2.2.2.2.1), (PV.int .i64 y.2.2.2.2.2.2.2.2.2.2.2.2.2.2.1)])), (11, (Bk.pcs true [(PV.int .i64 y.2.2.2.2.2.2.2.2.2.2.2.2.2.2.2.1), (PV.int .i64 y.2.2.2.2.2.2.2.2.2.2.2.2.2.2.2.2.1)])), (13, (Bk.pcs true [(PV.int .i64 y.2.2.2.2.2.2.2.2.2.2.2.2.2.2.2.2.2.1), (PV.int .i64 y.2.2.2.2.2.2.2.2.2.2.2.2.2.2.2.2.2.2.1), (PV.int .i64 y.2.2.2.2.2.2.2.2.2.2.2.2.2.2.2.2.2.2.2.1), (PV.int .i64 y.2.2.2.2.2.2.2.2.2.2.2.2.2.2.2.2.2.2.2.2.1)])), (15, (Bk.pcs true [(PV.int .i64 y.2.2.2.2.2.2.2.2.2.2.2.2.2.2.2.2.2.2.2.2.2.1), (PV.int .i64 y.2.2.2.2.2.2.2.2.2.2.2.2.2.2.2.2.2.2.2.2.2.2.1), (PV.int .i64 y.2.2.2.2.2.2.2.2.2.2.2.2.2.2.2.2.2.2.2.2.2.2.2.1), (PV.int .i64 y.2.2.2.2.2.2.2.2.2.2.2.2.2.2.2.2.2.2.2.2.2.2.2.2)]))])⟩)
def Ilaw4_1000062b (q : Ext × S) : Nat × List PV × Int × Int × Int × Int × Int × Int × Int × Nat × List PV × Int × Int × Int × Int × Int × Int × Int × Int × Int × Int × Int × Int × Int × Int := ((pP_list0 (pA_p (avT q.2 0))), (pP_list1 (pA_p (avT q.2 0))), (pP_int1 (pA_p (avT q.2 7))), (pP_int1 (pA_p (avT q.2 8))), (pP_int1 (pA_p (avT q.2 12))), (pP_int1 (pA_p (avT q.2 14))), (pP_int1 (pA_p (avT q.2 16))), (pP_int1 (pA_p (avT q.2 17))), (pP_int1 (pA_p (avT q.2 18))), (pP_list0 (pA_p (avT q.2 19))), (pP_list1 (pA_p (avT q.2 19))), (pP_int1 (pA_p (avT q.2 20))), (pP_int1 (pA_p (avT q.2 22))), (pP_int1 (hdP (pB_pcs1 (avM q.2 4)))), (pP_int1 (hdP (List.tail (pB_pcs1 (avM q.2 4))))), (pP_int1 (hdP (pB_pcs1 (avM q.2 11)))), (pP_int1 (hdP (List.tail (pB_pcs1 (avM q.2 11))))), (pP_int1 (hdP (pB_pcs1 (avM q.2 13)))), (pP_int1 (hdP (List.tail (pB_pcs1 (avM q.2 13))))), (pP_int1 (hdP (List.tail (List.tail (pB_pcs1 (avM q.2 13)))))), (pP_int1 (hdP (List.tail (List.tail (List.tail (pB_pcs1 (avM q.2 13))))))), (pP_int1 (hdP (pB_pcs1 (avM q.2 15)))), (pP_int1 (hdP (List.tail (pB_pcs1 (avM q.2 15))))), (pP_int1 (hdP (List.tail (List.tail (pB_pcs1 (avM q.2 15)))))), (pP_int1 (hdP (List.tail (List.tail (List.tail (pB_pcs1 (avM q.2 15))))))))
abbrev Ylaw4_1000062 : Type := (Unit) ⊕ ((Nat × List PV × Int × Int × Int × Int × Int × Int × Int × Nat × List PV × Int × Int × Int × Int × Int × Int × Int × Int × Int × Int × Int × Int × Int × Int))
def XLlaw4_1000062 : XL Ylaw4_1000062 := .more Xlaw4_1000062a (.one Xlaw4_1000062b)
def Ilaw4_1000062 (q : Ext × S) : Ylaw4_1000062 := bif (cE q.1 == 2) then (Sum.inl (Ilaw4_1000062a q)) else (Sum.inr (Ilaw4_1000062b q))
theorem XIlaw4_1000062a (y : Unit) : Ilaw4_1000062 (xe (Xlaw4_1000062a y)) = (Sum.inl y) := by kernel_rfl
theorem XIlaw4_1000062b (y : Nat × List PV × Int × Int × Int × Int × Int × Int × Int × Nat × List PV × Int × Int × Int × Int × Int × Int × Int × Int × Int × Int × Int × Int × Int × Int) : Ilaw4_1000062 (xe (Xlaw4_1000062b y)) = (Sum.inr y) := by kernel_rfl
theorem XIlaw4_1000062 (y : Ylaw4_1000062) : Ilaw4_1000062 (xe (XLlaw4_1000062.fn y)) = y := (match y with | .inl y => XIlaw4_1000062a y | .inr y => XIlaw4_1000062b y)
noncomputable abbrev Llaw4_1000062 : Q → Option Ylaw4_1000062 := lpO env a4.body 1000062 XLlaw4_1000062
noncomputable abbrev Rlaw4_1000062 : Q → Option (Ext × S) := lpR env a4.body 1000062
theorem Llaw4_1000062b_of {s : Q} {y : Nat × List PV × Int × Int × Int × Int × Int × Int × Int × Nat × List PV × Int × Int × Int × Int × Int × Int × Int × Int × Int × Int × Int × Int × Int × Int} (h : Rlaw4_1000062 s = exO (Xlaw4_1000062b y)) : Llaw4_1000062 s = some (Sum.inr y) := lpO_of Ilaw4_1000062 XIlaw4_1000062 (y := (Sum.inr y)) h
def Tlaw4_1000046a (n0 : Nat) (c1 : List PV) (i2 : Int) (i3 : Int) (i4 : Int) (i5 : Int) (i6 : Int) (i7 : Int) (i8 : Int) (n9 : Nat) (c10 : List PV) (i11 : Int) (i12 : Int) (i13 : Int) (i14 : Int) (i15 : Int) (i16 : Int) (i17 : Int) (i18 : Int) (i19 : Int) (i20 : Int) (i21 : Int) (i22 : Int) (i23 : Int) : Q := ⟨(tm 334 [(0, (AV.p (PV.list n0 c1))), (4, (AV.loc 4 0)), (7, (AV.p (PV.int .i64 i2))), (8, (AV.p (PV.int .i64 i3))), (11, (AV.loc 11 0)), (12, (AV.p (PV.int .i64 i4))), (13, (AV.loc 13 0)), (14, (AV.p (PV.int .i64 i5))), (15, (AV.loc 15 0)), (16, (AV.p (PV.int .i64 i6))), (17, (AV.p (PV.int .i64 i7))), (18, (AV.p (PV.int .i64 i8))), (19, (AV.p (PV.list n9 c10))), (20, (AV.p (PV.int .i64 i11))), (23, (AV.loc 23 0))]), (mm 334 [(4, (Bk.pcs true [(PV.int .i64 i12), (PV.int .i64 i13)])), (11, (Bk.pcs true [(PV.int .i64 i14), (PV.int .i64 i15)])), (13, (Bk.pcs true [(PV.int .i64 i16), (PV.int .i64 i17), (PV.int .i64 i18), (PV.int .i64 i19)])), (15, (Bk.pcs true [(PV.int .i64 i20), (PV.int .i64 i21), (PV.int .i64 i22), (PV.int .i64 i23)])), (23, (Bk.pcs true [(PV.int .i64 (0 : Int)), (PV.int .i64 (0 : Int)), (PV.int .i64 (0 : Int)), (PV.int .i64 (0 : Int))]))])⟩
def Xlaw4_1000046a (y : Unit) : Ext × Q := (Ext.ret, ⟨(tm 334 [(6, (AV.p (PV.bool false)))]), (mm 334 [])⟩)
def Ilaw4_1000046a (q : Ext × S) : Unit := ()
def Xlaw4_1000046b (y : Nat × List PV × Int × Int × Int × Int × Int × Int × Nat × List PV × Int × Int × Int × Int × Int × Int × Int × Int × Int) : Ext × Q := (Ext.normal, ⟨(tm 334 [(0, (AV.p (PV.list y.1 y.2.1))), (7, (AV.p (PV.int .i64 y.2.2.1))), (8, (AV.p (PV.int .i64 y.2.2.2.1))), (13, (AV.loc 13 0)), (14, (AV.p (PV.int .i64 y.2.2.2.2.1))), (15, (AV.loc 15 0)), (16, (AV.p (PV.int .i64 y.2.2.2.2.2.1))), (17, (AV.p (PV.int .i64 y.2.2.2.2.2.2.1))), (18, (AV.p (PV.int .i64 y.2.2.2.2.2.2.2.1))), (19, (AV.p (PV.list y.2.2.2.2.2.2.2.2.1 y.2.2.2.2.2.2.2.2.2.1))), (20, (AV.p (PV.int .i64 y.2.2.2.2.2.2.2.2.2.2.1))), (23, (AV.loc 23 0))]), (mm 334 [(13, (Bk.pcs true [(PV.int .i64 y.2.2.2.2.2.2.2.2.2.2.2.1), (PV.int .i64 y.2.2.2.2.2.2.2.2.2.2.2.2.1), (PV.int .i64 y.2.2.2.2.2.2.2.2.2.2.2.2.2.1), (PV.int .i64 y.2.2.2.2.2.2.2.2.2.2.2.2.2.2.1)])), (15, (Bk.pcs true [(PV.int .i64 y.2.2.2.2.2.2.2.2.2.2.2.2.2.2.2.1), (PV.int .i64 y.2.2.2.2.2.2.2.2.2.2.2.2.2.2.2.2.1), (PV.int .i64 y.2.2.2.2.2.2.2.2.2.2.2.2.2.2.2.2.2.1), (PV.int .i64 y.2.2.2.2.2.2.2.2.2.2.2.2.2.2.2.2.2.2)])), (23, (Bk.pcs true [(PV.int .i64 (0 : Int)), (PV.int .i64 (0 : Int)), (PV.int .i64 (0 : Int)), (PV.int .i64 (0 : Int))]))])⟩)
def Ilaw4_1000046b (q : Ext × S) : Nat × List PV × Int × Int × Int × Int × Int × Int × Nat × List PV × Int × Int × Int × Int × Int × Int × Int × Int × Int := ((pP_list0 (pA_p (avT q.2 0))), (pP_list1 (pA_p (avT q.2 0))), (pP_int1 (pA_p (avT q.2 7))), (pP_int1 (pA_p (avT q.2 8))), (pP_int1 (pA_p (avT q.2 14))), (pP_int1 (pA_p (avT q.2 16))), (pP_int1 (pA_p (avT q.2 17))), (pP_int1 (pA_p (avT q.2 18))), (pP_list0 (pA_p (avT q.2 19))), (pP_list1 (pA_p (avT q.2 19))), (pP_int1 (pA_p (avT q.2 20))), (pP_int1 (hdP (pB_pcs1 (avM q.2 13)))), (pP_int1 (hdP (List.tail (pB_pcs1 (avM q.2 13))))), (pP_int1 (hdP (List.tail (List.tail (pB_pcs1 (avM q.2 13)))))), (pP_int1 (hdP (List.tail (List.tail (List.tail (pB_pcs1 (avM q.2 13))))))), (pP_int1 (hdP (pB_pcs1 (avM q.2 15)))), (pP_int1 (hdP (List.tail (pB_pcs1 (avM q.2 15))))), (pP_int1 (hdP (List.tail (List.tail (pB_pcs1 (avM q.2 15)))))), (pP_int1 (hdP (List.tail (List.tail (List.tail (pB_pcs1 (avM q.2 15))))))))
abbrev Ylaw4_1000046 : Type := (Unit) ⊕ ((Nat × List PV × Int × Int × Int × Int × Int × Int × Nat × List PV × Int × Int × Int × Int × Int × Int × Int × Int × Int))
def XLlaw4_1000046 : XL Ylaw4_1000046 := .more Xlaw4_1000046a (.one Xlaw4_1000046b)
def Ilaw4_1000046 (q : Ext × S) : Ylaw4_1000046 := bif (cE q.1 == 2) then (Sum.inl (Ilaw4_1000046a q)) else (Sum.inr (Ilaw4_1000046b q))
theorem XIlaw4_1000046a (y : Unit) : Ilaw4_1000046 (xe (Xlaw4_1000046a y)) = (Sum.inl y) := by kernel_rfl
theorem XIlaw4_1000046b (y : Nat × List PV × Int × Int × Int × Int × Int × Int × Nat × List PV × Int × Int × Int × Int × Int × Int × Int × Int × Int) : Ilaw4_1000046 (xe (Xlaw4_1000046b y)) = (Sum.inr y) := by kernel_rfl
theorem XIlaw4_1000046 (y : Ylaw4_1000046) : Ilaw4_1000046 (xe (XLlaw4_1000046.fn y)) = y := (match y with | .inl y => XIlaw4_1000046a y | .inr y => XIlaw4_1000046b y)
noncomputable abbrev Llaw4_1000046 : Q → Option Ylaw4_1000046 := lpO env a4.body 1000046 XLlaw4_1000046
noncomputable abbrev Rlaw4_1000046 : Q → Option (Ext × S) := lpR env a4.body 1000046
theorem Llaw4_1000046b_of {s : Q} {y : Nat × List PV × Int × Int × Int × Int × Int × Int × Nat × List PV × Int × Int × Int × Int × Int × Int × Int × Int × Int} (h : Rlaw4_1000046 s = exO (Xlaw4_1000046b y)) : Llaw4_1000046 s = some (Sum.inr y) := lpO_of Ilaw4_1000046 XIlaw4_1000046 (y := (Sum.inr y)) h
def Tlaw4_1000032a (n0 : Nat) (c1 : List PV) (i2 : Int) (i3 : Int) (i4 : Int) (i5 : Int) (i6 : Int) (i7 : Int) (n8 : Nat) (c9 : List PV) (i10 : Int) (i11 : Int) (i12 : Int) (i13 : Int) (i14 : Int) (i15 : Int) (i16 : Int) (i17 : Int) (i18 : Int) : Q := ⟨(tm 334 [(0, (AV.p (PV.list n0 c1))), (7, (AV.p (PV.int .i64 i2))), (8, (AV.p (PV.int .i64 i3))), (13, (AV.loc 13 0)), (14, (AV.p (PV.int .i64 i4))), (15, (AV.loc 15 0)), (16, (AV.p (PV.int .i64 i5))), (17, (AV.p (PV.int .i64 i6))), (18, (AV.p (PV.int .i64 i7))), (19, (AV.p (PV.list n8 c9))), (20, (AV.p (PV.int .i64 i10))), (23, (AV.loc 23 0))]), (mm 334 [(13, (Bk.pcs true [(PV.int .i64 i11), (PV.int .i64 i12), (PV.int .i64 i13), (PV.int .i64 i14)])), (15, (Bk.pcs true [(PV.int .i64 i15), (PV.int .i64 i16), (PV.int .i64 i17), (PV.int .i64 i18)])), (23, (Bk.pcs true [(PV.int .i64 (0 : Int)), (PV.int .i64 (0 : Int)), (PV.int .i64 (0 : Int)), (PV.int .i64 (0 : Int))]))])⟩
def Xlaw4_1000032a (y : Unit) : Ext × Q := (Ext.ret, ⟨(tm 334 [(6, (AV.p (PV.bool false)))]), (mm 334 [])⟩)
def Ilaw4_1000032a (q : Ext × S) : Unit := ()
def Xlaw4_1000032b (y : Nat × List PV × Int × Int × Int × Int × Int × Int × Int × Int × Int × Int × Int × Int × Int) : Ext × Q := (Ext.normal, ⟨(tm 334 [(0, (AV.p (PV.list y.1 y.2.1))), (7, (AV.p (PV.int .i64 y.2.2.1))), (13, (AV.loc 13 0)), (14, (AV.p (PV.int .i64 y.2.2.2.1))), (15, (AV.loc 15 0)), (16, (AV.p (PV.int .i64 y.2.2.2.2.1))), (17, (AV.p (PV.int .i64 y.2.2.2.2.2.1))), (18, (AV.p (PV.int .i64 y.2.2.2.2.2.2.1))), (23, (AV.loc 23 0))]), (mm 334 [(13, (Bk.pcs true [(PV.int .i64 y.2.2.2.2.2.2.2.1), (PV.int .i64 y.2.2.2.2.2.2.2.2.1), (PV.int .i64 y.2.2.2.2.2.2.2.2.2.1), (PV.int .i64 y.2.2.2.2.2.2.2.2.2.2.1)])), (15, (Bk.pcs true [(PV.int .i64 y.2.2.2.2.2.2.2.2.2.2.2.1), (PV.int .i64 y.2.2.2.2.2.2.2.2.2.2.2.2.1), (PV.int .i64 y.2.2.2.2.2.2.2.2.2.2.2.2.2.1), (PV.int .i64 y.2.2.2.2.2.2.2.2.2.2.2.2.2.2)])), (23, (Bk.pcs true [(PV.int .i64 (0 : Int)), (PV.int .i64 (0 : Int)), (PV.int .i64 (0 : Int)), (PV.int .i64 (0 : Int))]))])⟩)
def Ilaw4_1000032b (q : Ext × S) : Nat × List PV × Int × Int × Int × Int × Int × Int × Int × Int × Int × Int × Int × Int × Int := ((pP_list0 (pA_p (avT q.2 0))), (pP_list1 (pA_p (avT q.2 0))), (pP_int1 (pA_p (avT q.2 7))), (pP_int1 (pA_p (avT q.2 14))), (pP_int1 (pA_p (avT q.2 16))), (pP_int1 (pA_p (avT q.2 17))), (pP_int1 (pA_p (avT q.2 18))), (pP_int1 (hdP (pB_pcs1 (avM q.2 13)))), (pP_int1 (hdP (List.tail (pB_pcs1 (avM q.2 13))))), (pP_int1 (hdP (List.tail (List.tail (pB_pcs1 (avM q.2 13)))))), (pP_int1 (hdP (List.tail (List.tail (List.tail (pB_pcs1 (avM q.2 13))))))), (pP_int1 (hdP (pB_pcs1 (avM q.2 15)))), (pP_int1 (hdP (List.tail (pB_pcs1 (avM q.2 15))))), (pP_int1 (hdP (List.tail (List.tail (pB_pcs1 (avM q.2 15)))))), (pP_int1 (hdP (List.tail (List.tail (List.tail (pB_pcs1 (avM q.2 15))))))))
abbrev Ylaw4_1000032 : Type := (Unit) ⊕ ((Nat × List PV × Int × Int × Int × Int × Int × Int × Int × Int × Int × Int × Int × Int × Int))
def XLlaw4_1000032 : XL Ylaw4_1000032 := .more Xlaw4_1000032a (.one Xlaw4_1000032b)
def Ilaw4_1000032 (q : Ext × S) : Ylaw4_1000032 := bif (cE q.1 == 2) then (Sum.inl (Ilaw4_1000032a q)) else (Sum.inr (Ilaw4_1000032b q))
theorem XIlaw4_1000032a (y : Unit) : Ilaw4_1000032 (xe (Xlaw4_1000032a y)) = (Sum.inl y) := by kernel_rfl
theorem XIlaw4_1000032b (y : Nat × List PV × Int × Int × Int × Int × Int × Int × Int × Int × Int × Int × Int × Int × Int) : Ilaw4_1000032 (xe (Xlaw4_1000032b y)) = (Sum.inr y) := by kernel_rfl
theorem XIlaw4_1000032 (y : Ylaw4_1000032) : Ilaw4_1000032 (xe (XLlaw4_1000032.fn y)) = y := (match y with | .inl y => XIlaw4_1000032a y | .inr y => XIlaw4_1000032b y)
noncomputable abbrev Llaw4_1000032 : Q → Option Ylaw4_1000032 := lpO env a4.body 1000032 XLlaw4_1000032
noncomputable abbrev Rlaw4_1000032 : Q → Option (Ext × S) := lpR env a4.body 1000032
theorem Llaw4_1000032b_of {s : Q} {y : Nat × List PV × Int × Int × Int × Int × Int × Int × Int × Int × Int × Int × Int × Int × Int} (h : Rlaw4_1000032 s = exO (Xlaw4_1000032b y)) : Llaw4_1000032 s = some (Sum.inr y) := lpO_of Ilaw4_1000032 XIlaw4_1000032 (y := (Sum.inr y)) h
theorem Ulaw4 : uniq ((blocksOf a4.body).map (·.1)) = true := by kernel_rfl
def Blaw4_1000062a (F : FnT) (N : QO) (E : EO) (L1000062 : Q → Option Ylaw4_1000062) (L1000046 : Q → Option Ylaw4_1000046) (L1000032 : Q → Option Ylaw4_1000032) (n0 : Nat) (c1 : List PV) (i2 : Int) (i3 : Int) (i4 : Int) (i5 : Int) (i6 : Int) (i7 : Int) (i8 : Int) (i9 : Int) (i10 : Int) (n11 : Nat) (c12 : List PV) (i13 : Int) (i14 : Int) (i15 : Int) (i16 : Int) (i17 : Int) (i18 : Int) (i19 : Int) (i20 : Int) (i21 : Int) (i22 : Int) (i23 : Int) (i24 : Int) (i25 : Int) (i26 : Int) (i27 : Int) : Option (Ext × S) :=
  bif (i5 != i15) then
    E (Xlaw4_1000062a ())
  else bif (i4 != i14) then
    E (Xlaw4_1000062a ())
  else E (Xlaw4_1000062b (n0, c1, i2, i3, i6, i7, i8, i9, i10, n11, c12, i13, i15, i16, i17, i18, i19, i20, i21, i22, i23, i24, i25, i26, i27))
theorem Blaw4_1000062a_eq (F : FnT) (N : QO) (E : EO) (L1000062 : Q → Option Ylaw4_1000062) (L1000046 : Q → Option Ylaw4_1000046) (L1000032 : Q → Option Ylaw4_1000032) (n0 : Nat) (c1 : List PV) (i2 : Int) (i3 : Int) (i4 : Int) (i5 : Int) (i6 : Int) (i7 : Int) (i8 : Int) (i9 : Int) (i10 : Int) (n11 : Nat) (c12 : List PV) (i13 : Int) (i14 : Int) (i15 : Int) (i16 : Int) (i17 : Int) (i18 : Int) (i19 : Int) (i20 : Int) (i21 : Int) (i22 : Int) (i23 : Int) (i24 : Int) (i25 : Int) (i26 : Int) (i27 : Int) : semN (callP F Elaw4 20) s4 (loopT [⟨1000062, Ylaw4_1000062, L1000062, XLlaw4_1000062⟩, ⟨1000046, Ylaw4_1000046, L1000046, XLlaw4_1000046⟩, ⟨1000032, Ylaw4_1000032, L1000032, XLlaw4_1000032⟩]) 400 (blkIn a4.body 1000062) E (Tlaw4_1000062a n0 c1 i2 i3 i4 i5 i6 i7 i8 i9 i10 n11 c12 i13 i14 i15 i16 i17 i18 i19 i20 i21 i22 i23 i24 i25 i26 i27) = Blaw4_1000062a F N E L1000062 L1000046 L1000032 n0 c1 i2 i3 i4 i5 i6 i7 i8 i9 i10 n11 c12 i13 i14 i15 i16 i17 i18 i19 i20 i21 i22 i23 i24 i25 i26 i27 := by kernel_rfl
theorem Rlaw4_1000062a_of  (n0 : Nat) (c1 : List PV) (i2 : Int) (i3 : Int) (i4 : Int) (i5 : Int) (i6 : Int) (i7 : Int) (i8 : Int) (i9 : Int) (i10 : Int) (n11 : Nat) (c12 : List PV) (i13 : Int) (i14 : Int) (i15 : Int) (i16 : Int) (i17 : Int) (i18 : Int) (i19 : Int) (i20 : Int) (i21 : Int) (i22 : Int) (i23 : Int) (i24 : Int) (i25 : Int) (i26 : Int) (i27 : Int) {r : Ext × S} (h : Blaw4_1000062a (Fn env) Rlaw4_1000062 exO Llaw4_1000062 Llaw4_1000046 Llaw4_1000032 n0 c1 i2 i3 i4 i5 i6 i7 i8 i9 i10 n11 c12 i13 i14 i15 i16 i17 i18 i19 i20 i21 i22 i23 i24 i25 i26 i27 = some r) : Rlaw4_1000062 (Tlaw4_1000062a n0 c1 i2 i3 i4 i5 i6 i7 i8 i9 i10 n11 c12 i13 i14 i15 i16 i17 i18 i19 i20 i21 i22 i23 i24 i25 i26 i27) = some r :=
  nd_of Elaw4_ok (by kernel_rfl) (lo_cons (lpO_ok Ulaw4) (lo_cons (lpO_ok Ulaw4) (lo_cons (lpO_ok Ulaw4) lo_nil))) (by kernel_rfl) ((Blaw4_1000062a_eq _ Rlaw4_1000062 _ _ _ _ _ _ _ _ _ _ _ _ _ _ _ _ _ _ _ _ _ _ _ _ _ _ _ _ _ _ _ _).trans h)
def Blaw4_1000046a (F : FnT) (N : QO) (E : EO) (L1000062 : Q → Option Ylaw4_1000062) (L1000046 : Q → Option Ylaw4_1000046) (L1000032 : Q → Option Ylaw4_1000032) (n0 : Nat) (c1 : List PV) (i2 : Int) (i3 : Int) (i4 : Int) (i5 : Int) (i6 : Int) (i7 : Int) (i8 : Int) (n9 : Nat) (c10 : List PV) (i11 : Int) (i12 : Int) (i13 : Int) (i14 : Int) (i15 : Int) (i16 : Int) (i17 : Int) (i18 : Int) (i19 : Int) (i20 : Int) (i21 : Int) (i22 : Int) (i23 : Int) : Option (Ext × S) :=
  bindO (F 29 (RSh.one CK.bool) [(PV.int .i64 i12), (PV.int .i64 (0 : Int)), (PV.int .i64 (w64 ((n0 : Int) - (1 : Int))))]) fun (y0 : (Bool)) =>
  bif y0 then
    bindO (F 29 (RSh.one CK.bool) [(PV.int .i64 i13), (PV.int .i64 (0 : Int)), (PV.int .i64 (w64 ((n0 : Int) - (1 : Int))))]) fun (y1 : (Bool)) =>
    bif y1 then
      bif (decide (i13 ≤ i12)) then
        bif (i4 != (9 : Int)) then
          E (Xlaw4_1000046a ())
        else bif (!((i14 == (0 : Int)) && ((i15 == (0 : Int)) && true))) then
          E (Xlaw4_1000046a ())
        else bif (decide (i13 > i12)) then
          bif (i4 != (0 : Int)) then
            E (Xlaw4_1000046a ())
          else bindO (F 30 (RSh.agg [(CK.int .i64), (CK.int .i64)]) [(PV.list n0 c1), (PV.int .i64 i12), (PV.int .i64 i13)]) fun (y2 : ((Int) × (Int))) =>
          bif (!((i14 == y2.1) && ((i15 == y2.2) && true))) then
            E (Xlaw4_1000046a ())
          else E (Xlaw4_1000046b (n0, c1, i2, i3, i5, i6, i7, i8, n9, c10, i11, i16, i17, i18, i19, i20, i21, i22, i23))
        else E (Xlaw4_1000046b (n0, c1, i2, i3, i5, i6, i7, i8, n9, c10, i11, i16, i17, i18, i19, i20, i21, i22, i23))
      else bif (decide (i13 > i12)) then
        bif (i4 != (0 : Int)) then
          E (Xlaw4_1000046a ())
        else bindO (F 30 (RSh.agg [(CK.int .i64), (CK.int .i64)]) [(PV.list n0 c1), (PV.int .i64 i12), (PV.int .i64 i13)]) fun (y3 : ((Int) × (Int))) =>
        bif (!((i14 == y3.1) && ((i15 == y3.2) && true))) then
          E (Xlaw4_1000046a ())
        else E (Xlaw4_1000046b (n0, c1, i2, i3, i5, i6, i7, i8, n9, c10, i11, i16, i17, i18, i19, i20, i21, i22, i23))
      else E (Xlaw4_1000046b (n0, c1, i2, i3, i5, i6, i7, i8, n9, c10, i11, i16, i17, i18, i19, i20, i21, i22, i23))
    else bif (i4 != (6 : Int)) then
      E (Xlaw4_1000046a ())
    else bif (!((i14 == (0 : Int)) && ((i15 == (0 : Int)) && true))) then
      E (Xlaw4_1000046a ())
    else E (Xlaw4_1000046b (n0, c1, i2, i3, i5, i6, i7, i8, n9, c10, i11, i16, i17, i18, i19, i20, i21, i22, i23))
  else bif (i4 != (6 : Int)) then
    E (Xlaw4_1000046a ())
  else bif (!((i14 == (0 : Int)) && ((i15 == (0 : Int)) && true))) then
    E (Xlaw4_1000046a ())
  else E (Xlaw4_1000046b (n0, c1, i2, i3, i5, i6, i7, i8, n9, c10, i11, i16, i17, i18, i19, i20, i21, i22, i23))
theorem Blaw4_1000046a_eq (F : FnT) (N : QO) (E : EO) (L1000062 : Q → Option Ylaw4_1000062) (L1000046 : Q → Option Ylaw4_1000046) (L1000032 : Q → Option Ylaw4_1000032) (n0 : Nat) (c1 : List PV) (i2 : Int) (i3 : Int) (i4 : Int) (i5 : Int) (i6 : Int) (i7 : Int) (i8 : Int) (n9 : Nat) (c10 : List PV) (i11 : Int) (i12 : Int) (i13 : Int) (i14 : Int) (i15 : Int) (i16 : Int) (i17 : Int) (i18 : Int) (i19 : Int) (i20 : Int) (i21 : Int) (i22 : Int) (i23 : Int) : semN (callP F Elaw4 20) s4 (loopT [⟨1000062, Ylaw4_1000062, L1000062, XLlaw4_1000062⟩, ⟨1000046, Ylaw4_1000046, L1000046, XLlaw4_1000046⟩, ⟨1000032, Ylaw4_1000032, L1000032, XLlaw4_1000032⟩]) 400 (blkIn a4.body 1000046) E (Tlaw4_1000046a n0 c1 i2 i3 i4 i5 i6 i7 i8 n9 c10 i11 i12 i13 i14 i15 i16 i17 i18 i19 i20 i21 i22 i23) = Blaw4_1000046a F N E L1000062 L1000046 L1000032 n0 c1 i2 i3 i4 i5 i6 i7 i8 n9 c10 i11 i12 i13 i14 i15 i16 i17 i18 i19 i20 i21 i22 i23 := by kernel_rfl
theorem Rlaw4_1000046a_of  (n0 : Nat) (c1 : List PV) (i2 : Int) (i3 : Int) (i4 : Int) (i5 : Int) (i6 : Int) (i7 : Int) (i8 : Int) (n9 : Nat) (c10 : List PV) (i11 : Int) (i12 : Int) (i13 : Int) (i14 : Int) (i15 : Int) (i16 : Int) (i17 : Int) (i18 : Int) (i19 : Int) (i20 : Int) (i21 : Int) (i22 : Int) (i23 : Int) {r : Ext × S} (h : Blaw4_1000046a (Fn env) Rlaw4_1000046 exO Llaw4_1000062 Llaw4_1000046 Llaw4_1000032 n0 c1 i2 i3 i4 i5 i6 i7 i8 n9 c10 i11 i12 i13 i14 i15 i16 i17 i18 i19 i20 i21 i22 i23 = some r) : Rlaw4_1000046 (Tlaw4_1000046a n0 c1 i2 i3 i4 i5 i6 i7 i8 n9 c10 i11 i12 i13 i14 i15 i16 i17 i18 i19 i20 i21 i22 i23) = some r :=
  nd_of Elaw4_ok (by kernel_rfl) (lo_cons (lpO_ok Ulaw4) (lo_cons (lpO_ok Ulaw4) (lo_cons (lpO_ok Ulaw4) lo_nil))) (by kernel_rfl) ((Blaw4_1000046a_eq _ Rlaw4_1000046 _ _ _ _ _ _ _ _ _ _ _ _ _ _ _ _ _ _ _ _ _ _ _ _ _ _ _ _).trans h)
def Blaw4_1000032a (F : FnT) (N : QO) (E : EO) (L1000062 : Q → Option Ylaw4_1000062) (L1000046 : Q → Option Ylaw4_1000046) (L1000032 : Q → Option Ylaw4_1000032) (n0 : Nat) (c1 : List PV) (i2 : Int) (i3 : Int) (i4 : Int) (i5 : Int) (i6 : Int) (i7 : Int) (n8 : Nat) (c9 : List PV) (i10 : Int) (i11 : Int) (i12 : Int) (i13 : Int) (i14 : Int) (i15 : Int) (i16 : Int) (i17 : Int) (i18 : Int) : Option (Ext × S) :=
  bindO (F 31 (RSh.one (CK.int .i64)) [(PV.int .i64 i3)]) fun (y0 : (Int)) =>
  bif (y0 != (0 : Int)) then
    bif (i10 != y0) then
      E (Xlaw4_1000032a ())
    else bif ((n8 : Int) != (0 : Int)) then
      E (Xlaw4_1000032a ())
    else bif (y0 == (0 : Int)) then
      bif (i10 != (0 : Int)) then
        E (Xlaw4_1000032a ())
      else bindO (F 33 (RSh.one CK.list) [(PV.list n0 c1), (PV.int .i64 i3)]) fun (y1 : ((Nat) × (List PV))) =>
      bindO (F 32 (RSh.one CK.bool) [(PV.list n8 c9), (PV.list y1.1 y1.2)]) fun (y2 : (Bool)) =>
      bif y2 then
        E (Xlaw4_1000032b (n0, c1, i2, i4, i5, i6, i7, i11, i12, i13, i14, i15, i16, i17, i18))
      else E (Xlaw4_1000032a ())
    else E (Xlaw4_1000032b (n0, c1, i2, i4, i5, i6, i7, i11, i12, i13, i14, i15, i16, i17, i18))
  else bif (y0 == (0 : Int)) then
    bif (i10 != (0 : Int)) then
      E (Xlaw4_1000032a ())
    else bindO (F 33 (RSh.one CK.list) [(PV.list n0 c1), (PV.int .i64 i3)]) fun (y3 : ((Nat) × (List PV))) =>
    bindO (F 32 (RSh.one CK.bool) [(PV.list n8 c9), (PV.list y3.1 y3.2)]) fun (y4 : (Bool)) =>
    bif y4 then
      E (Xlaw4_1000032b (n0, c1, i2, i4, i5, i6, i7, i11, i12, i13, i14, i15, i16, i17, i18))
    else E (Xlaw4_1000032a ())
  else E (Xlaw4_1000032b (n0, c1, i2, i4, i5, i6, i7, i11, i12, i13, i14, i15, i16, i17, i18))
theorem Blaw4_1000032a_eq (F : FnT) (N : QO) (E : EO) (L1000062 : Q → Option Ylaw4_1000062) (L1000046 : Q → Option Ylaw4_1000046) (L1000032 : Q → Option Ylaw4_1000032) (n0 : Nat) (c1 : List PV) (i2 : Int) (i3 : Int) (i4 : Int) (i5 : Int) (i6 : Int) (i7 : Int) (n8 : Nat) (c9 : List PV) (i10 : Int) (i11 : Int) (i12 : Int) (i13 : Int) (i14 : Int) (i15 : Int) (i16 : Int) (i17 : Int) (i18 : Int) : semN (callP F Elaw4 20) s4 (loopT [⟨1000062, Ylaw4_1000062, L1000062, XLlaw4_1000062⟩, ⟨1000046, Ylaw4_1000046, L1000046, XLlaw4_1000046⟩, ⟨1000032, Ylaw4_1000032, L1000032, XLlaw4_1000032⟩]) 400 (blkIn a4.body 1000032) E (Tlaw4_1000032a n0 c1 i2 i3 i4 i5 i6 i7 n8 c9 i10 i11 i12 i13 i14 i15 i16 i17 i18) = Blaw4_1000032a F N E L1000062 L1000046 L1000032 n0 c1 i2 i3 i4 i5 i6 i7 n8 c9 i10 i11 i12 i13 i14 i15 i16 i17 i18 := by kernel_rfl
theorem Rlaw4_1000032a_of  (n0 : Nat) (c1 : List PV) (i2 : Int) (i3 : Int) (i4 : Int) (i5 : Int) (i6 : Int) (i7 : Int) (n8 : Nat) (c9 : List PV) (i10 : Int) (i11 : Int) (i12 : Int) (i13 : Int) (i14 : Int) (i15 : Int) (i16 : Int) (i17 : Int) (i18 : Int) {r : Ext × S} (h : Blaw4_1000032a (Fn env) Rlaw4_1000032 exO Llaw4_1000062 Llaw4_1000046 Llaw4_1000032 n0 c1 i2 i3 i4 i5 i6 i7 n8 c9 i10 i11 i12 i13 i14 i15 i16 i17 i18 = some r) : Rlaw4_1000032 (Tlaw4_1000032a n0 c1 i2 i3 i4 i5 i6 i7 n8 c9 i10 i11 i12 i13 i14 i15 i16 i17 i18) = some r :=
  nd_of Elaw4_ok (by kernel_rfl) (lo_cons (lpO_ok Ulaw4) (lo_cons (lpO_ok Ulaw4) (lo_cons (lpO_ok Ulaw4) lo_nil))) (by kernel_rfl) ((Blaw4_1000032a_eq _ Rlaw4_1000032 _ _ _ _ _ _ _ _ _ _ _ _ _ _ _ _ _ _ _ _ _ _ _).trans h)
def tlaw4 (F : FnT) (L1000062 : Q → Option Ylaw4_1000062) (L1000046 : Q → Option Ylaw4_1000046) (L1000032 : Q → Option Ylaw4_1000032) (p0n : Nat) (p0c : List PV) (p1_0 : Int) (p1_1 : Int) (p2_0 : Int) (p2_1 : Int) : Option (Bool) :=
  bindO (F 13 (RSh.one CK.bool) []) fun (y0 : (Bool)) =>
  bif y0 then
    bindO (F 20 (RSh.one CK.bool) [(PV.list p0n p0c)]) fun (y1 : (Bool)) =>
    bif y1 then
      bindO (F 22 (RSh.one CK.list) [(PV.list p0n p0c)]) fun (y2 : ((Nat) × (List PV))) =>
      bindO (F 21 (RSh.tup [(Prod.mk false [(CK.int .i64)]), (Prod.mk false [(CK.int .i64)])]) [(PV.list y2.1 y2.2)]) fun (y3 : ((Int) × (Int))) =>
      bindO (F 22 (RSh.one CK.list) [(PV.list p0n p0c)]) fun (y4 : ((Nat) × (List PV))) =>
      bindO (F 23 (RSh.tup [(Prod.mk true [(CK.int .i64), (CK.int .i64)]), (Prod.mk false [(CK.int .i64)])]) [(PV.list y4.1 y4.2), (PV.int .i64 p1_0), (PV.int .i64 p1_1)]) fun (y5 : ((Int) × ((Int) × (Int)))) =>
      bindO (F 22 (RSh.one CK.list) [(PV.list p0n p0c)]) fun (y6 : ((Nat) × (List PV))) =>
      bindO (F 24 (RSh.tup [(Prod.mk true [(CK.int .i64), (CK.int .i64), (CK.int .i64), (CK.int .i64)]), (Prod.mk false [(CK.int .i64)])]) [(PV.list y6.1 y6.2), (PV.int .i64 p2_0)]) fun (y7 : ((Int) × ((Int) × ((Int) × ((Int) × (Int)))))) =>
      bindO (F 22 (RSh.one CK.list) [(PV.list p0n p0c)]) fun (y8 : ((Nat) × (List PV))) =>
      bindO (F 25 (RSh.tup [(Prod.mk true [(CK.int .i64), (CK.int .i64), (CK.int .i64), (CK.int .i64)]), (Prod.mk false [(CK.int .i64)])]) [(PV.list y8.1 y8.2), (PV.int .i64 p2_0)]) fun (y9 : ((Int) × ((Int) × ((Int) × ((Int) × (Int)))))) =>
      bindO (F 22 (RSh.one CK.list) [(PV.list p0n p0c)]) fun (y10 : ((Nat) × (List PV))) =>
      bindO (F 26 (RSh.tup [(Prod.mk false [(CK.int .i64)]), (Prod.mk false [(CK.int .i64)])]) [(PV.list y10.1 y10.2), (PV.int .i64 p2_0)]) fun (y11 : ((Int) × (Int))) =>
      bindO (F 22 (RSh.one CK.list) [(PV.list p0n p0c)]) fun (y12 : ((Nat) × (List PV))) =>
      bindO (F 27 (RSh.tup [(Prod.mk false [CK.list]), (Prod.mk false [(CK.int .i64)])]) [(PV.list y12.1 y12.2), (PV.int .i64 p2_1)]) fun (y13 : (((Nat) × (List PV)) × (Int))) =>
      bindO (F 28 (RSh.tup [(Prod.mk false [(CK.int .i64)]), (Prod.mk false [(CK.int .i64)])]) [(PV.list p0n p0c)]) fun (y14 : ((Int) × (Int))) =>
      bindO (L1000062 (Tlaw4_1000062a p0n p0c p2_0 p2_1 y3.1 y3.2 y5.2.2 y7.2.2.2.2 y9.2.2.2.2 y11.1 y11.2 y13.1.1 y13.1.2 y13.2 y14.1 y14.2 p1_0 p1_1 y5.1 y5.2.1 y7.1 y7.2.1 y7.2.2.1 y7.2.2.2.1 y9.1 y9.2.1 y9.2.2.1 y9.2.2.2.1)) fun z =>
      Sum.elim (fun y15 =>
        some false) (fun y16 =>
        bif (y16.2.2.2.2.2.2.2.2.2.2.2.2.1 != (0 : Int)) then
          bif (y16.2.2.2.2.1 == y16.2.2.2.2.2.2.2.2.2.2.2.2.1) then
            bif (y16.2.2.2.2.2.1 == y16.2.2.2.2.2.2.2.2.2.2.2.2.1) then
              bif (y16.2.2.2.2.2.2.1 == y16.2.2.2.2.2.2.2.2.2.2.2.2.1) then
                bif (y16.2.2.2.2.2.2.2.2.1 == y16.2.2.2.2.2.2.2.2.2.2.2.2.1) then
                  bif (y16.2.2.2.2.2.2.2.2.2.2.2.1 == y16.2.2.2.2.2.2.2.2.2.2.2.2.1) then
                    bif ((y16.2.2.2.2.2.2.2.2.2.2.2.2.2.2.2.1 == (0 : Int)) && ((y16.2.2.2.2.2.2.2.2.2.2.2.2.2.2.2.2.1 == (0 : Int)) && true)) then
                      bif ((y16.2.2.2.2.2.2.2.2.2.2.2.2.2.2.2.2.2.1 == (0 : Int)) && ((y16.2.2.2.2.2.2.2.2.2.2.2.2.2.2.2.2.2.2.1 == (0 : Int)) && ((y16.2.2.2.2.2.2.2.2.2.2.2.2.2.2.2.2.2.2.2.1 == (0 : Int)) && ((y16.2.2.2.2.2.2.2.2.2.2.2.2.2.2.2.2.2.2.2.2.1 == (0 : Int)) && true)))) then
                        bif ((y16.2.2.2.2.2.2.2.2.2.2.2.2.2.2.2.2.2.2.2.2.2.1 == (0 : Int)) && ((y16.2.2.2.2.2.2.2.2.2.2.2.2.2.2.2.2.2.2.2.2.2.2.1 == (0 : Int)) && ((y16.2.2.2.2.2.2.2.2.2.2.2.2.2.2.2.2.2.2.2.2.2.2.2.1 == (0 : Int)) && ((y16.2.2.2.2.2.2.2.2.2.2.2.2.2.2.2.2.2.2.2.2.2.2.2.2 == (0 : Int)) && true)))) then
                          bif (y16.2.2.2.2.2.2.2.1 == (0 : Int)) then
                            bif ((y16.2.2.2.2.2.2.2.2.2.1 : Int) == (0 : Int)) then
                              some true
                            else some false
                          else some false
                        else some false
                      else some false
                    else some false
                  else some false
                else some false
              else some false
            else some false
          else some false
        else bindO (L1000046 (Tlaw4_1000046a y16.1 y16.2.1 y16.2.2.1 y16.2.2.2.1 y16.2.2.2.2.1 y16.2.2.2.2.2.1 y16.2.2.2.2.2.2.1 y16.2.2.2.2.2.2.2.1 y16.2.2.2.2.2.2.2.2.1 y16.2.2.2.2.2.2.2.2.2.1 y16.2.2.2.2.2.2.2.2.2.2.1 y16.2.2.2.2.2.2.2.2.2.2.2.1 y16.2.2.2.2.2.2.2.2.2.2.2.2.2.1 y16.2.2.2.2.2.2.2.2.2.2.2.2.2.2.1 y16.2.2.2.2.2.2.2.2.2.2.2.2.2.2.2.1 y16.2.2.2.2.2.2.2.2.2.2.2.2.2.2.2.2.1 y16.2.2.2.2.2.2.2.2.2.2.2.2.2.2.2.2.2.1 y16.2.2.2.2.2.2.2.2.2.2.2.2.2.2.2.2.2.2.1 y16.2.2.2.2.2.2.2.2.2.2.2.2.2.2.2.2.2.2.2.1 y16.2.2.2.2.2.2.2.2.2.2.2.2.2.2.2.2.2.2.2.2.1 y16.2.2.2.2.2.2.2.2.2.2.2.2.2.2.2.2.2.2.2.2.2.1 y16.2.2.2.2.2.2.2.2.2.2.2.2.2.2.2.2.2.2.2.2.2.2.1 y16.2.2.2.2.2.2.2.2.2.2.2.2.2.2.2.2.2.2.2.2.2.2.2.1 y16.2.2.2.2.2.2.2.2.2.2.2.2.2.2.2.2.2.2.2.2.2.2.2.2)) fun z =>
        Sum.elim (fun y17 =>
          some false) (fun y18 =>
          bindO (L1000032 (Tlaw4_1000032a y18.1 y18.2.1 y18.2.2.1 y18.2.2.2.1 y18.2.2.2.2.1 y18.2.2.2.2.2.1 y18.2.2.2.2.2.2.1 y18.2.2.2.2.2.2.2.1 y18.2.2.2.2.2.2.2.2.1 y18.2.2.2.2.2.2.2.2.2.1 y18.2.2.2.2.2.2.2.2.2.2.1 y18.2.2.2.2.2.2.2.2.2.2.2.1 y18.2.2.2.2.2.2.2.2.2.2.2.2.1 y18.2.2.2.2.2.2.2.2.2.2.2.2.2.1 y18.2.2.2.2.2.2.2.2.2.2.2.2.2.2.1 y18.2.2.2.2.2.2.2.2.2.2.2.2.2.2.2.1 y18.2.2.2.2.2.2.2.2.2.2.2.2.2.2.2.2.1 y18.2.2.2.2.2.2.2.2.2.2.2.2.2.2.2.2.2.1 y18.2.2.2.2.2.2.2.2.2.2.2.2.2.2.2.2.2.2)) fun z =>
          Sum.elim (fun y19 =>
            some false) (fun y20 =>
            bindO (F 34 (RSh.one (CK.int .i64)) [(PV.int .i64 y20.2.2.1)]) fun (y21 : (Int)) =>
            bif (y21 != (0 : Int)) then
              bif (y20.2.2.2.1 == y21) then
                bif (y20.2.2.2.2.1 == y21) then
                  bif (y20.2.2.2.2.2.2.1 == y21) then
                    bif ((y20.2.2.2.2.2.2.2.1 == (0 : Int)) && ((y20.2.2.2.2.2.2.2.2.1 == (0 : Int)) && ((y20.2.2.2.2.2.2.2.2.2.1 == (0 : Int)) && ((y20.2.2.2.2.2.2.2.2.2.2.1 == (0 : Int)) && true)))) then
                      bif ((y20.2.2.2.2.2.2.2.2.2.2.2.1 == (0 : Int)) && ((y20.2.2.2.2.2.2.2.2.2.2.2.2.1 == (0 : Int)) && ((y20.2.2.2.2.2.2.2.2.2.2.2.2.2.1 == (0 : Int)) && ((y20.2.2.2.2.2.2.2.2.2.2.2.2.2.2 == (0 : Int)) && true)))) then
                        bif (y20.2.2.2.2.2.1 == (0 : Int)) then
                          some true
                        else some false
                      else some false
                    else some false
                  else some false
                else some false
              else some false
            else bindO (F 35 (RSh.tup [(Prod.mk true [(CK.int .i64), (CK.int .i64), (CK.int .i64), (CK.int .i64)]), (Prod.mk false [CK.bool])]) [(PV.list y20.1 y20.2.1), (PV.int .i64 y20.2.2.1), (PV.bool false)]) fun (y22 : ((Int) × ((Int) × ((Int) × ((Int) × (Bool)))))) =>
            bif y22.2.2.2.2 then
              bindO (F 35 (RSh.tup [(Prod.mk true [(CK.int .i64), (CK.int .i64), (CK.int .i64), (CK.int .i64)]), (Prod.mk false [CK.bool])]) [(PV.list y20.1 y20.2.1), (PV.int .i64 y20.2.2.1), (PV.bool true)]) fun (y23 : ((Int) × ((Int) × ((Int) × ((Int) × (Bool)))))) =>
              bif y23.2.2.2.2 then
                bindO (F 36 (RSh.tup [(Prod.mk false [(CK.int .i64)]), (Prod.mk false [CK.bool])]) [(PV.list y20.1 y20.2.1), (PV.int .i64 y20.2.2.1)]) fun (y24 : ((Int) × (Bool))) =>
                bif y24.2 then
                  bif (y20.2.2.2.1 == (0 : Int)) then
                    bif ((y20.2.2.2.2.2.2.2.1 == y22.1) && ((y20.2.2.2.2.2.2.2.2.1 == y22.2.1) && ((y20.2.2.2.2.2.2.2.2.2.1 == y22.2.2.1) && ((y20.2.2.2.2.2.2.2.2.2.2.1 == y22.2.2.2.1) && true)))) then
                      bif (y20.2.2.2.2.1 == (0 : Int)) then
                        bif ((y20.2.2.2.2.2.2.2.2.2.2.2.1 == y23.1) && ((y20.2.2.2.2.2.2.2.2.2.2.2.2.1 == y23.2.1) && ((y20.2.2.2.2.2.2.2.2.2.2.2.2.2.1 == y23.2.2.1) && ((y20.2.2.2.2.2.2.2.2.2.2.2.2.2.2 == y23.2.2.2.1) && true)))) then
                          bif (y20.2.2.2.2.2.2.1 == (0 : Int)) then
                            bif (y20.2.2.2.2.2.1 == y24.1) then
                              some true
                            else some false
                          else some false
                        else some false
                      else some false
                    else some false
                  else some false
                else bif (y20.2.2.2.1 == (0 : Int)) then
                  bif ((y20.2.2.2.2.2.2.2.1 == y22.1) && ((y20.2.2.2.2.2.2.2.2.1 == y22.2.1) && ((y20.2.2.2.2.2.2.2.2.2.1 == y22.2.2.1) && ((y20.2.2.2.2.2.2.2.2.2.2.1 == y22.2.2.2.1) && true)))) then
                    bif (y20.2.2.2.2.1 == (0 : Int)) then
                      bif ((y20.2.2.2.2.2.2.2.2.2.2.2.1 == y23.1) && ((y20.2.2.2.2.2.2.2.2.2.2.2.2.1 == y23.2.1) && ((y20.2.2.2.2.2.2.2.2.2.2.2.2.2.1 == y23.2.2.1) && ((y20.2.2.2.2.2.2.2.2.2.2.2.2.2.2 == y23.2.2.2.1) && true)))) then
                        bif (y20.2.2.2.2.2.2.1 == (0 : Int)) then
                          bif (y20.2.2.2.2.2.1 == y24.1) then
                            some true
                          else some false
                        else some false
                      else some false
                    else some false
                  else some false
                else some false
              else bindO (F 36 (RSh.tup [(Prod.mk false [(CK.int .i64)]), (Prod.mk false [CK.bool])]) [(PV.list y20.1 y20.2.1), (PV.int .i64 y20.2.2.1)]) fun (y25 : ((Int) × (Bool))) =>
              bif y25.2 then
                bif (y20.2.2.2.1 == (0 : Int)) then
                  bif ((y20.2.2.2.2.2.2.2.1 == y22.1) && ((y20.2.2.2.2.2.2.2.2.1 == y22.2.1) && ((y20.2.2.2.2.2.2.2.2.2.1 == y22.2.2.1) && ((y20.2.2.2.2.2.2.2.2.2.2.1 == y22.2.2.2.1) && true)))) then
                    bif (y20.2.2.2.2.1 == (0 : Int)) then
                      bif ((y20.2.2.2.2.2.2.2.2.2.2.2.1 == y23.1) && ((y20.2.2.2.2.2.2.2.2.2.2.2.2.1 == y23.2.1) && ((y20.2.2.2.2.2.2.2.2.2.2.2.2.2.1 == y23.2.2.1) && ((y20.2.2.2.2.2.2.2.2.2.2.2.2.2.2 == y23.2.2.2.1) && true)))) then
                        bif (y20.2.2.2.2.2.2.1 == (0 : Int)) then
                          bif (y20.2.2.2.2.2.1 == y25.1) then
                            some true
                          else some false
                        else some false
                      else some false
                    else some false
                  else some false
                else some false
              else bif (y20.2.2.2.1 == (0 : Int)) then
                bif ((y20.2.2.2.2.2.2.2.1 == y22.1) && ((y20.2.2.2.2.2.2.2.2.1 == y22.2.1) && ((y20.2.2.2.2.2.2.2.2.2.1 == y22.2.2.1) && ((y20.2.2.2.2.2.2.2.2.2.2.1 == y22.2.2.2.1) && true)))) then
                  bif (y20.2.2.2.2.1 == (0 : Int)) then
                    bif ((y20.2.2.2.2.2.2.2.2.2.2.2.1 == y23.1) && ((y20.2.2.2.2.2.2.2.2.2.2.2.2.1 == y23.2.1) && ((y20.2.2.2.2.2.2.2.2.2.2.2.2.2.1 == y23.2.2.1) && ((y20.2.2.2.2.2.2.2.2.2.2.2.2.2.2 == y23.2.2.2.1) && true)))) then
                      bif (y20.2.2.2.2.2.2.1 == (0 : Int)) then
                        bif (y20.2.2.2.2.2.1 == y25.1) then
                          some true
                        else some false
                      else some false
                    else some false
                  else some false
                else some false
              else some false
            else bindO (F 35 (RSh.tup [(Prod.mk true [(CK.int .i64), (CK.int .i64), (CK.int .i64), (CK.int .i64)]), (Prod.mk false [CK.bool])]) [(PV.list y20.1 y20.2.1), (PV.int .i64 y20.2.2.1), (PV.bool true)]) fun (y26 : ((Int) × ((Int) × ((Int) × ((Int) × (Bool)))))) =>
            bif y26.2.2.2.2 then
              bindO (F 36 (RSh.tup [(Prod.mk false [(CK.int .i64)]), (Prod.mk false [CK.bool])]) [(PV.list y20.1 y20.2.1), (PV.int .i64 y20.2.2.1)]) fun (y27 : ((Int) × (Bool))) =>
              bif y27.2 then
                bif (y20.2.2.2.1 == (12 : Int)) then
                  bif (y20.2.2.2.2.1 == (12 : Int)) then
                    bif (y20.2.2.2.2.2.2.1 == (12 : Int)) then
                      bif ((y20.2.2.2.2.2.2.2.1 == (0 : Int)) && ((y20.2.2.2.2.2.2.2.2.1 == (0 : Int)) && ((y20.2.2.2.2.2.2.2.2.2.1 == (0 : Int)) && ((y20.2.2.2.2.2.2.2.2.2.2.1 == (0 : Int)) && true)))) then
                        bif ((y20.2.2.2.2.2.2.2.2.2.2.2.1 == (0 : Int)) && ((y20.2.2.2.2.2.2.2.2.2.2.2.2.1 == (0 : Int)) && ((y20.2.2.2.2.2.2.2.2.2.2.2.2.2.1 == (0 : Int)) && ((y20.2.2.2.2.2.2.2.2.2.2.2.2.2.2 == (0 : Int)) && true)))) then
                          bif (y20.2.2.2.2.2.1 == (0 : Int)) then
                            some true
                          else some false
                        else some false
                      else some false
                    else some false
                  else some false
                else some false
              else bif (y20.2.2.2.1 == (12 : Int)) then
                bif (y20.2.2.2.2.1 == (12 : Int)) then
                  bif (y20.2.2.2.2.2.2.1 == (12 : Int)) then
                    bif ((y20.2.2.2.2.2.2.2.1 == (0 : Int)) && ((y20.2.2.2.2.2.2.2.2.1 == (0 : Int)) && ((y20.2.2.2.2.2.2.2.2.2.1 == (0 : Int)) && ((y20.2.2.2.2.2.2.2.2.2.2.1 == (0 : Int)) && true)))) then
                      bif ((y20.2.2.2.2.2.2.2.2.2.2.2.1 == (0 : Int)) && ((y20.2.2.2.2.2.2.2.2.2.2.2.2.1 == (0 : Int)) && ((y20.2.2.2.2.2.2.2.2.2.2.2.2.2.1 == (0 : Int)) && ((y20.2.2.2.2.2.2.2.2.2.2.2.2.2.2 == (0 : Int)) && true)))) then
                        bif (y20.2.2.2.2.2.1 == (0 : Int)) then
                          some true
                        else some false
                      else some false
                    else some false
                  else some false
                else some false
              else some false
            else bindO (F 36 (RSh.tup [(Prod.mk false [(CK.int .i64)]), (Prod.mk false [CK.bool])]) [(PV.list y20.1 y20.2.1), (PV.int .i64 y20.2.2.1)]) fun (y28 : ((Int) × (Bool))) =>
            bif y28.2 then
              bif (y20.2.2.2.1 == (12 : Int)) then
                bif (y20.2.2.2.2.1 == (12 : Int)) then
                  bif (y20.2.2.2.2.2.2.1 == (12 : Int)) then
                    bif ((y20.2.2.2.2.2.2.2.1 == (0 : Int)) && ((y20.2.2.2.2.2.2.2.2.1 == (0 : Int)) && ((y20.2.2.2.2.2.2.2.2.2.1 == (0 : Int)) && ((y20.2.2.2.2.2.2.2.2.2.2.1 == (0 : Int)) && true)))) then
                      bif ((y20.2.2.2.2.2.2.2.2.2.2.2.1 == (0 : Int)) && ((y20.2.2.2.2.2.2.2.2.2.2.2.2.1 == (0 : Int)) && ((y20.2.2.2.2.2.2.2.2.2.2.2.2.2.1 == (0 : Int)) && ((y20.2.2.2.2.2.2.2.2.2.2.2.2.2.2 == (0 : Int)) && true)))) then
                        bif (y20.2.2.2.2.2.1 == (0 : Int)) then
                          some true
                        else some false
                      else some false
                    else some false
                  else some false
                else some false
              else some false
            else bif (y20.2.2.2.1 == (12 : Int)) then
              bif (y20.2.2.2.2.1 == (12 : Int)) then
                bif (y20.2.2.2.2.2.2.1 == (12 : Int)) then
                  bif ((y20.2.2.2.2.2.2.2.1 == (0 : Int)) && ((y20.2.2.2.2.2.2.2.2.1 == (0 : Int)) && ((y20.2.2.2.2.2.2.2.2.2.1 == (0 : Int)) && ((y20.2.2.2.2.2.2.2.2.2.2.1 == (0 : Int)) && true)))) then
                    bif ((y20.2.2.2.2.2.2.2.2.2.2.2.1 == (0 : Int)) && ((y20.2.2.2.2.2.2.2.2.2.2.2.2.1 == (0 : Int)) && ((y20.2.2.2.2.2.2.2.2.2.2.2.2.2.1 == (0 : Int)) && ((y20.2.2.2.2.2.2.2.2.2.2.2.2.2.2 == (0 : Int)) && true)))) then
                      bif (y20.2.2.2.2.2.1 == (0 : Int)) then
                        some true
                      else some false
                    else some false
                  else some false
                else some false
              else some false
            else some false) z) z) z
    else some true
  else some false
end Gv
