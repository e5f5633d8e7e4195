/- What the functions do, round by round: BL6. -/
import Derived.Test.YtpbpkbckgifhdaaGvEnv
namespace Gv
open Go
set_option maxRecDepth 100000
def Elaw6 : List Entry := [.out 12 (RSh.one CK.bool), .out 37 (RSh.one CK.bool), .out 38 (RSh.one (CK.int .i64)), .out 40 (RSh.one CK.list), .out 39 (RSh.tup [(Prod.mk false [CK.list]), (Prod.mk false [(CK.int .i64)])]), .out 23 (RSh.one CK.bool), .out 42 (RSh.one CK.list), .out 41 (RSh.tup [(Prod.mk false [CK.list]), (Prod.mk false [(CK.int .i64)])]), .out 43 (RSh.one (CK.int .i64))]
theorem Elaw6_ok : ∀ e ∈ Elaw6, EntOK env e := (ent_out (ent_out (ent_out (ent_out (ent_out (ent_out (ent_out (ent_out (ent_out ent_nil)))))))))
def Tlaw6_0a (n0 : Nat) (c1 : List PV) (i2 : Int) (n3 : Nat) (c4 : List PV) (i5 i6 : Int) : Q := ⟨(tm 225 [(0, (AV.p (PV.list n0 c1))), (1, (AV.p (PV.int .i64 i2))), (5, (AV.p (PV.list n3 c4))), (7, (AV.p (PV.int .i64 (0 : Int)))), (8, (AV.p (PV.int .i64 i5))), (9, (AV.p (PV.int .i64 i6)))]), (mm 225 [])⟩
def Xlaw6_0a (y : Nat × List PV × Int × Nat × List PV × Int) : Ext × Q := (Ext.normal, ⟨(tm 225 [(0, (AV.p (PV.list y.1 y.2.1))), (1, (AV.p (PV.int .i64 y.2.2.1))), (5, (AV.p (PV.list y.2.2.2.1 y.2.2.2.2.1))), (7, (AV.p (PV.int .i64 (0 : Int)))), (8, (AV.p (PV.int .i64 y.2.2.2.2.2)))]), (mm 225 [])⟩)
def Ilaw6_0a (q : Ext × S) : Nat × List PV × Int × Nat × List PV × Int := ((pP_list0 (pA_p (avT q.2 0))), (pP_list1 (pA_p (avT q.2 0))), (pP_int1 (pA_p (avT q.2 1))), (pP_list0 (pA_p (avT q.2 5))), (pP_list1 (pA_p (avT q.2 5))), (pP_int1 (pA_p (avT q.2 8))))
abbrev Ylaw6_0 : Type := Nat × List PV × Int × Nat × List PV × Int
def XLlaw6_0 : XL Ylaw6_0 := .one Xlaw6_0a
def Ilaw6_0 (q : Ext × S) : Ylaw6_0 := (Ilaw6_0a q)
theorem XIlaw6_0a (y : Nat × List PV × Int × Nat × List PV × Int) : Ilaw6_0 (xe (Xlaw6_0a y)) = y := by kernel_rfl
theorem XIlaw6_0 (y : Ylaw6_0) : Ilaw6_0 (xe (XLlaw6_0.fn y)) = y := XIlaw6_0a y
noncomputable abbrev Llaw6_0 : Q → Option Ylaw6_0 := lpO env a6.body 0 XLlaw6_0
noncomputable abbrev Rlaw6_0 : Q → Option (Ext × S) := lpR env a6.body 0
theorem Llaw6_0a_of {s : Q} {y : Nat × List PV × Int × Nat × List PV × Int} (h : Rlaw6_0 s = exO (Xlaw6_0a y)) : Llaw6_0 s = some y := lpO_of Ilaw6_0 XIlaw6_0 (y := y) h
def Tlaw6_2a (n0 : Nat) (c1 : List PV) (i2 : Int) (n3 : Nat) (c4 : List PV) (i5 i6 : Int) : Q := ⟨(tm 225 [(0, (AV.p (PV.list n0 c1))), (1, (AV.p (PV.int .i64 i2))), (5, (AV.p (PV.list n3 c4))), (7, (AV.p (PV.int .i64 (0 : Int)))), (8, (AV.p (PV.int .i64 i5))), (10, AV.nilS), (11, (AV.p (PV.int .i64 i6)))]), (mm 225 [])⟩
def Tlaw6_2b (n0 : Nat) (c1 : List PV) (i2 : Int) (n3 : Nat) (c4 : List PV) (i5 i6 : Int) (n7 : Nat) (c8 : List PV) (i9 : Int) (n10 : Nat) : Q := ⟨(tm 225 [(0, (AV.p (PV.list n0 c1))), (1, (AV.p (PV.int .i64 i2))), (5, (AV.p (PV.list n3 c4))), (7, (AV.p (PV.int .i64 i5))), (8, (AV.p (PV.int .i64 i6))), (10, (AV.app 144 n7 2 c8)), (11, (AV.p (PV.int .i64 i9)))]), (mm 225 [(144, (Bk.buf n10))])⟩
def Xlaw6_2a (y : Int × Int) : Ext × Q := (Ext.normal, ⟨(tm 225 [(7, (AV.p (PV.int .i64 y.1))), (8, (AV.p (PV.int .i64 y.2)))]), (mm 225 [])⟩)
def Ilaw6_2a (q : Ext × S) : Int × Int := ((pP_int1 (pA_p (avT q.2 7))), (pP_int1 (pA_p (avT q.2 8))))
def Xlaw6_2b (_y : Unit) : Ext × Q := (Ext.ret, ⟨(tm 225 [(4, (AV.p (PV.bool false)))]), (mm 225 [])⟩)
def Ilaw6_2b (_q : Ext × S) : Unit := ()
abbrev Ylaw6_2 : Type := (Int × Int) ⊕ ((Unit))
def XLlaw6_2 : XL Ylaw6_2 := .more Xlaw6_2a (.one Xlaw6_2b)
def Ilaw6_2 (q : Ext × S) : Ylaw6_2 := bif (cE q.1 == 0) then (Sum.inl (Ilaw6_2a q)) else (Sum.inr (Ilaw6_2b q))
theorem XIlaw6_2a (y : Int × Int) : Ilaw6_2 (xe (Xlaw6_2a y)) = (Sum.inl y) := by kernel_rfl
theorem XIlaw6_2b (y : Unit) : Ilaw6_2 (xe (Xlaw6_2b y)) = (Sum.inr y) := by kernel_rfl
theorem XIlaw6_2 (y : Ylaw6_2) : Ilaw6_2 (xe (XLlaw6_2.fn y)) = y := (match y with | .inl y => XIlaw6_2a y | .inr y => XIlaw6_2b y)
noncomputable abbrev Llaw6_2 : Q → Option Ylaw6_2 := lpO env a6.body 2 XLlaw6_2
noncomputable abbrev Rlaw6_2 : Q → Option (Ext × S) := lpR env a6.body 2
theorem Llaw6_2a_of {s : Q} {y : Int × Int} (h : Rlaw6_2 s = exO (Xlaw6_2a y)) : Llaw6_2 s = some (Sum.inl y) := lpO_of Ilaw6_2 XIlaw6_2 (y := (Sum.inl y)) h
def Tlaw6_4a (n0 : Nat) (c1 : List PV) (i2 : Int) (n3 : Nat) (c4 : List PV) (i5 i6 : Int) : Q := ⟨(tm 225 [(0, (AV.p (PV.list n0 c1))), (1, (AV.p (PV.int .i64 i2))), (5, (AV.p (PV.list n3 c4))), (7, (AV.p (PV.int .i64 (0 : Int)))), (8, (AV.p (PV.int .i64 i5))), (10, AV.nilS), (11, (AV.p (PV.int .i64 i6))), (12, (AV.p (PV.int .i64 (0 : Int))))]), (mm 225 [])⟩
def Tlaw6_4b (n0 : Nat) (c1 : List PV) (i2 : Int) (n3 : Nat) (c4 : List PV) (i5 i6 : Int) (n7 : Nat) (c8 : List PV) (i9 i10 : Int) (n11 : Nat) : Q := ⟨(tm 225 [(0, (AV.p (PV.list n0 c1))), (1, (AV.p (PV.int .i64 i2))), (5, (AV.p (PV.list n3 c4))), (7, (AV.p (PV.int .i64 i5))), (8, (AV.p (PV.int .i64 i6))), (10, (AV.app 144 n7 2 c8)), (11, (AV.p (PV.int .i64 i9))), (12, (AV.p (PV.int .i64 i10)))]), (mm 225 [(144, (Bk.buf n11))])⟩
def Xlaw6_4a (y : Nat × List PV × Int × Nat × List PV × Int × Int) : Ext × Q := (Ext.normal, ⟨(tm 225 [(0, (AV.p (PV.list y.1 y.2.1))), (1, (AV.p (PV.int .i64 y.2.2.1))), (5, (AV.p (PV.list y.2.2.2.1 y.2.2.2.2.1))), (7, (AV.p (PV.int .i64 (0 : Int)))), (8, (AV.p (PV.int .i64 y.2.2.2.2.2.1))), (10, AV.nilS), (11, (AV.p (PV.int .i64 y.2.2.2.2.2.2)))]), (mm 225 [])⟩)
def Ilaw6_4a (q : Ext × S) : Nat × List PV × Int × Nat × List PV × Int × Int := ((pP_list0 (pA_p (avT q.2 0))), (pP_list1 (pA_p (avT q.2 0))), (pP_int1 (pA_p (avT q.2 1))), (pP_list0 (pA_p (avT q.2 5))), (pP_list1 (pA_p (avT q.2 5))), (pP_int1 (pA_p (avT q.2 8))), (pP_int1 (pA_p (avT q.2 11))))
def Xlaw6_4b (_y : Unit) : Ext × Q := (Ext.ret, ⟨(tm 225 [(4, (AV.p (PV.bool false)))]), (mm 225 [])⟩)
def Ilaw6_4b (_q : Ext × S) : Unit := ()
def Xlaw6_4c (y : Nat × List PV × Int × Nat × List PV × Int × Int × Nat × List PV × Int × Nat) : Ext × Q := (Ext.normal, ⟨(tm 225 [(0, (AV.p (PV.list y.1 y.2.1))), (1, (AV.p (PV.int .i64 y.2.2.1))), (5, (AV.p (PV.list y.2.2.2.1 y.2.2.2.2.1))), (7, (AV.p (PV.int .i64 y.2.2.2.2.2.1))), (8, (AV.p (PV.int .i64 y.2.2.2.2.2.2.1))), (10, (AV.app 144 y.2.2.2.2.2.2.2.1 2 y.2.2.2.2.2.2.2.2.1)), (11, (AV.p (PV.int .i64 y.2.2.2.2.2.2.2.2.2.1)))]), (mm 225 [(144, (Bk.buf y.2.2.2.2.2.2.2.2.2.2))])⟩)
def Ilaw6_4c (q : Ext × S) : Nat × List PV × Int × Nat × List PV × Int × Int × Nat × List PV × Int × Nat := ((pP_list0 (pA_p (avT q.2 0))), (pP_list1 (pA_p (avT q.2 0))), (pP_int1 (pA_p (avT q.2 1))), (pP_list0 (pA_p (avT q.2 5))), (pP_list1 (pA_p (avT q.2 5))), (pP_int1 (pA_p (avT q.2 7))), (pP_int1 (pA_p (avT q.2 8))), (pA_app1 (avT q.2 10)), (pA_app3 (avT q.2 10)), (pP_int1 (pA_p (avT q.2 11))), (pB_buf0 (avM q.2 144)))
abbrev Ylaw6_4 : Type := (Nat × List PV × Int × Nat × List PV × Int × Int) ⊕ ((Unit) ⊕ ((Nat × List PV × Int × Nat × List PV × Int × Int × Nat × List PV × Int × Nat)))
def XLlaw6_4 : XL Ylaw6_4 := .more Xlaw6_4a (.more Xlaw6_4b (.one Xlaw6_4c))
def Ilaw6_4 (q : Ext × S) : Ylaw6_4 := bif (cE q.1 == 0) && (cA (avT q.2 10) == 1) then (Sum.inl (Ilaw6_4a q)) else bif (cE q.1 == 2) then (Sum.inr (Sum.inl (Ilaw6_4b q))) else (Sum.inr (Sum.inr (Ilaw6_4c q)))
theorem XIlaw6_4a (y : Nat × List PV × Int × Nat × List PV × Int × Int) : Ilaw6_4 (xe (Xlaw6_4a y)) = (Sum.inl y) := by kernel_rfl
theorem XIlaw6_4b (y : Unit) : Ilaw6_4 (xe (Xlaw6_4b y)) = (Sum.inr (Sum.inl y)) := by kernel_rfl
theorem XIlaw6_4c (y : Nat × List PV × Int × Nat × List PV × Int × Int × Nat × List PV × Int × Nat) : Ilaw6_4 (xe (Xlaw6_4c y)) = (Sum.inr (Sum.inr y)) := by kernel_rfl
theorem XIlaw6_4 (y : Ylaw6_4) : Ilaw6_4 (xe (XLlaw6_4.fn y)) = y := (match y with | .inl y => XIlaw6_4a y | .inr y => (match y with | .inl y => XIlaw6_4b y | .inr y => XIlaw6_4c y))
noncomputable abbrev Llaw6_4 : Q → Option Ylaw6_4 := lpO env a6.body 4 XLlaw6_4
noncomputable abbrev Rlaw6_4 : Q → Option (Ext × S) := lpR env a6.body 4
theorem Llaw6_4c_of {s : Q} {y : Nat × List PV × Int × Nat × List PV × Int × Int × Nat × List PV × Int × Nat} (h : Rlaw6_4 s = exO (Xlaw6_4c y)) : Llaw6_4 s = some (Sum.inr (Sum.inr y)) := lpO_of Ilaw6_4 XIlaw6_4 (y := (Sum.inr (Sum.inr y))) h
def Tlaw6_6a (n0 : Nat) (c1 : List PV) (i2 : Int) (n3 : Nat) (c4 : List PV) (i5 i6 i7 i8 : Int) : Q := ⟨(tm 225 [(0, (AV.p (PV.list n0 c1))), (1, (AV.p (PV.int .i64 i2))), (5, (AV.p (PV.list n3 c4))), (7, (AV.p (PV.int .i64 (0 : Int)))), (8, (AV.p (PV.int .i64 i5))), (10, AV.nilS), (11, (AV.p (PV.int .i64 i6))), (12, (AV.p (PV.int .i64 (0 : Int)))), (13, (AV.loc 13 0)), (14, (AV.p (PV.int .i64 (0 : Int))))]), (mm 225 [(13, (Bk.pcs true [(PV.int .i64 i7), (PV.int .i64 i8)]))])⟩
def Tlaw6_6b (n0 : Nat) (c1 : List PV) (i2 : Int) (n3 : Nat) (c4 : List PV) (i5 i6 : Int) (n7 : Nat) (c8 : List PV) (i9 i10 i11 i12 i13 : Int) (n14 : Nat) : Q := ⟨(tm 225 [(0, (AV.p (PV.list n0 c1))), (1, (AV.p (PV.int .i64 i2))), (5, (AV.p (PV.list n3 c4))), (7, (AV.p (PV.int .i64 i5))), (8, (AV.p (PV.int .i64 i6))), (10, (AV.app 144 n7 2 c8)), (11, (AV.p (PV.int .i64 i9))), (12, (AV.p (PV.int .i64 i10))), (13, (AV.loc 13 0)), (14, (AV.p (PV.int .i64 i11)))]), (mm 225 [(13, (Bk.pcs true [(PV.int .i64 i12), (PV.int .i64 i13)])), (144, (Bk.buf n14))])⟩
def Xlaw6_6a (y : Nat × List PV × Int × Nat × List PV × Int × Int × Int × Int) : Ext × Q := (Ext.normal, ⟨(tm 225 [(0, (AV.p (PV.list y.1 y.2.1))), (1, (AV.p (PV.int .i64 y.2.2.1))), (5, (AV.p (PV.list y.2.2.2.1 y.2.2.2.2.1))), (7, (AV.p (PV.int .i64 (0 : Int)))), (8, (AV.p (PV.int .i64 y.2.2.2.2.2.1))), (10, AV.nilS), (11, (AV.p (PV.int .i64 y.2.2.2.2.2.2.1))), (12, (AV.p (PV.int .i64 (0 : Int)))), (13, (AV.loc 13 0))]), (mm 225 [(13, (Bk.pcs true [(PV.int .i64 y.2.2.2.2.2.2.2.1), (PV.int .i64 y.2.2.2.2.2.2.2.2)]))])⟩)
def Ilaw6_6a (q : Ext × S) : Nat × List PV × Int × Nat × List PV × Int × Int × Int × Int := ((pP_list0 (pA_p (avT q.2 0))), (pP_list1 (pA_p (avT q.2 0))), (pP_int1 (pA_p (avT q.2 1))), (pP_list0 (pA_p (avT q.2 5))), (pP_list1 (pA_p (avT q.2 5))), (pP_int1 (pA_p (avT q.2 8))), (pP_int1 (pA_p (avT q.2 11))), (pP_int1 (hdP (pB_pcs1 (avM q.2 13)))), (pP_int1 (hdP (List.tail (pB_pcs1 (avM q.2 13))))))
def Xlaw6_6b (_y : Unit) : Ext × Q := (Ext.ret, ⟨(tm 225 [(4, (AV.p (PV.bool false)))]), (mm 225 [])⟩)
def Ilaw6_6b (_q : Ext × S) : Unit := ()
def Xlaw6_6c (y : Nat × List PV × Int × Nat × List PV × Int × Int × Nat × List PV × Int × Int × Int × Int × Nat) : Ext × Q := (Ext.normal, ⟨(tm 225 [(0, (AV.p (PV.list y.1 y.2.1))), (1, (AV.p (PV.int .i64 y.2.2.1))), (5, (AV.p (PV.list y.2.2.2.1 y.2.2.2.2.1))), (7, (AV.p (PV.int .i64 y.2.2.2.2.2.1))), (8, (AV.p (PV.int .i64 y.2.2.2.2.2.2.1))), (10, (AV.app 144 y.2.2.2.2.2.2.2.1 2 y.2.2.2.2.2.2.2.2.1)), (11, (AV.p (PV.int .i64 y.2.2.2.2.2.2.2.2.2.1))), (12, (AV.p (PV.int .i64 y.2.2.2.2.2.2.2.2.2.2.1))), (13, (AV.loc 13 0))]), (mm 225 [(13, (Bk.pcs true [(PV.int .i64 y.2.2.2.2.2.2.2.2.2.2.2.1), (PV.int .i64 y.2.2.2.2.2.2.2.2.2.2.2.2.1)])), (144, (Bk.buf y.2.2.2.2.2.2.2.2.2.2.2.2.2))])⟩)
def Ilaw6_6c (q : Ext × S) : Nat × List PV × Int × Nat × List PV × Int × Int × Nat × List PV × Int × Int × Int × Int × Nat := ((pP_list0 (pA_p (avT q.2 0))), (pP_list1 (pA_p (avT q.2 0))), (pP_int1 (pA_p (avT q.2 1))), (pP_list0 (pA_p (avT q.2 5))), (pP_list1 (pA_p (avT q.2 5))), (pP_int1 (pA_p (avT q.2 7))), (pP_int1 (pA_p (avT q.2 8))), (pA_app1 (avT q.2 10)), (pA_app3 (avT q.2 10)), (pP_int1 (pA_p (avT q.2 11))), (pP_int1 (pA_p (avT q.2 12))), (pP_int1 (hdP (pB_pcs1 (avM q.2 13)))), (pP_int1 (hdP (List.tail (pB_pcs1 (avM q.2 13))))), (pB_buf0 (avM q.2 144)))
abbrev Ylaw6_6 : Type := (Nat × List PV × Int × Nat × List PV × Int × Int × Int × Int) ⊕ ((Unit) ⊕ ((Nat × List PV × Int × Nat × List PV × Int × Int × Nat × List PV × Int × Int × Int × Int × Nat)))
def XLlaw6_6 : XL Ylaw6_6 := .more Xlaw6_6a (.more Xlaw6_6b (.one Xlaw6_6c))
def Ilaw6_6 (q : Ext × S) : Ylaw6_6 := bif (cE q.1 == 0) && (cA (avT q.2 10) == 1) then (Sum.inl (Ilaw6_6a q)) else bif (cE q.1 == 2) then (Sum.inr (Sum.inl (Ilaw6_6b q))) else (Sum.inr (Sum.inr (Ilaw6_6c q)))
theorem XIlaw6_6a (y : Nat × List PV × Int × Nat × List PV × Int × Int × Int × Int) : Ilaw6_6 (xe (Xlaw6_6a y)) = (Sum.inl y) := by kernel_rfl
theorem XIlaw6_6b (y : Unit) : Ilaw6_6 (xe (Xlaw6_6b y)) = (Sum.inr (Sum.inl y)) := by kernel_rfl
theorem XIlaw6_6c (y : Nat × List PV × Int × Nat × List PV × Int × Int × Nat × List PV × Int × Int × Int × Int × Nat) : Ilaw6_6 (xe (Xlaw6_6c y)) = (Sum.inr (Sum.inr y)) := by kernel_rfl
theorem XIlaw6_6 (y : Ylaw6_6) : Ilaw6_6 (xe (XLlaw6_6.fn y)) = y := (match y with | .inl y => XIlaw6_6a y | .inr y => (match y with | .inl y => XIlaw6_6b y | .inr y => XIlaw6_6c y))
noncomputable abbrev Llaw6_6 : Q → Option Ylaw6_6 := lpO env a6.body 6 XLlaw6_6
noncomputable abbrev Rlaw6_6 : Q → Option (Ext × S) := lpR env a6.body 6
theorem Llaw6_6a_of {s : Q} {y : Nat × List PV × Int × Nat × List PV × Int × Int × Int × Int} (h : Rlaw6_6 s = exO (Xlaw6_6a y)) : Llaw6_6 s = some (Sum.inl y) := lpO_of Ilaw6_6 XIlaw6_6 (y := (Sum.inl y)) h
theorem Llaw6_6c_of {s : Q} {y : Nat × List PV × Int × Nat × List PV × Int × Int × Nat × List PV × Int × Int × Int × Int × Nat} (h : Rlaw6_6 s = exO (Xlaw6_6c y)) : Llaw6_6 s = some (Sum.inr (Sum.inr y)) := lpO_of Ilaw6_6 XIlaw6_6 (y := (Sum.inr (Sum.inr y))) h
def Tlaw6_1000109a (n0 : Nat) (c1 : List PV) (i2 : Int) : Q := ⟨(tm 225 [(0, (AV.p (PV.list n0 c1))), (1, (AV.p (PV.int .i64 i2)))]), (mm 225 [])⟩
def Xlaw6_1000109a (_y : Unit) : Ext × Q := (Ext.ret, ⟨(tm 225 [(4, (AV.p (PV.bool true)))]), (mm 225 [])⟩)
def Ilaw6_1000109a (_q : Ext × S) : Unit := ()
def Xlaw6_1000109b (y : Nat × List PV × Int) : Ext × Q := (Ext.normal, ⟨(tm 225 [(0, (AV.p (PV.list y.1 y.2.1))), (1, (AV.p (PV.int .i64 y.2.2)))]), (mm 225 [])⟩)
def Ilaw6_1000109b (q : Ext × S) : Nat × List PV × Int := ((pP_list0 (pA_p (avT q.2 0))), (pP_list1 (pA_p (avT q.2 0))), (pP_int1 (pA_p (avT q.2 1))))
abbrev Ylaw6_1000109 : Type := (Unit) ⊕ ((Nat × List PV × Int))
def XLlaw6_1000109 : XL Ylaw6_1000109 := .more Xlaw6_1000109a (.one Xlaw6_1000109b)
def Ilaw6_1000109 (q : Ext × S) : Ylaw6_1000109 := bif (cE q.1 == 2) then (Sum.inl (Ilaw6_1000109a q)) else (Sum.inr (Ilaw6_1000109b q))
theorem XIlaw6_1000109a (y : Unit) : Ilaw6_1000109 (xe (Xlaw6_1000109a y)) = (Sum.inl y) := by kernel_rfl
theorem XIlaw6_1000109b (y : Nat × List PV × Int) : Ilaw6_1000109 (xe (Xlaw6_1000109b y)) = (Sum.inr y) := by kernel_rfl
theorem XIlaw6_1000109 (y : Ylaw6_1000109) : Ilaw6_1000109 (xe (XLlaw6_1000109.fn y)) = y := (match y with | .inl y => XIlaw6_1000109a y | .inr y => XIlaw6_1000109b y)
noncomputable abbrev Llaw6_1000109 : Q → Option Ylaw6_1000109 := lpO env a6.body 1000109 XLlaw6_1000109
noncomputable abbrev Rlaw6_1000109 : Q → Option (Ext × S) := lpR env a6.body 1000109
theorem Llaw6_1000109a_of {s : Q} {y : Unit} (h : Rlaw6_1000109 s = exO (Xlaw6_1000109a y)) : Llaw6_1000109 s = some (Sum.inl y) := lpO_of Ilaw6_1000109 XIlaw6_1000109 (y := (Sum.inl y)) h
theorem Llaw6_1000109b_of {s : Q} {y : Nat × List PV × Int} (h : Rlaw6_1000109 s = exO (Xlaw6_1000109b y)) : Llaw6_1000109 s = some (Sum.inr y) := lpO_of Ilaw6_1000109 XIlaw6_1000109 (y := (Sum.inr y)) h
def Tlaw6_z66a (n0 : Nat) (c1 : List PV) (i2 : Int) (n3 : Nat) (c4 : List PV) (i5 i6 : Int) : Q := ⟨(tm 225 [(0, (AV.p (PV.list n0 c1))), (1, (AV.p (PV.int .i64 i2))), (5, (AV.p (PV.list n3 c4))), (7, (AV.p (PV.int .i64 (0 : Int)))), (8, (AV.p (PV.int .i64 i5))), (10, AV.nilS), (11, (AV.p (PV.int .i64 i6)))]), (mm 225 [])⟩
def Tlaw6_z66b (n0 : Nat) (c1 : List PV) (i2 : Int) (n3 : Nat) (c4 : List PV) (i5 i6 : Int) (n7 : Nat) (c8 : List PV) (i9 : Int) (n10 : Nat) : Q := ⟨(tm 225 [(0, (AV.p (PV.list n0 c1))), (1, (AV.p (PV.int .i64 i2))), (5, (AV.p (PV.list n3 c4))), (7, (AV.p (PV.int .i64 i5))), (8, (AV.p (PV.int .i64 i6))), (10, (AV.app 144 n7 2 c8)), (11, (AV.p (PV.int .i64 i9)))]), (mm 225 [(144, (Bk.buf n10))])⟩
def Xlaw6_z66a (_y : Unit) : Ext × Q := (Ext.ret, ⟨(tm 225 [(4, (AV.p (PV.bool false)))]), (mm 225 [])⟩)
def Ilaw6_z66a (_q : Ext × S) : Unit := ()
def Xlaw6_z66b (y : Nat × List PV × Int × Nat × List PV × Int × Int) : Ext × Q := (Ext.normal, ⟨(tm 225 [(0, (AV.p (PV.list y.1 y.2.1))), (1, (AV.p (PV.int .i64 y.2.2.1))), (5, (AV.p (PV.list y.2.2.2.1 y.2.2.2.2.1))), (7, (AV.p (PV.int .i64 (0 : Int)))), (8, (AV.p (PV.int .i64 y.2.2.2.2.2.1))), (10, AV.nilS), (11, (AV.p (PV.int .i64 y.2.2.2.2.2.2)))]), (mm 225 [])⟩)
def Ilaw6_z66b (q : Ext × S) : Nat × List PV × Int × Nat × List PV × Int × Int := ((pP_list0 (pA_p (avT q.2 0))), (pP_list1 (pA_p (avT q.2 0))), (pP_int1 (pA_p (avT q.2 1))), (pP_list0 (pA_p (avT q.2 5))), (pP_list1 (pA_p (avT q.2 5))), (pP_int1 (pA_p (avT q.2 8))), (pP_int1 (pA_p (avT q.2 11))))
def Xlaw6_z66c (y : Nat × List PV × Int × Nat × List PV × Int × Int × Nat × List PV × Int × Nat) : Ext × Q := (Ext.normal, ⟨(tm 225 [(0, (AV.p (PV.list y.1 y.2.1))), (1, (AV.p (PV.int .i64 y.2.2.1))), (5, (AV.p (PV.list y.2.2.2.1 y.2.2.2.2.1))), (7, (AV.p (PV.int .i64 y.2.2.2.2.2.1))), (8, (AV.p (PV.int .i64 y.2.2.2.2.2.2.1))), (10, (AV.app 144 y.2.2.2.2.2.2.2.1 2 y.2.2.2.2.2.2.2.2.1)), (11, (AV.p (PV.int .i64 y.2.2.2.2.2.2.2.2.2.1)))]), (mm 225 [(144, (Bk.buf y.2.2.2.2.2.2.2.2.2.2))])⟩)
def Ilaw6_z66c (q : Ext × S) : Nat × List PV × Int × Nat × List PV × Int × Int × Nat × List PV × Int × Nat := ((pP_list0 (pA_p (avT q.2 0))), (pP_list1 (pA_p (avT q.2 0))), (pP_int1 (pA_p (avT q.2 1))), (pP_list0 (pA_p (avT q.2 5))), (pP_list1 (pA_p (avT q.2 5))), (pP_int1 (pA_p (avT q.2 7))), (pP_int1 (pA_p (avT q.2 8))), (pA_app1 (avT q.2 10)), (pA_app3 (avT q.2 10)), (pP_int1 (pA_p (avT q.2 11))), (pB_buf0 (avM q.2 144)))
abbrev Ylaw6_z66 : Type := (Unit) ⊕ ((Nat × List PV × Int × Nat × List PV × Int × Int) ⊕ ((Nat × List PV × Int × Nat × List PV × Int × Int × Nat × List PV × Int × Nat)))
def XLlaw6_z66 : XL Ylaw6_z66 := .more Xlaw6_z66a (.more Xlaw6_z66b (.one Xlaw6_z66c))
def Ilaw6_z66 (q : Ext × S) : Ylaw6_z66 := bif (cE q.1 == 2) then (Sum.inl (Ilaw6_z66a q)) else bif (cA (avT q.2 10) == 1) then (Sum.inr (Sum.inl (Ilaw6_z66b q))) else (Sum.inr (Sum.inr (Ilaw6_z66c q)))
theorem XIlaw6_z66a (y : Unit) : Ilaw6_z66 (xe (Xlaw6_z66a y)) = (Sum.inl y) := by kernel_rfl
theorem XIlaw6_z66b (y : Nat × List PV × Int × Nat × List PV × Int × Int) : Ilaw6_z66 (xe (Xlaw6_z66b y)) = (Sum.inr (Sum.inl y)) := by kernel_rfl
theorem XIlaw6_z66c (y : Nat × List PV × Int × Nat × List PV × Int × Int × Nat × List PV × Int × Nat) : Ilaw6_z66 (xe (Xlaw6_z66c y)) = (Sum.inr (Sum.inr y)) := by kernel_rfl
theorem XIlaw6_z66 (y : Ylaw6_z66) : Ilaw6_z66 (xe (XLlaw6_z66.fn y)) = y := (match y with | .inl y => XIlaw6_z66a y | .inr y => (match y with | .inl y => XIlaw6_z66b y | .inr y => XIlaw6_z66c y))
noncomputable abbrev Llaw6_z66 : Q → Option Ylaw6_z66 := lpO env a6.body 1000066 XLlaw6_z66
noncomputable abbrev Rlaw6_z66 : Q → Option (Ext × S) := lpR env a6.body 1000066
theorem Llaw6_z66c_of {s : Q} {y : Nat × List PV × Int × Nat × List PV × Int × Int × Nat × List PV × Int × Nat} (h : Rlaw6_z66 s = exO (Xlaw6_z66c y)) : Llaw6_z66 s = some (Sum.inr (Sum.inr y)) := lpO_of Ilaw6_z66 XIlaw6_z66 (y := (Sum.inr (Sum.inr y))) h
def Tlaw6_z63a (n0 : Nat) (c1 : List PV) (i2 : Int) (n3 : Nat) (c4 : List PV) (i5 i6 : Int) : Q := ⟨(tm 225 [(0, (AV.p (PV.list n0 c1))), (1, (AV.p (PV.int .i64 i2))), (5, (AV.p (PV.list n3 c4))), (7, (AV.p (PV.int .i64 (0 : Int)))), (8, (AV.p (PV.int .i64 i5))), (10, AV.nilS), (11, (AV.p (PV.int .i64 i6)))]), (mm 225 [])⟩
def Tlaw6_z63b (n0 : Nat) (c1 : List PV) (i2 : Int) (n3 : Nat) (c4 : List PV) (i5 i6 : Int) (n7 : Nat) (c8 : List PV) (i9 : Int) (n10 : Nat) : Q := ⟨(tm 225 [(0, (AV.p (PV.list n0 c1))), (1, (AV.p (PV.int .i64 i2))), (5, (AV.p (PV.list n3 c4))), (7, (AV.p (PV.int .i64 i5))), (8, (AV.p (PV.int .i64 i6))), (10, (AV.app 144 n7 2 c8)), (11, (AV.p (PV.int .i64 i9)))]), (mm 225 [(144, (Bk.buf n10))])⟩
def Xlaw6_z63a (_y : Unit) : Ext × Q := (Ext.ret, ⟨(tm 225 [(4, (AV.p (PV.bool false)))]), (mm 225 [])⟩)
def Ilaw6_z63a (_q : Ext × S) : Unit := ()
def Xlaw6_z63b (y : Nat × List PV × Int × Nat × List PV × Int × Int) : Ext × Q := (Ext.normal, ⟨(tm 225 [(0, (AV.p (PV.list y.1 y.2.1))), (1, (AV.p (PV.int .i64 y.2.2.1))), (5, (AV.p (PV.list y.2.2.2.1 y.2.2.2.2.1))), (7, (AV.p (PV.int .i64 (0 : Int)))), (8, (AV.p (PV.int .i64 y.2.2.2.2.2.1))), (10, AV.nilS), (11, (AV.p (PV.int .i64 y.2.2.2.2.2.2)))]), (mm 225 [])⟩)
def Ilaw6_z63b (q : Ext × S) : Nat × List PV × Int × Nat × List PV × Int × Int := ((pP_list0 (pA_p (avT q.2 0))), (pP_list1 (pA_p (avT q.2 0))), (pP_int1 (pA_p (avT q.2 1))), (pP_list0 (pA_p (avT q.2 5))), (pP_list1 (pA_p (avT q.2 5))), (pP_int1 (pA_p (avT q.2 8))), (pP_int1 (pA_p (avT q.2 11))))
def Xlaw6_z63c (y : Nat × List PV × Int × Nat × List PV × Int × Int × Nat × List PV × Int × Nat) : Ext × Q := (Ext.normal, ⟨(tm 225 [(0, (AV.p (PV.list y.1 y.2.1))), (1, (AV.p (PV.int .i64 y.2.2.1))), (5, (AV.p (PV.list y.2.2.2.1 y.2.2.2.2.1))), (7, (AV.p (PV.int .i64 y.2.2.2.2.2.1))), (8, (AV.p (PV.int .i64 y.2.2.2.2.2.2.1))), (10, (AV.app 144 y.2.2.2.2.2.2.2.1 2 y.2.2.2.2.2.2.2.2.1)), (11, (AV.p (PV.int .i64 y.2.2.2.2.2.2.2.2.2.1)))]), (mm 225 [(144, (Bk.buf y.2.2.2.2.2.2.2.2.2.2))])⟩)
def Ilaw6_z63c (q : Ext × S) : Nat × List PV × Int × Nat × List PV × Int × Int × Nat × List PV × Int × Nat := ((pP_list0 (pA_p (avT q.2 0))), (pP_list1 (pA_p (avT q.2 0))), (pP_int1 (pA_p (avT q.2 1))), (pP_list0 (pA_p (avT q.2 5))), (pP_list1 (pA_p (avT q.2 5))), (pP_int1 (pA_p (avT q.2 7))), (pP_int1 (pA_p (avT q.2 8))), (pA_app1 (avT q.2 10)), (pA_app3 (avT q.2 10)), (pP_int1 (pA_p (avT q.2 11))), (pB_buf0 (avM q.2 144)))
abbrev Ylaw6_z63 : Type := (Unit) ⊕ ((Nat × List PV × Int × Nat × List PV × Int × Int) ⊕ ((Nat × List PV × Int × Nat × List PV × Int × Int × Nat × List PV × Int × Nat)))
def XLlaw6_z63 : XL Ylaw6_z63 := .more Xlaw6_z63a (.more Xlaw6_z63b (.one Xlaw6_z63c))
def Ilaw6_z63 (q : Ext × S) : Ylaw6_z63 := bif (cE q.1 == 2) then (Sum.inl (Ilaw6_z63a q)) else bif (cA (avT q.2 10) == 1) then (Sum.inr (Sum.inl (Ilaw6_z63b q))) else (Sum.inr (Sum.inr (Ilaw6_z63c q)))
theorem XIlaw6_z63a (y : Unit) : Ilaw6_z63 (xe (Xlaw6_z63a y)) = (Sum.inl y) := by kernel_rfl
theorem XIlaw6_z63b (y : Nat × List PV × Int × Nat × List PV × Int × Int) : Ilaw6_z63 (xe (Xlaw6_z63b y)) = (Sum.inr (Sum.inl y)) := by kernel_rfl
theorem XIlaw6_z63c (y : Nat × List PV × Int × Nat × List PV × Int × Int × Nat × List PV × Int × Nat) : Ilaw6_z63 (xe (Xlaw6_z63c y)) = (Sum.inr (Sum.inr y)) := by kernel_rfl
theorem XIlaw6_z63 (y : Ylaw6_z63) : Ilaw6_z63 (xe (XLlaw6_z63.fn y)) = y := (match y with | .inl y => XIlaw6_z63a y | .inr y => (match y with | .inl y => XIlaw6_z63b y | .inr y => XIlaw6_z63c y))
noncomputable abbrev Llaw6_z63 : Q → Option Ylaw6_z63 := lpO env a6.body 1000063 XLlaw6_z63
noncomputable abbrev Rlaw6_z63 : Q → Option (Ext × S) := lpR env a6.body 1000063
theorem Llaw6_z63b_of {s : Q} {y : Nat × List PV × Int × Nat × List PV × Int × Int} (h : Rlaw6_z63 s = exO (Xlaw6_z63b y)) : Llaw6_z63 s = some (Sum.inr (Sum.inl y)) := lpO_of Ilaw6_z63 XIlaw6_z63 (y := (Sum.inr (Sum.inl y))) h
theorem Llaw6_z63c_of {s : Q} {y : Nat × List PV × Int × Nat × List PV × Int × Int × Nat × List PV × Int × Nat} (h : Rlaw6_z63 s = exO (Xlaw6_z63c y)) : Llaw6_z63 s = some (Sum.inr (Sum.inr y)) := lpO_of Ilaw6_z63 XIlaw6_z63 (y := (Sum.inr (Sum.inr y))) h
def Tlaw6_z48a (n0 : Nat) (c1 : List PV) (i2 : Int) (n3 : Nat) (c4 : List PV) (i5 i6 : Int) : Q := ⟨(tm 225 [(0, (AV.p (PV.list n0 c1))), (1, (AV.p (PV.int .i64 i2))), (5, (AV.p (PV.list n3 c4))), (7, (AV.p (PV.int .i64 (0 : Int)))), (8, (AV.p (PV.int .i64 i5))), (10, AV.nilS), (11, (AV.p (PV.int .i64 i6))), (12, (AV.p (PV.int .i64 (0 : Int))))]), (mm 225 [])⟩
def Tlaw6_z48b (n0 : Nat) (c1 : List PV) (i2 : Int) (n3 : Nat) (c4 : List PV) (i5 i6 : Int) (n7 : Nat) (c8 : List PV) (i9 i10 : Int) (n11 : Nat) : Q := ⟨(tm 225 [(0, (AV.p (PV.list n0 c1))), (1, (AV.p (PV.int .i64 i2))), (5, (AV.p (PV.list n3 c4))), (7, (AV.p (PV.int .i64 i5))), (8, (AV.p (PV.int .i64 i6))), (10, (AV.app 144 n7 2 c8)), (11, (AV.p (PV.int .i64 i9))), (12, (AV.p (PV.int .i64 i10)))]), (mm 225 [(144, (Bk.buf n11))])⟩
def Xlaw6_z48a (_y : Unit) : Ext × Q := (Ext.ret, ⟨(tm 225 [(4, (AV.p (PV.bool false)))]), (mm 225 [])⟩)
def Ilaw6_z48a (_q : Ext × S) : Unit := ()
def Xlaw6_z48b (y : Nat × List PV × Int × Nat × List PV × Int × Int × Nat × List PV × Int × Int × Nat) : Ext × Q := (Ext.normal, ⟨(tm 225 [(0, (AV.p (PV.list y.1 y.2.1))), (1, (AV.p (PV.int .i64 y.2.2.1))), (5, (AV.p (PV.list y.2.2.2.1 y.2.2.2.2.1))), (7, (AV.p (PV.int .i64 y.2.2.2.2.2.1))), (8, (AV.p (PV.int .i64 y.2.2.2.2.2.2.1))), (10, (AV.app 144 y.2.2.2.2.2.2.2.1 2 y.2.2.2.2.2.2.2.2.1)), (11, (AV.p (PV.int .i64 y.2.2.2.2.2.2.2.2.2.1))), (12, (AV.p (PV.int .i64 y.2.2.2.2.2.2.2.2.2.2.1)))]), (mm 225 [(144, (Bk.buf y.2.2.2.2.2.2.2.2.2.2.2))])⟩)
def Ilaw6_z48b (q : Ext × S) : Nat × List PV × Int × Nat × List PV × Int × Int × Nat × List PV × Int × Int × Nat := ((pP_list0 (pA_p (avT q.2 0))), (pP_list1 (pA_p (avT q.2 0))), (pP_int1 (pA_p (avT q.2 1))), (pP_list0 (pA_p (avT q.2 5))), (pP_list1 (pA_p (avT q.2 5))), (pP_int1 (pA_p (avT q.2 7))), (pP_int1 (pA_p (avT q.2 8))), (pA_app1 (avT q.2 10)), (pA_app3 (avT q.2 10)), (pP_int1 (pA_p (avT q.2 11))), (pP_int1 (pA_p (avT q.2 12))), (pB_buf0 (avM q.2 144)))
abbrev Ylaw6_z48 : Type := (Unit) ⊕ ((Nat × List PV × Int × Nat × List PV × Int × Int × Nat × List PV × Int × Int × Nat))
def XLlaw6_z48 : XL Ylaw6_z48 := .more Xlaw6_z48a (.one Xlaw6_z48b)
def Ilaw6_z48 (q : Ext × S) : Ylaw6_z48 := bif (cE q.1 == 2) then (Sum.inl (Ilaw6_z48a q)) else (Sum.inr (Ilaw6_z48b q))
theorem XIlaw6_z48a (y : Unit) : Ilaw6_z48 (xe (Xlaw6_z48a y)) = (Sum.inl y) := by kernel_rfl
theorem XIlaw6_z48b (y : Nat × List PV × Int × Nat × List PV × Int × Int × Nat × List PV × Int × Int × Nat) : Ilaw6_z48 (xe (Xlaw6_z48b y)) = (Sum.inr y) := by kernel_rfl
theorem XIlaw6_z48 (y : Ylaw6_z48) : Ilaw6_z48 (xe (XLlaw6_z48.fn y)) = y := (match y with | .inl y => XIlaw6_z48a y | .inr y => XIlaw6_z48b y)
noncomputable abbrev Llaw6_z48 : Q → Option Ylaw6_z48 := lpO env a6.body 1000048 XLlaw6_z48
noncomputable abbrev Rlaw6_z48 : Q → Option (Ext × S) := lpR env a6.body 1000048
theorem Llaw6_z48b_of {s : Q} {y : Nat × List PV × Int × Nat × List PV × Int × Int × Nat × List PV × Int × Int × Nat} (h : Rlaw6_z48 s = exO (Xlaw6_z48b y)) : Llaw6_z48 s = some (Sum.inr y) := lpO_of Ilaw6_z48 XIlaw6_z48 (y := (Sum.inr y)) h
def Tlaw6_z43a (n0 : Nat) (c1 : List PV) (i2 : Int) (n3 : Nat) (c4 : List PV) (i5 i6 i7 i8 : Int) : Q := ⟨(tm 225 [(0, (AV.p (PV.list n0 c1))), (1, (AV.p (PV.int .i64 i2))), (5, (AV.p (PV.list n3 c4))), (7, (AV.p (PV.int .i64 (0 : Int)))), (8, (AV.p (PV.int .i64 i5))), (10, AV.nilS), (11, (AV.p (PV.int .i64 i6))), (12, (AV.p (PV.int .i64 (0 : Int)))), (13, (AV.loc 13 0))]), (mm 225 [(13, (Bk.pcs true [(PV.int .i64 i7), (PV.int .i64 i8)]))])⟩
def Tlaw6_z43b (n0 : Nat) (c1 : List PV) (i2 : Int) (n3 : Nat) (c4 : List PV) (i5 i6 : Int) (n7 : Nat) (c8 : List PV) (i9 i10 i11 i12 : Int) (n13 : Nat) : Q := ⟨(tm 225 [(0, (AV.p (PV.list n0 c1))), (1, (AV.p (PV.int .i64 i2))), (5, (AV.p (PV.list n3 c4))), (7, (AV.p (PV.int .i64 i5))), (8, (AV.p (PV.int .i64 i6))), (10, (AV.app 144 n7 2 c8)), (11, (AV.p (PV.int .i64 i9))), (12, (AV.p (PV.int .i64 i10))), (13, (AV.loc 13 0))]), (mm 225 [(13, (Bk.pcs true [(PV.int .i64 i11), (PV.int .i64 i12)])), (144, (Bk.buf n13))])⟩
def Xlaw6_z43a (y : Nat × List PV × Int × Nat × List PV × Int × Int × Int × Int) : Ext × Q := (Ext.normal, ⟨(tm 225 [(0, (AV.p (PV.list y.1 y.2.1))), (1, (AV.p (PV.int .i64 y.2.2.1))), (5, (AV.p (PV.list y.2.2.2.1 y.2.2.2.2.1))), (7, (AV.p (PV.int .i64 (0 : Int)))), (8, (AV.p (PV.int .i64 y.2.2.2.2.2.1))), (10, AV.nilS), (11, (AV.p (PV.int .i64 y.2.2.2.2.2.2.1))), (12, (AV.p (PV.int .i64 (0 : Int)))), (13, (AV.loc 13 0))]), (mm 225 [(13, (Bk.pcs true [(PV.int .i64 y.2.2.2.2.2.2.2.1), (PV.int .i64 y.2.2.2.2.2.2.2.2)]))])⟩)
def Ilaw6_z43a (q : Ext × S) : Nat × List PV × Int × Nat × List PV × Int × Int × Int × Int := ((pP_list0 (pA_p (avT q.2 0))), (pP_list1 (pA_p (avT q.2 0))), (pP_int1 (pA_p (avT q.2 1))), (pP_list0 (pA_p (avT q.2 5))), (pP_list1 (pA_p (avT q.2 5))), (pP_int1 (pA_p (avT q.2 8))), (pP_int1 (pA_p (avT q.2 11))), (pP_int1 (hdP (pB_pcs1 (avM q.2 13)))), (pP_int1 (hdP (List.tail (pB_pcs1 (avM q.2 13))))))
def Xlaw6_z43b (_y : Unit) : Ext × Q := (Ext.ret, ⟨(tm 225 [(4, (AV.p (PV.bool false)))]), (mm 225 [])⟩)
def Ilaw6_z43b (_q : Ext × S) : Unit := ()
def Xlaw6_z43c (y : Nat × List PV × Int × Nat × List PV × Int × Int × Nat × List PV × Int × Int × Int × Int × Nat) : Ext × Q := (Ext.normal, ⟨(tm 225 [(0, (AV.p (PV.list y.1 y.2.1))), (1, (AV.p (PV.int .i64 y.2.2.1))), (5, (AV.p (PV.list y.2.2.2.1 y.2.2.2.2.1))), (7, (AV.p (PV.int .i64 y.2.2.2.2.2.1))), (8, (AV.p (PV.int .i64 y.2.2.2.2.2.2.1))), (10, (AV.app 144 y.2.2.2.2.2.2.2.1 2 y.2.2.2.2.2.2.2.2.1)), (11, (AV.p (PV.int .i64 y.2.2.2.2.2.2.2.2.2.1))), (12, (AV.p (PV.int .i64 y.2.2.2.2.2.2.2.2.2.2.1))), (13, (AV.loc 13 0))]), (mm 225 [(13, (Bk.pcs true [(PV.int .i64 y.2.2.2.2.2.2.2.2.2.2.2.1), (PV.int .i64 y.2.2.2.2.2.2.2.2.2.2.2.2.1)])), (144, (Bk.buf y.2.2.2.2.2.2.2.2.2.2.2.2.2))])⟩)
def Ilaw6_z43c (q : Ext × S) : Nat × List PV × Int × Nat × List PV × Int × Int × Nat × List PV × Int × Int × Int × Int × Nat := ((pP_list0 (pA_p (avT q.2 0))), (pP_list1 (pA_p (avT q.2 0))), (pP_int1 (pA_p (avT q.2 1))), (pP_list0 (pA_p (avT q.2 5))), (pP_list1 (pA_p (avT q.2 5))), (pP_int1 (pA_p (avT q.2 7))), (pP_int1 (pA_p (avT q.2 8))), (pA_app1 (avT q.2 10)), (pA_app3 (avT q.2 10)), (pP_int1 (pA_p (avT q.2 11))), (pP_int1 (pA_p (avT q.2 12))), (pP_int1 (hdP (pB_pcs1 (avM q.2 13)))), (pP_int1 (hdP (List.tail (pB_pcs1 (avM q.2 13))))), (pB_buf0 (avM q.2 144)))
abbrev Ylaw6_z43 : Type := (Nat × List PV × Int × Nat × List PV × Int × Int × Int × Int) ⊕ ((Unit) ⊕ ((Nat × List PV × Int × Nat × List PV × Int × Int × Nat × List PV × Int × Int × Int × Int × Nat)))
def XLlaw6_z43 : XL Ylaw6_z43 := .more Xlaw6_z43a (.more Xlaw6_z43b (.one Xlaw6_z43c))
def Ilaw6_z43 (q : Ext × S) : Ylaw6_z43 := bif (cE q.1 == 0) && (cA (avT q.2 10) == 1) then (Sum.inl (Ilaw6_z43a q)) else bif (cE q.1 == 2) then (Sum.inr (Sum.inl (Ilaw6_z43b q))) else (Sum.inr (Sum.inr (Ilaw6_z43c q)))
theorem XIlaw6_z43a (y : Nat × List PV × Int × Nat × List PV × Int × Int × Int × Int) : Ilaw6_z43 (xe (Xlaw6_z43a y)) = (Sum.inl y) := by kernel_rfl
theorem XIlaw6_z43b (y : Unit) : Ilaw6_z43 (xe (Xlaw6_z43b y)) = (Sum.inr (Sum.inl y)) := by kernel_rfl
theorem XIlaw6_z43c (y : Nat × List PV × Int × Nat × List PV × Int × Int × Nat × List PV × Int × Int × Int × Int × Nat) : Ilaw6_z43 (xe (Xlaw6_z43c y)) = (Sum.inr (Sum.inr y)) := by kernel_rfl
theorem XIlaw6_z43 (y : Ylaw6_z43) : Ilaw6_z43 (xe (XLlaw6_z43.fn y)) = y := (match y with | .inl y => XIlaw6_z43a y | .inr y => (match y with | .inl y => XIlaw6_z43b y | .inr y => XIlaw6_z43c y))
noncomputable abbrev Llaw6_z43 : Q → Option Ylaw6_z43 := lpO env a6.body 1000043 XLlaw6_z43
noncomputable abbrev Rlaw6_z43 : Q → Option (Ext × S) := lpR env a6.body 1000043
theorem Llaw6_z43a_of {s : Q} {y : Nat × List PV × Int × Nat × List PV × Int × Int × Int × Int} (h : Rlaw6_z43 s = exO (Xlaw6_z43a y)) : Llaw6_z43 s = some (Sum.inl y) := lpO_of Ilaw6_z43 XIlaw6_z43 (y := (Sum.inl y)) h
theorem Llaw6_z43c_of {s : Q} {y : Nat × List PV × Int × Nat × List PV × Int × Int × Nat × List PV × Int × Int × Int × Int × Nat} (h : Rlaw6_z43 s = exO (Xlaw6_z43c y)) : Llaw6_z43 s = some (Sum.inr (Sum.inr y)) := lpO_of Ilaw6_z43 XIlaw6_z43 (y := (Sum.inr (Sum.inr y))) h
theorem Ulaw6 : uniq ((blocksOf a6.body).map (·.1)) = true := by kernel_rfl
def Blaw6_0a (_F : FnT) (N : QO) (E : EO) (_L0 : QQ Ylaw6_0) (_L2 : QQ Ylaw6_2) (_L4 : QQ Ylaw6_4) (_L6 : QQ Ylaw6_6) (_L1000109 : QQ Ylaw6_1000109) (_L1000066 : QQ Ylaw6_z66) (_L1000063 : QQ Ylaw6_z63) (_L1000048 : QQ Ylaw6_z48) (_L1000043 : QQ Ylaw6_z43) (n0 : Nat) (c1 : List PV) (i2 : Int) (n3 : Nat) (c4 : List PV) (i5 i6 : Int) : OX :=
 bif (decide (i6 < (n0 : Int))) then
  bif (decide (((0 : Int) ≤ i6) ∧ (i6 < (n0 : Int)))) then
   bindO (listC (c1[((Int.toNat i6) * 1)]?)) fun x0 =>
   N (Tlaw6_0a n0 c1 i2 n3 c4 (w64 (i5 + (x0.1 : Int))) (w64 (i6 + (1 : Int))))
  else none
 else E (Xlaw6_0a (n0, c1, i2, n3, c4, i5))
abbrev qBL6_1 (L0 : QQ Ylaw6_0) (L2 : QQ Ylaw6_2) (L4 : QQ Ylaw6_4) (L6 : QQ Ylaw6_6) (L1000109 : QQ Ylaw6_1000109) (Lz66 : QQ Ylaw6_z66) (Lz63 : QQ Ylaw6_z63) (Lz48 : QQ Ylaw6_z48) (Lz43 : QQ Ylaw6_z43) : List LoopO := [⟨0, Ylaw6_0, L0, XLlaw6_0⟩, ⟨2, Ylaw6_2, L2, XLlaw6_2⟩, ⟨4, Ylaw6_4, L4, XLlaw6_4⟩, ⟨6, Ylaw6_6, L6, XLlaw6_6⟩, ⟨1000109, Ylaw6_1000109, L1000109, XLlaw6_1000109⟩, ⟨1000066, Ylaw6_z66, Lz66, XLlaw6_z66⟩, ⟨1000063, Ylaw6_z63, Lz63, XLlaw6_z63⟩, ⟨1000048, Ylaw6_z48, Lz48, XLlaw6_z48⟩, ⟨1000043, Ylaw6_z43, Lz43, XLlaw6_z43⟩]
theorem Blaw6_0a_eq (F : FnT) (N : QO) (E : EO) (L0 : QQ Ylaw6_0) (L2 : QQ Ylaw6_2) (L4 : QQ Ylaw6_4) (L6 : QQ Ylaw6_6) (L1000109 : QQ Ylaw6_1000109) (Lz66 : QQ Ylaw6_z66) (Lz63 : QQ Ylaw6_z63) (Lz48 : QQ Ylaw6_z48) (Lz43 : QQ Ylaw6_z43) (n0 : Nat) (c1 : List PV) (i2 : Int) (n3 : Nat) (c4 : List PV) (i5 i6 : Int) : semB (callP F Elaw6 20) s6 (loopT (qBL6_1 L0 L2 L4 L6 L1000109 Lz66 Lz63 Lz48 Lz43)) 400 (blkIn a6.body 0) N E (Tlaw6_0a n0 c1 i2 n3 c4 i5 i6) = Blaw6_0a F N E L0 L2 L4 L6 L1000109 Lz66 Lz63 Lz48 Lz43 n0 c1 i2 n3 c4 i5 i6 := by kernel_rfl
theorem oqBL6_1 : ∀ o ∈ qBL6_1 Llaw6_0 Llaw6_2 Llaw6_4 Llaw6_6 Llaw6_1000109 Llaw6_z66 Llaw6_z63 Llaw6_z48 Llaw6_z43, LoopOOK env a6.body o := lo_cons (lpO_ok Ulaw6) (lo_cons (lpO_ok Ulaw6) (lo_cons (lpO_ok Ulaw6) (lo_cons (lpO_ok Ulaw6) (lo_cons (lpO_ok Ulaw6) (lo_cons (lpO_ok Ulaw6) (lo_cons (lpO_ok Ulaw6) (lo_cons (lpO_ok Ulaw6) (lo_cons (lpO_ok Ulaw6) lo_nil))))))))
theorem Rlaw6_0a_of  (n0 : Nat) (c1 : List PV) (i2 : Int) (n3 : Nat) (c4 : List PV) (i5 i6 : Int) {r : Ext × S} (h : Blaw6_0a (Fn env) Rlaw6_0 exO Llaw6_0 Llaw6_2 Llaw6_4 Llaw6_6 Llaw6_1000109 Llaw6_z66 Llaw6_z63 Llaw6_z48 Llaw6_z43 n0 c1 i2 n3 c4 i5 i6 = some r) : Rlaw6_0 (Tlaw6_0a n0 c1 i2 n3 c4 i5 i6) = some r :=
 lp_of Elaw6_ok (by kernel_rfl) oqBL6_1 (by kernel_rfl) ((Blaw6_0a_eq _ _ _ _ _ _ _ _ _ _ _ _ _ _ _ _ _ _ _).trans h)
def Blaw6_2a (_F : FnT) (N : QO) (E : EO) (_L0 : QQ Ylaw6_0) (_L2 : QQ Ylaw6_2) (_L4 : QQ Ylaw6_4) (_L6 : QQ Ylaw6_6) (_L1000109 : QQ Ylaw6_1000109) (Lz66 : QQ Ylaw6_z66) (_L1000063 : QQ Ylaw6_z63) (_L1000048 : QQ Ylaw6_z48) (_L1000043 : QQ Ylaw6_z43) (n0 : Nat) (c1 : List PV) (i2 : Int) (n3 : Nat) (c4 : List PV) (i5 i6 : Int) : OX :=
 bif (decide (i6 < (n3 : Int))) then
  bindO (Lz66 (Tlaw6_z66a n0 c1 i2 n3 c4 i5 i6)) fun z =>
  Sum.elim (fun _y0 =>
   E (Xlaw6_2b ())) (fun z0 => Sum.elim (fun y1 =>
   N (Tlaw6_2a y1.1 y1.2.1 y1.2.2.1 y1.2.2.2.1 y1.2.2.2.2.1 y1.2.2.2.2.2.1 (w64 (y1.2.2.2.2.2.2 + (1 : Int))))) (fun y2 =>
   N (Tlaw6_2b y2.1 y2.2.1 y2.2.2.1 y2.2.2.2.1 y2.2.2.2.2.1 y2.2.2.2.2.2.1 y2.2.2.2.2.2.2.1 y2.2.2.2.2.2.2.2.1 y2.2.2.2.2.2.2.2.2.1 (w64 (y2.2.2.2.2.2.2.2.2.2.1 + (1 : Int))) y2.2.2.2.2.2.2.2.2.2.2)) z0) z
 else E (Xlaw6_2a ((0 : Int), i5))
theorem Blaw6_2a_eq (F : FnT) (N : QO) (E : EO) (L0 : QQ Ylaw6_0) (L2 : QQ Ylaw6_2) (L4 : QQ Ylaw6_4) (L6 : QQ Ylaw6_6) (L1000109 : QQ Ylaw6_1000109) (Lz66 : QQ Ylaw6_z66) (Lz63 : QQ Ylaw6_z63) (Lz48 : QQ Ylaw6_z48) (Lz43 : QQ Ylaw6_z43) (n0 : Nat) (c1 : List PV) (i2 : Int) (n3 : Nat) (c4 : List PV) (i5 i6 : Int) : semB (callP F Elaw6 20) s6 (loopT (qBL6_1 L0 L2 L4 L6 L1000109 Lz66 Lz63 Lz48 Lz43)) 400 (blkIn a6.body 2) N E (Tlaw6_2a n0 c1 i2 n3 c4 i5 i6) = Blaw6_2a F N E L0 L2 L4 L6 L1000109 Lz66 Lz63 Lz48 Lz43 n0 c1 i2 n3 c4 i5 i6 := by kernel_rfl
theorem Rlaw6_2a_of  (n0 : Nat) (c1 : List PV) (i2 : Int) (n3 : Nat) (c4 : List PV) (i5 i6 : Int) {r : Ext × S} (h : Blaw6_2a (Fn env) Rlaw6_2 exO Llaw6_0 Llaw6_2 Llaw6_4 Llaw6_6 Llaw6_1000109 Llaw6_z66 Llaw6_z63 Llaw6_z48 Llaw6_z43 n0 c1 i2 n3 c4 i5 i6 = some r) : Rlaw6_2 (Tlaw6_2a n0 c1 i2 n3 c4 i5 i6) = some r :=
 lp_of Elaw6_ok (by kernel_rfl) oqBL6_1 (by kernel_rfl) ((Blaw6_2a_eq _ _ _ _ _ _ _ _ _ _ _ _ _ _ _ _ _ _ _).trans h)
def Blaw6_2b (_F : FnT) (N : QO) (E : EO) (_L0 : QQ Ylaw6_0) (_L2 : QQ Ylaw6_2) (_L4 : QQ Ylaw6_4) (_L6 : QQ Ylaw6_6) (_L1000109 : QQ Ylaw6_1000109) (Lz66 : QQ Ylaw6_z66) (_L1000063 : QQ Ylaw6_z63) (_L1000048 : QQ Ylaw6_z48) (_L1000043 : QQ Ylaw6_z43) (n0 : Nat) (c1 : List PV) (i2 : Int) (n3 : Nat) (c4 : List PV) (i5 i6 : Int) (n7 : Nat) (c8 : List PV) (i9 : Int) (n10 : Nat) : OX :=
 bif (decide (i9 < (n3 : Int))) then
  bindO (Lz66 (Tlaw6_z66b n0 c1 i2 n3 c4 i5 i6 n7 c8 i9 n10)) fun z =>
  Sum.elim (fun _y0 =>
   E (Xlaw6_2b ())) (fun z0 => Sum.elim (fun y1 =>
   N (Tlaw6_2a y1.1 y1.2.1 y1.2.2.1 y1.2.2.2.1 y1.2.2.2.2.1 y1.2.2.2.2.2.1 (w64 (y1.2.2.2.2.2.2 + (1 : Int))))) (fun y2 =>
   N (Tlaw6_2b y2.1 y2.2.1 y2.2.2.1 y2.2.2.2.1 y2.2.2.2.2.1 y2.2.2.2.2.2.1 y2.2.2.2.2.2.2.1 y2.2.2.2.2.2.2.2.1 y2.2.2.2.2.2.2.2.2.1 (w64 (y2.2.2.2.2.2.2.2.2.2.1 + (1 : Int))) y2.2.2.2.2.2.2.2.2.2.2)) z0) z
 else E (Xlaw6_2a (i5, i6))
theorem Blaw6_2b_eq (F : FnT) (N : QO) (E : EO) (L0 : QQ Ylaw6_0) (L2 : QQ Ylaw6_2) (L4 : QQ Ylaw6_4) (L6 : QQ Ylaw6_6) (L1000109 : QQ Ylaw6_1000109) (Lz66 : QQ Ylaw6_z66) (Lz63 : QQ Ylaw6_z63) (Lz48 : QQ Ylaw6_z48) (Lz43 : QQ Ylaw6_z43) (n0 : Nat) (c1 : List PV) (i2 : Int) (n3 : Nat) (c4 : List PV) (i5 i6 : Int) (n7 : Nat) (c8 : List PV) (i9 : Int) (n10 : Nat) : semB (callP F Elaw6 20) s6 (loopT (qBL6_1 L0 L2 L4 L6 L1000109 Lz66 Lz63 Lz48 Lz43)) 400 (blkIn a6.body 2) N E (Tlaw6_2b n0 c1 i2 n3 c4 i5 i6 n7 c8 i9 n10) = Blaw6_2b F N E L0 L2 L4 L6 L1000109 Lz66 Lz63 Lz48 Lz43 n0 c1 i2 n3 c4 i5 i6 n7 c8 i9 n10 := by kernel_rfl
theorem Rlaw6_2b_of  (n0 : Nat) (c1 : List PV) (i2 : Int) (n3 : Nat) (c4 : List PV) (i5 i6 : Int) (n7 : Nat) (c8 : List PV) (i9 : Int) (n10 : Nat) {r : Ext × S} (h : Blaw6_2b (Fn env) Rlaw6_2 exO Llaw6_0 Llaw6_2 Llaw6_4 Llaw6_6 Llaw6_1000109 Llaw6_z66 Llaw6_z63 Llaw6_z48 Llaw6_z43 n0 c1 i2 n3 c4 i5 i6 n7 c8 i9 n10 = some r) : Rlaw6_2 (Tlaw6_2b n0 c1 i2 n3 c4 i5 i6 n7 c8 i9 n10) = some r :=
 lp_of Elaw6_ok (by kernel_rfl) oqBL6_1 (by kernel_rfl) ((Blaw6_2b_eq _ _ _ _ _ _ _ _ _ _ _ _ _ _ _ _ _ _ _ _ _ _ _).trans h)
def Blaw6_4a (_F : FnT) (N : QO) (E : EO) (_L0 : QQ Ylaw6_0) (_L2 : QQ Ylaw6_2) (_L4 : QQ Ylaw6_4) (_L6 : QQ Ylaw6_6) (_L1000109 : QQ Ylaw6_1000109) (_L1000066 : QQ Ylaw6_z66) (_L1000063 : QQ Ylaw6_z63) (Lz48 : QQ Ylaw6_z48) (_L1000043 : QQ Ylaw6_z43) (n0 : Nat) (c1 : List PV) (i2 : Int) (n3 : Nat) (c4 : List PV) (i5 i6 : Int) : OX :=
 bif (decide (((0 : Int) ≤ i6) ∧ (i6 < (n3 : Int)))) then
  bindO (listC (c4[((Int.toNat i6) * 1)]?)) fun x0 =>
  bif (decide ((0 : Int) < (x0.1 : Int))) then
   bindO (Lz48 (Tlaw6_z48a n0 c1 i2 n3 c4 i5 i6)) fun z =>
   Sum.elim (fun _y1 =>
    E (Xlaw6_4b ())) (fun y2 =>
    N (Tlaw6_4b y2.1 y2.2.1 y2.2.2.1 y2.2.2.2.1 y2.2.2.2.2.1 y2.2.2.2.2.2.1 y2.2.2.2.2.2.2.1 y2.2.2.2.2.2.2.2.1 y2.2.2.2.2.2.2.2.2.1 y2.2.2.2.2.2.2.2.2.2.1 (w64 (y2.2.2.2.2.2.2.2.2.2.2.1 + (1 : Int))) y2.2.2.2.2.2.2.2.2.2.2.2)) z
  else E (Xlaw6_4a (n0, c1, i2, n3, c4, i5, i6))
 else none
theorem Blaw6_4a_eq (F : FnT) (N : QO) (E : EO) (L0 : QQ Ylaw6_0) (L2 : QQ Ylaw6_2) (L4 : QQ Ylaw6_4) (L6 : QQ Ylaw6_6) (L1000109 : QQ Ylaw6_1000109) (Lz66 : QQ Ylaw6_z66) (Lz63 : QQ Ylaw6_z63) (Lz48 : QQ Ylaw6_z48) (Lz43 : QQ Ylaw6_z43) (n0 : Nat) (c1 : List PV) (i2 : Int) (n3 : Nat) (c4 : List PV) (i5 i6 : Int) : semB (callP F Elaw6 20) s6 (loopT (qBL6_1 L0 L2 L4 L6 L1000109 Lz66 Lz63 Lz48 Lz43)) 400 (blkIn a6.body 4) N E (Tlaw6_4a n0 c1 i2 n3 c4 i5 i6) = Blaw6_4a F N E L0 L2 L4 L6 L1000109 Lz66 Lz63 Lz48 Lz43 n0 c1 i2 n3 c4 i5 i6 := by kernel_rfl
theorem Rlaw6_4a_of  (n0 : Nat) (c1 : List PV) (i2 : Int) (n3 : Nat) (c4 : List PV) (i5 i6 : Int) {r : Ext × S} (h : Blaw6_4a (Fn env) Rlaw6_4 exO Llaw6_0 Llaw6_2 Llaw6_4 Llaw6_6 Llaw6_1000109 Llaw6_z66 Llaw6_z63 Llaw6_z48 Llaw6_z43 n0 c1 i2 n3 c4 i5 i6 = some r) : Rlaw6_4 (Tlaw6_4a n0 c1 i2 n3 c4 i5 i6) = some r :=
 lp_of Elaw6_ok (by kernel_rfl) oqBL6_1 (by kernel_rfl) ((Blaw6_4a_eq _ _ _ _ _ _ _ _ _ _ _ _ _ _ _ _ _ _ _).trans h)
def Blaw6_4b (_F : FnT) (N : QO) (E : EO) (_L0 : QQ Ylaw6_0) (_L2 : QQ Ylaw6_2) (_L4 : QQ Ylaw6_4) (_L6 : QQ Ylaw6_6) (_L1000109 : QQ Ylaw6_1000109) (_L1000066 : QQ Ylaw6_z66) (_L1000063 : QQ Ylaw6_z63) (Lz48 : QQ Ylaw6_z48) (_L1000043 : QQ Ylaw6_z43) (n0 : Nat) (c1 : List PV) (i2 : Int) (n3 : Nat) (c4 : List PV) (i5 i6 : Int) (n7 : Nat) (c8 : List PV) (i9 i10 : Int) (n11 : Nat) : OX :=
 bif (decide (((0 : Int) ≤ i9) ∧ (i9 < (n3 : Int)))) then
  bindO (listC (c4[((Int.toNat i9) * 1)]?)) fun x0 =>
  bif (decide (i10 < (x0.1 : Int))) then
   bindO (Lz48 (Tlaw6_z48b n0 c1 i2 n3 c4 i5 i6 n7 c8 i9 i10 n11)) fun z =>
   Sum.elim (fun _y1 =>
    E (Xlaw6_4b ())) (fun y2 =>
    N (Tlaw6_4b y2.1 y2.2.1 y2.2.2.1 y2.2.2.2.1 y2.2.2.2.2.1 y2.2.2.2.2.2.1 y2.2.2.2.2.2.2.1 y2.2.2.2.2.2.2.2.1 y2.2.2.2.2.2.2.2.2.1 y2.2.2.2.2.2.2.2.2.2.1 (w64 (y2.2.2.2.2.2.2.2.2.2.2.1 + (1 : Int))) y2.2.2.2.2.2.2.2.2.2.2.2)) z
  else E (Xlaw6_4c (n0, c1, i2, n3, c4, i5, i6, n7, c8, i9, n11))
 else none
theorem Blaw6_4b_eq (F : FnT) (N : QO) (E : EO) (L0 : QQ Ylaw6_0) (L2 : QQ Ylaw6_2) (L4 : QQ Ylaw6_4) (L6 : QQ Ylaw6_6) (L1000109 : QQ Ylaw6_1000109) (Lz66 : QQ Ylaw6_z66) (Lz63 : QQ Ylaw6_z63) (Lz48 : QQ Ylaw6_z48) (Lz43 : QQ Ylaw6_z43) (n0 : Nat) (c1 : List PV) (i2 : Int) (n3 : Nat) (c4 : List PV) (i5 i6 : Int) (n7 : Nat) (c8 : List PV) (i9 i10 : Int) (n11 : Nat) : semB (callP F Elaw6 20) s6 (loopT (qBL6_1 L0 L2 L4 L6 L1000109 Lz66 Lz63 Lz48 Lz43)) 400 (blkIn a6.body 4) N E (Tlaw6_4b n0 c1 i2 n3 c4 i5 i6 n7 c8 i9 i10 n11) = Blaw6_4b F N E L0 L2 L4 L6 L1000109 Lz66 Lz63 Lz48 Lz43 n0 c1 i2 n3 c4 i5 i6 n7 c8 i9 i10 n11 := by kernel_rfl
theorem Rlaw6_4b_of  (n0 : Nat) (c1 : List PV) (i2 : Int) (n3 : Nat) (c4 : List PV) (i5 i6 : Int) (n7 : Nat) (c8 : List PV) (i9 i10 : Int) (n11 : Nat) {r : Ext × S} (h : Blaw6_4b (Fn env) Rlaw6_4 exO Llaw6_0 Llaw6_2 Llaw6_4 Llaw6_6 Llaw6_1000109 Llaw6_z66 Llaw6_z63 Llaw6_z48 Llaw6_z43 n0 c1 i2 n3 c4 i5 i6 n7 c8 i9 i10 n11 = some r) : Rlaw6_4 (Tlaw6_4b n0 c1 i2 n3 c4 i5 i6 n7 c8 i9 i10 n11) = some r :=
 lp_of Elaw6_ok (by kernel_rfl) oqBL6_1 (by kernel_rfl) ((Blaw6_4b_eq _ _ _ _ _ _ _ _ _ _ _ _ _ _ _ _ _ _ _ _ _ _ _ _).trans h)
def Blaw6_6a (_F : FnT) (_N : QO) (E : EO) (_L0 : QQ Ylaw6_0) (_L2 : QQ Ylaw6_2) (_L4 : QQ Ylaw6_4) (_L6 : QQ Ylaw6_6) (_L1000109 : QQ Ylaw6_1000109) (_L1000066 : QQ Ylaw6_z66) (_L1000063 : QQ Ylaw6_z63) (_L1000048 : QQ Ylaw6_z48) (_L1000043 : QQ Ylaw6_z43) (n0 : Nat) (c1 : List PV) (i2 : Int) (n3 : Nat) (c4 : List PV) (i5 i6 i7 i8 : Int) : OX :=
 E (Xlaw6_6a (n0, c1, i2, n3, c4, i5, i6, i7, i8))
theorem Blaw6_6a_eq (F : FnT) (N : QO) (E : EO) (L0 : QQ Ylaw6_0) (L2 : QQ Ylaw6_2) (L4 : QQ Ylaw6_4) (L6 : QQ Ylaw6_6) (L1000109 : QQ Ylaw6_1000109) (Lz66 : QQ Ylaw6_z66) (Lz63 : QQ Ylaw6_z63) (Lz48 : QQ Ylaw6_z48) (Lz43 : QQ Ylaw6_z43) (n0 : Nat) (c1 : List PV) (i2 : Int) (n3 : Nat) (c4 : List PV) (i5 i6 i7 i8 : Int) : semB (callP F Elaw6 20) s6 (loopT (qBL6_1 L0 L2 L4 L6 L1000109 Lz66 Lz63 Lz48 Lz43)) 400 (blkIn a6.body 6) N E (Tlaw6_6a n0 c1 i2 n3 c4 i5 i6 i7 i8) = Blaw6_6a F N E L0 L2 L4 L6 L1000109 Lz66 Lz63 Lz48 Lz43 n0 c1 i2 n3 c4 i5 i6 i7 i8 := by kernel_rfl
theorem Rlaw6_6a_of  (n0 : Nat) (c1 : List PV) (i2 : Int) (n3 : Nat) (c4 : List PV) (i5 i6 i7 i8 : Int) {r : Ext × S} (h : Blaw6_6a (Fn env) Rlaw6_6 exO Llaw6_0 Llaw6_2 Llaw6_4 Llaw6_6 Llaw6_1000109 Llaw6_z66 Llaw6_z63 Llaw6_z48 Llaw6_z43 n0 c1 i2 n3 c4 i5 i6 i7 i8 = some r) : Rlaw6_6 (Tlaw6_6a n0 c1 i2 n3 c4 i5 i6 i7 i8) = some r :=
 lp_of Elaw6_ok (by kernel_rfl) oqBL6_1 (by kernel_rfl) ((Blaw6_6a_eq _ _ _ _ _ _ _ _ _ _ _ _ _ _ _ _ _ _ _ _ _).trans h)
def Blaw6_6b (_F : FnT) (N : QO) (E : EO) (_L0 : QQ Ylaw6_0) (_L2 : QQ Ylaw6_2) (_L4 : QQ Ylaw6_4) (_L6 : QQ Ylaw6_6) (_L1000109 : QQ Ylaw6_1000109) (_L1000066 : QQ Ylaw6_z66) (_L1000063 : QQ Ylaw6_z63) (_L1000048 : QQ Ylaw6_z48) (_L1000043 : QQ Ylaw6_z43) (n0 : Nat) (c1 : List PV) (i2 : Int) (n3 : Nat) (c4 : List PV) (i5 i6 : Int) (n7 : Nat) (c8 : List PV) (i9 i10 i11 i12 i13 : Int) (n14 : Nat) : OX :=
 bif (decide (i11 < (n7 : Int))) then
  bif (decide (((0 : Int) ≤ i11) ∧ (i11 < (n7 : Int)))) then
   bindO (intC .i64 (c8[((Int.toNat i11) * 2)]?)) fun x0 =>
   bindO (intC .i64 (c8[(((Int.toNat i11) * 2) + 1)]?)) fun x1 =>
   bif ((x0 == i12) && ((x1 == i13) && true)) then
    E (Xlaw6_6b ())
   else N (Tlaw6_6b n0 c1 i2 n3 c4 i5 i6 n7 c8 i9 i10 (w64 (i11 + (1 : Int))) i12 i13 n14)
  else none
 else E (Xlaw6_6c (n0, c1, i2, n3, c4, i5, i6, n7, c8, i9, i10, i12, i13, n14))
theorem Blaw6_6b_eq (F : FnT) (N : QO) (E : EO) (L0 : QQ Ylaw6_0) (L2 : QQ Ylaw6_2) (L4 : QQ Ylaw6_4) (L6 : QQ Ylaw6_6) (L1000109 : QQ Ylaw6_1000109) (Lz66 : QQ Ylaw6_z66) (Lz63 : QQ Ylaw6_z63) (Lz48 : QQ Ylaw6_z48) (Lz43 : QQ Ylaw6_z43) (n0 : Nat) (c1 : List PV) (i2 : Int) (n3 : Nat) (c4 : List PV) (i5 i6 : Int) (n7 : Nat) (c8 : List PV) (i9 i10 i11 i12 i13 : Int) (n14 : Nat) : semB (callP F Elaw6 20) s6 (loopT (qBL6_1 L0 L2 L4 L6 L1000109 Lz66 Lz63 Lz48 Lz43)) 400 (blkIn a6.body 6) N E (Tlaw6_6b n0 c1 i2 n3 c4 i5 i6 n7 c8 i9 i10 i11 i12 i13 n14) = Blaw6_6b F N E L0 L2 L4 L6 L1000109 Lz66 Lz63 Lz48 Lz43 n0 c1 i2 n3 c4 i5 i6 n7 c8 i9 i10 i11 i12 i13 n14 := by kernel_rfl
theorem Rlaw6_6b_of  (n0 : Nat) (c1 : List PV) (i2 : Int) (n3 : Nat) (c4 : List PV) (i5 i6 : Int) (n7 : Nat) (c8 : List PV) (i9 i10 i11 i12 i13 : Int) (n14 : Nat) {r : Ext × S} (h : Blaw6_6b (Fn env) Rlaw6_6 exO Llaw6_0 Llaw6_2 Llaw6_4 Llaw6_6 Llaw6_1000109 Llaw6_z66 Llaw6_z63 Llaw6_z48 Llaw6_z43 n0 c1 i2 n3 c4 i5 i6 n7 c8 i9 i10 i11 i12 i13 n14 = some r) : Rlaw6_6 (Tlaw6_6b n0 c1 i2 n3 c4 i5 i6 n7 c8 i9 i10 i11 i12 i13 n14) = some r :=
 lp_of Elaw6_ok (by kernel_rfl) oqBL6_1 (by kernel_rfl) ((Blaw6_6b_eq _ _ _ _ _ _ _ _ _ _ _ _ _ _ _ _ _ _ _ _ _ _ _ _ _ _ _).trans h)
def Blaw6_1000109a (F : FnT) (_N : QO) (E : EO) (_L0 : QQ Ylaw6_0) (_L2 : QQ Ylaw6_2) (_L4 : QQ Ylaw6_4) (_L6 : QQ Ylaw6_6) (_L1000109 : QQ Ylaw6_1000109) (_L1000066 : QQ Ylaw6_z66) (_L1000063 : QQ Ylaw6_z63) (_L1000048 : QQ Ylaw6_z48) (_L1000043 : QQ Ylaw6_z43) (n0 : Nat) (c1 : List PV) (i2 : Int) : OX :=
 bindO (F 37 (RSh.one CK.bool) [(PV.list n0 c1)]) fun (y0 : (Bool)) =>
 bif y0 then
  bindO (F 38 (RSh.one (CK.int .i64)) [(PV.list n0 c1), (PV.int .i64 i2)]) fun (y1 : (Int)) =>
  bif (y1 != (0 : Int)) then
   E (Xlaw6_1000109a ())
  else E (Xlaw6_1000109b (n0, c1, i2))
 else E (Xlaw6_1000109a ())
theorem Blaw6_1000109a_eq (F : FnT) (N : QO) (E : EO) (L0 : QQ Ylaw6_0) (L2 : QQ Ylaw6_2) (L4 : QQ Ylaw6_4) (L6 : QQ Ylaw6_6) (L1000109 : QQ Ylaw6_1000109) (Lz66 : QQ Ylaw6_z66) (Lz63 : QQ Ylaw6_z63) (Lz48 : QQ Ylaw6_z48) (Lz43 : QQ Ylaw6_z43) (n0 : Nat) (c1 : List PV) (i2 : Int) : semN (callP F Elaw6 20) s6 (loopT (qBL6_1 L0 L2 L4 L6 L1000109 Lz66 Lz63 Lz48 Lz43)) 400 (blkIn a6.body 1000109) E (Tlaw6_1000109a n0 c1 i2) = Blaw6_1000109a F N E L0 L2 L4 L6 L1000109 Lz66 Lz63 Lz48 Lz43 n0 c1 i2 := by kernel_rfl
theorem Rlaw6_1000109a_of  (n0 : Nat) (c1 : List PV) (i2 : Int) {r : Ext × S} (h : Blaw6_1000109a (Fn env) Rlaw6_1000109 exO Llaw6_0 Llaw6_2 Llaw6_4 Llaw6_6 Llaw6_1000109 Llaw6_z66 Llaw6_z63 Llaw6_z48 Llaw6_z43 n0 c1 i2 = some r) : Rlaw6_1000109 (Tlaw6_1000109a n0 c1 i2) = some r :=
 nd_of Elaw6_ok (by kernel_rfl) oqBL6_1 (by kernel_rfl) ((Blaw6_1000109a_eq _ Rlaw6_1000109 _ _ _ _ _ _ _ _ _ _ _ _ _).trans h)
def Blaw6_z66a (_F : FnT) (_N : QO) (E : EO) (_L0 : QQ Ylaw6_0) (_L2 : QQ Ylaw6_2) (L4 : QQ Ylaw6_4) (_L6 : QQ Ylaw6_6) (_L1000109 : QQ Ylaw6_1000109) (_L1000066 : QQ Ylaw6_z66) (Lz63 : QQ Ylaw6_z63) (_L1000048 : QQ Ylaw6_z48) (_L1000043 : QQ Ylaw6_z43) (n0 : Nat) (c1 : List PV) (i2 : Int) (n3 : Nat) (c4 : List PV) (i5 i6 : Int) : OX :=
 bindO (Lz63 (Tlaw6_z63a n0 c1 i2 n3 c4 i5 i6)) fun z =>
 Sum.elim (fun _y0 =>
  E (Xlaw6_z66a ())) (fun z0 => Sum.elim (fun y1 =>
  bindO (L4 (Tlaw6_4a y1.1 y1.2.1 y1.2.2.1 y1.2.2.2.1 y1.2.2.2.2.1 y1.2.2.2.2.2.1 y1.2.2.2.2.2.2)) fun z =>
  Sum.elim (fun y2 =>
   E (Xlaw6_z66b (y2.1, y2.2.1, y2.2.2.1, y2.2.2.2.1, y2.2.2.2.2.1, y2.2.2.2.2.2.1, y2.2.2.2.2.2.2))) (fun z0 => Sum.elim (fun _y3 =>
   E (Xlaw6_z66a ())) (fun y4 =>
   E (Xlaw6_z66c (y4.1, y4.2.1, y4.2.2.1, y4.2.2.2.1, y4.2.2.2.2.1, y4.2.2.2.2.2.1, y4.2.2.2.2.2.2.1, y4.2.2.2.2.2.2.2.1, y4.2.2.2.2.2.2.2.2.1, y4.2.2.2.2.2.2.2.2.2.1, y4.2.2.2.2.2.2.2.2.2.2))) z0) z) (fun y5 =>
  bindO (L4 (Tlaw6_4b y5.1 y5.2.1 y5.2.2.1 y5.2.2.2.1 y5.2.2.2.2.1 y5.2.2.2.2.2.1 y5.2.2.2.2.2.2.1 y5.2.2.2.2.2.2.2.1 y5.2.2.2.2.2.2.2.2.1 y5.2.2.2.2.2.2.2.2.2.1 (0 : Int) y5.2.2.2.2.2.2.2.2.2.2)) fun z =>
  Sum.elim (fun y6 =>
   E (Xlaw6_z66b (y6.1, y6.2.1, y6.2.2.1, y6.2.2.2.1, y6.2.2.2.2.1, y6.2.2.2.2.2.1, y6.2.2.2.2.2.2))) (fun z0 => Sum.elim (fun _y7 =>
   E (Xlaw6_z66a ())) (fun y8 =>
   E (Xlaw6_z66c (y8.1, y8.2.1, y8.2.2.1, y8.2.2.2.1, y8.2.2.2.2.1, y8.2.2.2.2.2.1, y8.2.2.2.2.2.2.1, y8.2.2.2.2.2.2.2.1, y8.2.2.2.2.2.2.2.2.1, y8.2.2.2.2.2.2.2.2.2.1, y8.2.2.2.2.2.2.2.2.2.2))) z0) z) z0) z
theorem Blaw6_z66a_eq (F : FnT) (N : QO) (E : EO) (L0 : QQ Ylaw6_0) (L2 : QQ Ylaw6_2) (L4 : QQ Ylaw6_4) (L6 : QQ Ylaw6_6) (L1000109 : QQ Ylaw6_1000109) (Lz66 : QQ Ylaw6_z66) (Lz63 : QQ Ylaw6_z63) (Lz48 : QQ Ylaw6_z48) (Lz43 : QQ Ylaw6_z43) (n0 : Nat) (c1 : List PV) (i2 : Int) (n3 : Nat) (c4 : List PV) (i5 i6 : Int) : semN (callP F Elaw6 20) s6 (loopT (qBL6_1 L0 L2 L4 L6 L1000109 Lz66 Lz63 Lz48 Lz43)) 400 (blkIn a6.body 1000066) E (Tlaw6_z66a n0 c1 i2 n3 c4 i5 i6) = Blaw6_z66a F N E L0 L2 L4 L6 L1000109 Lz66 Lz63 Lz48 Lz43 n0 c1 i2 n3 c4 i5 i6 := by kernel_rfl
theorem Rlaw6_z66a_of  (n0 : Nat) (c1 : List PV) (i2 : Int) (n3 : Nat) (c4 : List PV) (i5 i6 : Int) {r : Ext × S} (h : Blaw6_z66a (Fn env) Rlaw6_z66 exO Llaw6_0 Llaw6_2 Llaw6_4 Llaw6_6 Llaw6_1000109 Llaw6_z66 Llaw6_z63 Llaw6_z48 Llaw6_z43 n0 c1 i2 n3 c4 i5 i6 = some r) : Rlaw6_z66 (Tlaw6_z66a n0 c1 i2 n3 c4 i5 i6) = some r :=
 nd_of Elaw6_ok (by kernel_rfl) oqBL6_1 (by kernel_rfl) ((Blaw6_z66a_eq _ Rlaw6_z66 _ _ _ _ _ _ _ _ _ _ _ _ _ _ _ _ _).trans h)
def Blaw6_z66b (_F : FnT) (_N : QO) (E : EO) (_L0 : QQ Ylaw6_0) (_L2 : QQ Ylaw6_2) (L4 : QQ Ylaw6_4) (_L6 : QQ Ylaw6_6) (_L1000109 : QQ Ylaw6_1000109) (_L1000066 : QQ Ylaw6_z66) (Lz63 : QQ Ylaw6_z63) (_L1000048 : QQ Ylaw6_z48) (_L1000043 : QQ Ylaw6_z43) (n0 : Nat) (c1 : List PV) (i2 : Int) (n3 : Nat) (c4 : List PV) (i5 i6 : Int) (n7 : Nat) (c8 : List PV) (i9 : Int) (n10 : Nat) : OX :=
 bindO (Lz63 (Tlaw6_z63b n0 c1 i2 n3 c4 i5 i6 n7 c8 i9 n10)) fun z =>
 Sum.elim (fun _y0 =>
  E (Xlaw6_z66a ())) (fun z0 => Sum.elim (fun y1 =>
  bindO (L4 (Tlaw6_4a y1.1 y1.2.1 y1.2.2.1 y1.2.2.2.1 y1.2.2.2.2.1 y1.2.2.2.2.2.1 y1.2.2.2.2.2.2)) fun z =>
  Sum.elim (fun y2 =>
   E (Xlaw6_z66b (y2.1, y2.2.1, y2.2.2.1, y2.2.2.2.1, y2.2.2.2.2.1, y2.2.2.2.2.2.1, y2.2.2.2.2.2.2))) (fun z0 => Sum.elim (fun _y3 =>
   E (Xlaw6_z66a ())) (fun y4 =>
   E (Xlaw6_z66c (y4.1, y4.2.1, y4.2.2.1, y4.2.2.2.1, y4.2.2.2.2.1, y4.2.2.2.2.2.1, y4.2.2.2.2.2.2.1, y4.2.2.2.2.2.2.2.1, y4.2.2.2.2.2.2.2.2.1, y4.2.2.2.2.2.2.2.2.2.1, y4.2.2.2.2.2.2.2.2.2.2))) z0) z) (fun y5 =>
  bindO (L4 (Tlaw6_4b y5.1 y5.2.1 y5.2.2.1 y5.2.2.2.1 y5.2.2.2.2.1 y5.2.2.2.2.2.1 y5.2.2.2.2.2.2.1 y5.2.2.2.2.2.2.2.1 y5.2.2.2.2.2.2.2.2.1 y5.2.2.2.2.2.2.2.2.2.1 (0 : Int) y5.2.2.2.2.2.2.2.2.2.2)) fun z =>
  Sum.elim (fun y6 =>
   E (Xlaw6_z66b (y6.1, y6.2.1, y6.2.2.1, y6.2.2.2.1, y6.2.2.2.2.1, y6.2.2.2.2.2.1, y6.2.2.2.2.2.2))) (fun z0 => Sum.elim (fun _y7 =>
   E (Xlaw6_z66a ())) (fun y8 =>
   E (Xlaw6_z66c (y8.1, y8.2.1, y8.2.2.1, y8.2.2.2.1, y8.2.2.2.2.1, y8.2.2.2.2.2.1, y8.2.2.2.2.2.2.1, y8.2.2.2.2.2.2.2.1, y8.2.2.2.2.2.2.2.2.1, y8.2.2.2.2.2.2.2.2.2.1, y8.2.2.2.2.2.2.2.2.2.2))) z0) z) z0) z
theorem Blaw6_z66b_eq (F : FnT) (N : QO) (E : EO) (L0 : QQ Ylaw6_0) (L2 : QQ Ylaw6_2) (L4 : QQ Ylaw6_4) (L6 : QQ Ylaw6_6) (L1000109 : QQ Ylaw6_1000109) (Lz66 : QQ Ylaw6_z66) (Lz63 : QQ Ylaw6_z63) (Lz48 : QQ Ylaw6_z48) (Lz43 : QQ Ylaw6_z43) (n0 : Nat) (c1 : List PV) (i2 : Int) (n3 : Nat) (c4 : List PV) (i5 i6 : Int) (n7 : Nat) (c8 : List PV) (i9 : Int) (n10 : Nat) : semN (callP F Elaw6 20) s6 (loopT (qBL6_1 L0 L2 L4 L6 L1000109 Lz66 Lz63 Lz48 Lz43)) 400 (blkIn a6.body 1000066) E (Tlaw6_z66b n0 c1 i2 n3 c4 i5 i6 n7 c8 i9 n10) = Blaw6_z66b F N E L0 L2 L4 L6 L1000109 Lz66 Lz63 Lz48 Lz43 n0 c1 i2 n3 c4 i5 i6 n7 c8 i9 n10 := by kernel_rfl
theorem Rlaw6_z66b_of  (n0 : Nat) (c1 : List PV) (i2 : Int) (n3 : Nat) (c4 : List PV) (i5 i6 : Int) (n7 : Nat) (c8 : List PV) (i9 : Int) (n10 : Nat) {r : Ext × S} (h : Blaw6_z66b (Fn env) Rlaw6_z66 exO Llaw6_0 Llaw6_2 Llaw6_4 Llaw6_6 Llaw6_1000109 Llaw6_z66 Llaw6_z63 Llaw6_z48 Llaw6_z43 n0 c1 i2 n3 c4 i5 i6 n7 c8 i9 n10 = some r) : Rlaw6_z66 (Tlaw6_z66b n0 c1 i2 n3 c4 i5 i6 n7 c8 i9 n10) = some r :=
 nd_of Elaw6_ok (by kernel_rfl) oqBL6_1 (by kernel_rfl) ((Blaw6_z66b_eq _ Rlaw6_z66 _ _ _ _ _ _ _ _ _ _ _ _ _ _ _ _ _ _ _ _ _).trans h)
def Blaw6_z63a (_F : FnT) (_N : QO) (E : EO) (_L0 : QQ Ylaw6_0) (_L2 : QQ Ylaw6_2) (_L4 : QQ Ylaw6_4) (_L6 : QQ Ylaw6_6) (_L1000109 : QQ Ylaw6_1000109) (_L1000066 : QQ Ylaw6_z66) (_L1000063 : QQ Ylaw6_z63) (_L1000048 : QQ Ylaw6_z48) (_L1000043 : QQ Ylaw6_z43) (n0 : Nat) (c1 : List PV) (i2 : Int) (n3 : Nat) (c4 : List PV) (i5 i6 : Int) : OX :=
 bif (decide (((0 : Int) ≤ i6) ∧ (i6 < (n3 : Int)))) then
  bindO (listC (c4[((Int.toNat i6) * 1)]?)) fun x0 =>
  bif ((x0.1 : Int) == (0 : Int)) then
   E (Xlaw6_z63a ())
  else bif (decide (((0 : Int) ≤ i6) ∧ (i6 < (n3 : Int)))) then
   bindO (listC (c4[((Int.toNat i6) * 1)]?)) fun x1 =>
   bif (decide ((x1.1 : Int) > (n0 : Int))) then
    E (Xlaw6_z63a ())
   else E (Xlaw6_z63b (n0, c1, i2, n3, c4, i5, i6))
  else none
 else none
theorem Blaw6_z63a_eq (F : FnT) (N : QO) (E : EO) (L0 : QQ Ylaw6_0) (L2 : QQ Ylaw6_2) (L4 : QQ Ylaw6_4) (L6 : QQ Ylaw6_6) (L1000109 : QQ Ylaw6_1000109) (Lz66 : QQ Ylaw6_z66) (Lz63 : QQ Ylaw6_z63) (Lz48 : QQ Ylaw6_z48) (Lz43 : QQ Ylaw6_z43) (n0 : Nat) (c1 : List PV) (i2 : Int) (n3 : Nat) (c4 : List PV) (i5 i6 : Int) : semN (callP F Elaw6 20) s6 (loopT (qBL6_1 L0 L2 L4 L6 L1000109 Lz66 Lz63 Lz48 Lz43)) 400 (blkIn a6.body 1000063) E (Tlaw6_z63a n0 c1 i2 n3 c4 i5 i6) = Blaw6_z63a F N E L0 L2 L4 L6 L1000109 Lz66 Lz63 Lz48 Lz43 n0 c1 i2 n3 c4 i5 i6 := by kernel_rfl
theorem Rlaw6_z63a_of  (n0 : Nat) (c1 : List PV) (i2 : Int) (n3 : Nat) (c4 : List PV) (i5 i6 : Int) {r : Ext × S} (h : Blaw6_z63a (Fn env) Rlaw6_z63 exO Llaw6_0 Llaw6_2 Llaw6_4 Llaw6_6 Llaw6_1000109 Llaw6_z66 Llaw6_z63 Llaw6_z48 Llaw6_z43 n0 c1 i2 n3 c4 i5 i6 = some r) : Rlaw6_z63 (Tlaw6_z63a n0 c1 i2 n3 c4 i5 i6) = some r :=
 nd_of Elaw6_ok (by kernel_rfl) oqBL6_1 (by kernel_rfl) ((Blaw6_z63a_eq _ Rlaw6_z63 _ _ _ _ _ _ _ _ _ _ _ _ _ _ _ _ _).trans h)
def Blaw6_z63b (_F : FnT) (_N : QO) (E : EO) (_L0 : QQ Ylaw6_0) (_L2 : QQ Ylaw6_2) (_L4 : QQ Ylaw6_4) (_L6 : QQ Ylaw6_6) (_L1000109 : QQ Ylaw6_1000109) (_L1000066 : QQ Ylaw6_z66) (_L1000063 : QQ Ylaw6_z63) (_L1000048 : QQ Ylaw6_z48) (_L1000043 : QQ Ylaw6_z43) (n0 : Nat) (c1 : List PV) (i2 : Int) (n3 : Nat) (c4 : List PV) (i5 i6 : Int) (n7 : Nat) (c8 : List PV) (i9 : Int) (n10 : Nat) : OX :=
 bif (decide (((0 : Int) ≤ i9) ∧ (i9 < (n3 : Int)))) then
  bindO (listC (c4[((Int.toNat i9) * 1)]?)) fun x0 =>
  bif ((x0.1 : Int) == (0 : Int)) then
   E (Xlaw6_z63a ())
  else bif (decide (((0 : Int) ≤ i9) ∧ (i9 < (n3 : Int)))) then
   bindO (listC (c4[((Int.toNat i9) * 1)]?)) fun x1 =>
   bif (decide ((x1.1 : Int) > (n0 : Int))) then
    E (Xlaw6_z63a ())
   else E (Xlaw6_z63c (n0, c1, i2, n3, c4, i5, i6, n7, c8, i9, n10))
  else none
 else none
theorem Blaw6_z63b_eq (F : FnT) (N : QO) (E : EO) (L0 : QQ Ylaw6_0) (L2 : QQ Ylaw6_2) (L4 : QQ Ylaw6_4) (L6 : QQ Ylaw6_6) (L1000109 : QQ Ylaw6_1000109) (Lz66 : QQ Ylaw6_z66) (Lz63 : QQ Ylaw6_z63) (Lz48 : QQ Ylaw6_z48) (Lz43 : QQ Ylaw6_z43) (n0 : Nat) (c1 : List PV) (i2 : Int) (n3 : Nat) (c4 : List PV) (i5 i6 : Int) (n7 : Nat) (c8 : List PV) (i9 : Int) (n10 : Nat) : semN (callP F Elaw6 20) s6 (loopT (qBL6_1 L0 L2 L4 L6 L1000109 Lz66 Lz63 Lz48 Lz43)) 400 (blkIn a6.body 1000063) E (Tlaw6_z63b n0 c1 i2 n3 c4 i5 i6 n7 c8 i9 n10) = Blaw6_z63b F N E L0 L2 L4 L6 L1000109 Lz66 Lz63 Lz48 Lz43 n0 c1 i2 n3 c4 i5 i6 n7 c8 i9 n10 := by kernel_rfl
theorem Rlaw6_z63b_of  (n0 : Nat) (c1 : List PV) (i2 : Int) (n3 : Nat) (c4 : List PV) (i5 i6 : Int) (n7 : Nat) (c8 : List PV) (i9 : Int) (n10 : Nat) {r : Ext × S} (h : Blaw6_z63b (Fn env) Rlaw6_z63 exO Llaw6_0 Llaw6_2 Llaw6_4 Llaw6_6 Llaw6_1000109 Llaw6_z66 Llaw6_z63 Llaw6_z48 Llaw6_z43 n0 c1 i2 n3 c4 i5 i6 n7 c8 i9 n10 = some r) : Rlaw6_z63 (Tlaw6_z63b n0 c1 i2 n3 c4 i5 i6 n7 c8 i9 n10) = some r :=
 nd_of Elaw6_ok (by kernel_rfl) oqBL6_1 (by kernel_rfl) ((Blaw6_z63b_eq _ Rlaw6_z63 _ _ _ _ _ _ _ _ _ _ _ _ _ _ _ _ _ _ _ _ _).trans h)
def Blaw6_z48a (F : FnT) (_N : QO) (E : EO) (_L0 : QQ Ylaw6_0) (_L2 : QQ Ylaw6_2) (_L4 : QQ Ylaw6_4) (L6 : QQ Ylaw6_6) (_L1000109 : QQ Ylaw6_1000109) (_L1000066 : QQ Ylaw6_z66) (_L1000063 : QQ Ylaw6_z63) (_L1000048 : QQ Ylaw6_z48) (Lz43 : QQ Ylaw6_z43) (n0 : Nat) (c1 : List PV) (i2 : Int) (n3 : Nat) (c4 : List PV) (i5 i6 : Int) : OX :=
 bif (decide (((0 : Int) ≤ i6) ∧ (i6 < (n3 : Int)))) then
  bindO (listC (c4[((Int.toNat i6) * 1)]?)) fun x0 =>
  bif (decide (((0 : Int) ≤ (0 : Int)) ∧ ((0 : Int) < (x0.1 : Int)))) then
   bindO (intC .i64 (x0.2[0]?)) fun x1 =>
   bindO (intC .i64 (x0.2[1]?)) fun x2 =>
   bindO (Lz43 (Tlaw6_z43a n0 c1 i2 n3 c4 i5 i6 x1 x2)) fun z =>
   Sum.elim (fun y3 =>
    bindO (L6 (Tlaw6_6a y3.1 y3.2.1 y3.2.2.1 y3.2.2.2.1 y3.2.2.2.2.1 y3.2.2.2.2.2.1 y3.2.2.2.2.2.2.1 y3.2.2.2.2.2.2.2.1 y3.2.2.2.2.2.2.2.2)) fun z =>
    Sum.elim (fun y4 =>
     E (Xlaw6_z48b (y4.1, y4.2.1, y4.2.2.1, y4.2.2.2.1, y4.2.2.2.2.1, (1 : Int), y4.2.2.2.2.2.1, 1, [(PV.int .i64 y4.2.2.2.2.2.2.2.1), (PV.int .i64 y4.2.2.2.2.2.2.2.2)], y4.2.2.2.2.2.2.1, (0 : Int), 1))) (fun z0 => Sum.elim (fun _y5 =>
     E (Xlaw6_z48a ())) (fun y6 =>
     bif (decide ((y6.2.2.2.2.2.2.2.2.2.2.2.2.2 = y6.2.2.2.2.2.2.2.1) ∧ ((y6.2.2.2.2.2.2.2.1 + 1) ≤ big))) then
      bif (y6.2.2.2.2.2.2.2.2.2.2.1 == (0 : Int)) then
       E (Xlaw6_z48b (y6.1, y6.2.1, y6.2.2.1, y6.2.2.2.1, y6.2.2.2.2.1, (w64 (y6.2.2.2.2.2.1 + (1 : Int))), y6.2.2.2.2.2.2.1, (y6.2.2.2.2.2.2.2.1 + 1), (y6.2.2.2.2.2.2.2.2.1 ++ [(PV.int .i64 y6.2.2.2.2.2.2.2.2.2.2.2.1), (PV.int .i64 y6.2.2.2.2.2.2.2.2.2.2.2.2.1)]), y6.2.2.2.2.2.2.2.2.2.1, y6.2.2.2.2.2.2.2.2.2.2.1, (y6.2.2.2.2.2.2.2.1 + 1)))
      else bif (decide (((0 : Int) ≤ y6.2.2.2.2.2.2.2.2.2.1) ∧ (y6.2.2.2.2.2.2.2.2.2.1 < (y6.2.2.2.1 : Int)))) then
       bindO (listC (y6.2.2.2.2.1[((Int.toNat y6.2.2.2.2.2.2.2.2.2.1) * 1)]?)) fun x7 =>
       bif (decide (((0 : Int) ≤ (w64 (y6.2.2.2.2.2.2.2.2.2.2.1 - (1 : Int)))) ∧ ((w64 (y6.2.2.2.2.2.2.2.2.2.2.1 - (1 : Int))) < (x7.1 : Int)))) then
        bindO (intC .i64 (x7.2[((Int.toNat (w64 (y6.2.2.2.2.2.2.2.2.2.2.1 - (1 : Int)))) * 2)]?)) fun x8 =>
        bindO (intC .i64 (x7.2[(((Int.toNat (w64 (y6.2.2.2.2.2.2.2.2.2.2.1 - (1 : Int)))) * 2) + 1)]?)) fun x9 =>
        bif (decide (((0 : Int) ≤ x8) ∧ (x8 < (y6.1 : Int)))) then
         bindO (listC (y6.2.1[((Int.toNat x8) * 1)]?)) fun x10 =>
         bindO (F 42 (RSh.one CK.list) [(PV.list x10.1 x10.2)]) fun (y11 : ((Nat) × (List PV))) =>
         bif (decide (((0 : Int) ≤ y6.2.2.2.2.2.2.2.2.2.2.2.1) ∧ (y6.2.2.2.2.2.2.2.2.2.2.2.1 < (y6.1 : Int)))) then
          bindO (listC (y6.2.1[((Int.toNat y6.2.2.2.2.2.2.2.2.2.2.2.1) * 1)]?)) fun x12 =>
          bindO (F 42 (RSh.one CK.list) [(PV.list x12.1 x12.2)]) fun (y13 : ((Nat) × (List PV))) =>
          bindO (F 41 (RSh.tup [(Prod.mk false [CK.list]), (Prod.mk false [(CK.int .i64)])]) [(PV.list y11.1 y11.2), (PV.list y13.1 y13.2), (PV.int .i64 y6.2.2.1)]) fun (y14 : (((Nat) × (List PV)) × (Int))) =>
          bif (decide (((0 : Int) ≤ x8) ∧ (x8 < (y6.1 : Int)))) then
           bindO (listC (y6.2.1[((Int.toNat x8) * 1)]?)) fun x15 =>
           bif (decide (((0 : Int) ≤ x9) ∧ (x9 < (x15.1 : Int)))) then
            bindO (intC .i64 (x15.2[((Int.toNat x9) * 3)]?)) fun x16 =>
            bindO (intC .i64 (x15.2[(((Int.toNat x9) * 3) + 1)]?)) fun x17 =>
            bindO (intC .i64 (x15.2[((((Int.toNat x9) * 3) + 1) + 1)]?)) fun x18 =>
            bif (decide (((0 : Int) ≤ y6.2.2.2.2.2.2.2.2.2.2.2.1) ∧ (y6.2.2.2.2.2.2.2.2.2.2.2.1 < (y6.1 : Int)))) then
             bindO (listC (y6.2.1[((Int.toNat y6.2.2.2.2.2.2.2.2.2.2.2.1) * 1)]?)) fun x19 =>
             bif (decide (((0 : Int) ≤ y6.2.2.2.2.2.2.2.2.2.2.2.2.1) ∧ (y6.2.2.2.2.2.2.2.2.2.2.2.2.1 < (x19.1 : Int)))) then
              bindO (intC .i64 (x19.2[((Int.toNat y6.2.2.2.2.2.2.2.2.2.2.2.2.1) * 3)]?)) fun x20 =>
              bindO (intC .i64 (x19.2[(((Int.toNat y6.2.2.2.2.2.2.2.2.2.2.2.2.1) * 3) + 1)]?)) fun x21 =>
              bindO (intC .i64 (x19.2[((((Int.toNat y6.2.2.2.2.2.2.2.2.2.2.2.2.1) * 3) + 1) + 1)]?)) fun x22 =>
              bindO (F 43 (RSh.one (CK.int .i64)) [(PV.agg [(PV.int .i64 x16), (PV.int .i64 x17), (PV.int .i64 x18)]), (PV.agg [(PV.int .i64 x20), (PV.int .i64 x21), (PV.int .i64 x22)])]) fun (y23 : (Int)) =>
              bif (y14.2 != (0 : Int)) then
               E (Xlaw6_z48a ())
              else bif (decide (((0 : Int) ≤ x8) ∧ (x8 < (y6.1 : Int)))) then
               bindO (listC (y6.2.1[((Int.toNat x8) * 1)]?)) fun x24 =>
               bif ((y14.1.1 : Int) != (x24.1 : Int)) then
                E (Xlaw6_z48a ())
               else bif (decide (((0 : Int) ≤ x9) ∧ (x9 < (y14.1.1 : Int)))) then
                bindO (intC .i64 (y14.1.2[((Int.toNat x9) * 1)]?)) fun x25 =>
                bif (x25 != y6.2.2.2.2.2.2.2.2.2.2.2.2.1) then
                 E (Xlaw6_z48a ())
                else bif (decide (y23 > (w64 ((2 : Int) * y6.2.2.1)))) then
                 E (Xlaw6_z48a ())
                else E (Xlaw6_z48b (y6.1, y6.2.1, y6.2.2.1, y6.2.2.2.1, y6.2.2.2.2.1, (w64 (y6.2.2.2.2.2.1 + (1 : Int))), y6.2.2.2.2.2.2.1, (y6.2.2.2.2.2.2.2.1 + 1), (y6.2.2.2.2.2.2.2.2.1 ++ [(PV.int .i64 y6.2.2.2.2.2.2.2.2.2.2.2.1), (PV.int .i64 y6.2.2.2.2.2.2.2.2.2.2.2.2.1)]), y6.2.2.2.2.2.2.2.2.2.1, y6.2.2.2.2.2.2.2.2.2.2.1, (y6.2.2.2.2.2.2.2.1 + 1)))
               else none
              else none
             else none
            else none
           else none
          else none
         else none
        else none
       else none
      else none
     else none) z0) z) (fun z0 => Sum.elim (fun _y26 =>
    E (Xlaw6_z48a ())) (fun y27 =>
    bindO (L6 (Tlaw6_6b y27.1 y27.2.1 y27.2.2.1 y27.2.2.2.1 y27.2.2.2.2.1 y27.2.2.2.2.2.1 y27.2.2.2.2.2.2.1 y27.2.2.2.2.2.2.2.1 y27.2.2.2.2.2.2.2.2.1 y27.2.2.2.2.2.2.2.2.2.1 y27.2.2.2.2.2.2.2.2.2.2.1 (0 : Int) y27.2.2.2.2.2.2.2.2.2.2.2.1 y27.2.2.2.2.2.2.2.2.2.2.2.2.1 y27.2.2.2.2.2.2.2.2.2.2.2.2.2)) fun z =>
    Sum.elim (fun y28 =>
     E (Xlaw6_z48b (y28.1, y28.2.1, y28.2.2.1, y28.2.2.2.1, y28.2.2.2.2.1, (1 : Int), y28.2.2.2.2.2.1, 1, [(PV.int .i64 y28.2.2.2.2.2.2.2.1), (PV.int .i64 y28.2.2.2.2.2.2.2.2)], y28.2.2.2.2.2.2.1, (0 : Int), 1))) (fun z0 => Sum.elim (fun _y29 =>
     E (Xlaw6_z48a ())) (fun y30 =>
     bif (decide ((y30.2.2.2.2.2.2.2.2.2.2.2.2.2 = y30.2.2.2.2.2.2.2.1) ∧ ((y30.2.2.2.2.2.2.2.1 + 1) ≤ big))) then
      bif (y30.2.2.2.2.2.2.2.2.2.2.1 == (0 : Int)) then
       E (Xlaw6_z48b (y30.1, y30.2.1, y30.2.2.1, y30.2.2.2.1, y30.2.2.2.2.1, (w64 (y30.2.2.2.2.2.1 + (1 : Int))), y30.2.2.2.2.2.2.1, (y30.2.2.2.2.2.2.2.1 + 1), (y30.2.2.2.2.2.2.2.2.1 ++ [(PV.int .i64 y30.2.2.2.2.2.2.2.2.2.2.2.1), (PV.int .i64 y30.2.2.2.2.2.2.2.2.2.2.2.2.1)]), y30.2.2.2.2.2.2.2.2.2.1, y30.2.2.2.2.2.2.2.2.2.2.1, (y30.2.2.2.2.2.2.2.1 + 1)))
      else bif (decide (((0 : Int) ≤ y30.2.2.2.2.2.2.2.2.2.1) ∧ (y30.2.2.2.2.2.2.2.2.2.1 < (y30.2.2.2.1 : Int)))) then
       bindO (listC (y30.2.2.2.2.1[((Int.toNat y30.2.2.2.2.2.2.2.2.2.1) * 1)]?)) fun x31 =>
       bif (decide (((0 : Int) ≤ (w64 (y30.2.2.2.2.2.2.2.2.2.2.1 - (1 : Int)))) ∧ ((w64 (y30.2.2.2.2.2.2.2.2.2.2.1 - (1 : Int))) < (x31.1 : Int)))) then
        bindO (intC .i64 (x31.2[((Int.toNat (w64 (y30.2.2.2.2.2.2.2.2.2.2.1 - (1 : Int)))) * 2)]?)) fun x32 =>
        bindO (intC .i64 (x31.2[(((Int.toNat (w64 (y30.2.2.2.2.2.2.2.2.2.2.1 - (1 : Int)))) * 2) + 1)]?)) fun x33 =>
        bif (decide (((0 : Int) ≤ x32) ∧ (x32 < (y30.1 : Int)))) then
         bindO (listC (y30.2.1[((Int.toNat x32) * 1)]?)) fun x34 =>
         bindO (F 42 (RSh.one CK.list) [(PV.list x34.1 x34.2)]) fun (y35 : ((Nat) × (List PV))) =>
         bif (decide (((0 : Int) ≤ y30.2.2.2.2.2.2.2.2.2.2.2.1) ∧ (y30.2.2.2.2.2.2.2.2.2.2.2.1 < (y30.1 : Int)))) then
          bindO (listC (y30.2.1[((Int.toNat y30.2.2.2.2.2.2.2.2.2.2.2.1) * 1)]?)) fun x36 =>
          bindO (F 42 (RSh.one CK.list) [(PV.list x36.1 x36.2)]) fun (y37 : ((Nat) × (List PV))) =>
          bindO (F 41 (RSh.tup [(Prod.mk false [CK.list]), (Prod.mk false [(CK.int .i64)])]) [(PV.list y35.1 y35.2), (PV.list y37.1 y37.2), (PV.int .i64 y30.2.2.1)]) fun (y38 : (((Nat) × (List PV)) × (Int))) =>
          bif (decide (((0 : Int) ≤ x32) ∧ (x32 < (y30.1 : Int)))) then
           bindO (listC (y30.2.1[((Int.toNat x32) * 1)]?)) fun x39 =>
           bif (decide (((0 : Int) ≤ x33) ∧ (x33 < (x39.1 : Int)))) then
            bindO (intC .i64 (x39.2[((Int.toNat x33) * 3)]?)) fun x40 =>
            bindO (intC .i64 (x39.2[(((Int.toNat x33) * 3) + 1)]?)) fun x41 =>
            bindO (intC .i64 (x39.2[((((Int.toNat x33) * 3) + 1) + 1)]?)) fun x42 =>
            bif (decide (((0 : Int) ≤ y30.2.2.2.2.2.2.2.2.2.2.2.1) ∧ (y30.2.2.2.2.2.2.2.2.2.2.2.1 < (y30.1 : Int)))) then
             bindO (listC (y30.2.1[((Int.toNat y30.2.2.2.2.2.2.2.2.2.2.2.1) * 1)]?)) fun x43 =>
             bif (decide (((0 : Int) ≤ y30.2.2.2.2.2.2.2.2.2.2.2.2.1) ∧ (y30.2.2.2.2.2.2.2.2.2.2.2.2.1 < (x43.1 : Int)))) then
              bindO (intC .i64 (x43.2[((Int.toNat y30.2.2.2.2.2.2.2.2.2.2.2.2.1) * 3)]?)) fun x44 =>
              bindO (intC .i64 (x43.2[(((Int.toNat y30.2.2.2.2.2.2.2.2.2.2.2.2.1) * 3) + 1)]?)) fun x45 =>
              bindO (intC .i64 (x43.2[((((Int.toNat y30.2.2.2.2.2.2.2.2.2.2.2.2.1) * 3) + 1) + 1)]?)) fun x46 =>
              bindO (F 43 (RSh.one (CK.int .i64)) [(PV.agg [(PV.int .i64 x40), (PV.int .i64 x41), (PV.int .i64 x42)]), (PV.agg [(PV.int .i64 x44), (PV.int .i64 x45), (PV.int .i64 x46)])]) fun (y47 : (Int)) =>
              bif (y38.2 != (0 : Int)) then
               E (Xlaw6_z48a ())
              else bif (decide (((0 : Int) ≤ x32) ∧ (x32 < (y30.1 : Int)))) then
               bindO (listC (y30.2.1[((Int.toNat x32) * 1)]?)) fun x48 =>
               bif ((y38.1.1 : Int) != (x48.1 : Int)) then
                E (Xlaw6_z48a ())
               else bif (decide (((0 : Int) ≤ x33) ∧ (x33 < (y38.1.1 : Int)))) then
                bindO (intC .i64 (y38.1.2[((Int.toNat x33) * 1)]?)) fun x49 =>
                bif (x49 != y30.2.2.2.2.2.2.2.2.2.2.2.2.1) then
                 E (Xlaw6_z48a ())
                else bif (decide (y47 > (w64 ((2 : Int) * y30.2.2.1)))) then
                 E (Xlaw6_z48a ())
                else E (Xlaw6_z48b (y30.1, y30.2.1, y30.2.2.1, y30.2.2.2.1, y30.2.2.2.2.1, (w64 (y30.2.2.2.2.2.1 + (1 : Int))), y30.2.2.2.2.2.2.1, (y30.2.2.2.2.2.2.2.1 + 1), (y30.2.2.2.2.2.2.2.2.1 ++ [(PV.int .i64 y30.2.2.2.2.2.2.2.2.2.2.2.1), (PV.int .i64 y30.2.2.2.2.2.2.2.2.2.2.2.2.1)]), y30.2.2.2.2.2.2.2.2.2.1, y30.2.2.2.2.2.2.2.2.2.2.1, (y30.2.2.2.2.2.2.2.1 + 1)))
               else none
              else none
             else none
            else none
           else none
          else none
         else none
        else none
       else none
      else none
     else none) z0) z) z0) z
  else none
 else none
theorem Blaw6_z48a_eq (F : FnT) (N : QO) (E : EO) (L0 : QQ Ylaw6_0) (L2 : QQ Ylaw6_2) (L4 : QQ Ylaw6_4) (L6 : QQ Ylaw6_6) (L1000109 : QQ Ylaw6_1000109) (Lz66 : QQ Ylaw6_z66) (Lz63 : QQ Ylaw6_z63) (Lz48 : QQ Ylaw6_z48) (Lz43 : QQ Ylaw6_z43) (n0 : Nat) (c1 : List PV) (i2 : Int) (n3 : Nat) (c4 : List PV) (i5 i6 : Int) : semN (callP F Elaw6 20) s6 (loopT (qBL6_1 L0 L2 L4 L6 L1000109 Lz66 Lz63 Lz48 Lz43)) 400 (blkIn a6.body 1000048) E (Tlaw6_z48a n0 c1 i2 n3 c4 i5 i6) = Blaw6_z48a F N E L0 L2 L4 L6 L1000109 Lz66 Lz63 Lz48 Lz43 n0 c1 i2 n3 c4 i5 i6 := by kernel_rfl
theorem Rlaw6_z48a_of  (n0 : Nat) (c1 : List PV) (i2 : Int) (n3 : Nat) (c4 : List PV) (i5 i6 : Int) {r : Ext × S} (h : Blaw6_z48a (Fn env) Rlaw6_z48 exO Llaw6_0 Llaw6_2 Llaw6_4 Llaw6_6 Llaw6_1000109 Llaw6_z66 Llaw6_z63 Llaw6_z48 Llaw6_z43 n0 c1 i2 n3 c4 i5 i6 = some r) : Rlaw6_z48 (Tlaw6_z48a n0 c1 i2 n3 c4 i5 i6) = some r :=
 nd_of Elaw6_ok (by kernel_rfl) oqBL6_1 (by kernel_rfl) ((Blaw6_z48a_eq _ Rlaw6_z48 _ _ _ _ _ _ _ _ _ _ _ _ _ _ _ _ _).trans h)
def Blaw6_z48b (F : FnT) (_N : QO) (E : EO) (_L0 : QQ Ylaw6_0) (_L2 : QQ Ylaw6_2) (_L4 : QQ Ylaw6_4) (L6 : QQ Ylaw6_6) (_L1000109 : QQ Ylaw6_1000109) (_L1000066 : QQ Ylaw6_z66) (_L1000063 : QQ Ylaw6_z63) (_L1000048 : QQ Ylaw6_z48) (Lz43 : QQ Ylaw6_z43) (n0 : Nat) (c1 : List PV) (i2 : Int) (n3 : Nat) (c4 : List PV) (i5 i6 : Int) (n7 : Nat) (c8 : List PV) (i9 i10 : Int) (n11 : Nat) : OX :=
 bif (decide (((0 : Int) ≤ i9) ∧ (i9 < (n3 : Int)))) then
  bindO (listC (c4[((Int.toNat i9) * 1)]?)) fun x0 =>
  bif (decide (((0 : Int) ≤ i10) ∧ (i10 < (x0.1 : Int)))) then
   bindO (intC .i64 (x0.2[((Int.toNat i10) * 2)]?)) fun x1 =>
   bindO (intC .i64 (x0.2[(((Int.toNat i10) * 2) + 1)]?)) fun x2 =>
   bindO (Lz43 (Tlaw6_z43b n0 c1 i2 n3 c4 i5 i6 n7 c8 i9 i10 x1 x2 n11)) fun z =>
   Sum.elim (fun y3 =>
    bindO (L6 (Tlaw6_6a y3.1 y3.2.1 y3.2.2.1 y3.2.2.2.1 y3.2.2.2.2.1 y3.2.2.2.2.2.1 y3.2.2.2.2.2.2.1 y3.2.2.2.2.2.2.2.1 y3.2.2.2.2.2.2.2.2)) fun z =>
    Sum.elim (fun y4 =>
     E (Xlaw6_z48b (y4.1, y4.2.1, y4.2.2.1, y4.2.2.2.1, y4.2.2.2.2.1, (1 : Int), y4.2.2.2.2.2.1, 1, [(PV.int .i64 y4.2.2.2.2.2.2.2.1), (PV.int .i64 y4.2.2.2.2.2.2.2.2)], y4.2.2.2.2.2.2.1, (0 : Int), 1))) (fun z0 => Sum.elim (fun _y5 =>
     E (Xlaw6_z48a ())) (fun y6 =>
     bif (decide ((y6.2.2.2.2.2.2.2.2.2.2.2.2.2 = y6.2.2.2.2.2.2.2.1) ∧ ((y6.2.2.2.2.2.2.2.1 + 1) ≤ big))) then
      bif (y6.2.2.2.2.2.2.2.2.2.2.1 == (0 : Int)) then
       E (Xlaw6_z48b (y6.1, y6.2.1, y6.2.2.1, y6.2.2.2.1, y6.2.2.2.2.1, (w64 (y6.2.2.2.2.2.1 + (1 : Int))), y6.2.2.2.2.2.2.1, (y6.2.2.2.2.2.2.2.1 + 1), (y6.2.2.2.2.2.2.2.2.1 ++ [(PV.int .i64 y6.2.2.2.2.2.2.2.2.2.2.2.1), (PV.int .i64 y6.2.2.2.2.2.2.2.2.2.2.2.2.1)]), y6.2.2.2.2.2.2.2.2.2.1, y6.2.2.2.2.2.2.2.2.2.2.1, (y6.2.2.2.2.2.2.2.1 + 1)))
      else bif (decide (((0 : Int) ≤ y6.2.2.2.2.2.2.2.2.2.1) ∧ (y6.2.2.2.2.2.2.2.2.2.1 < (y6.2.2.2.1 : Int)))) then
       bindO (listC (y6.2.2.2.2.1[((Int.toNat y6.2.2.2.2.2.2.2.2.2.1) * 1)]?)) fun x7 =>
       bif (decide (((0 : Int) ≤ (w64 (y6.2.2.2.2.2.2.2.2.2.2.1 - (1 : Int)))) ∧ ((w64 (y6.2.2.2.2.2.2.2.2.2.2.1 - (1 : Int))) < (x7.1 : Int)))) then
        bindO (intC .i64 (x7.2[((Int.toNat (w64 (y6.2.2.2.2.2.2.2.2.2.2.1 - (1 : Int)))) * 2)]?)) fun x8 =>
        bindO (intC .i64 (x7.2[(((Int.toNat (w64 (y6.2.2.2.2.2.2.2.2.2.2.1 - (1 : Int)))) * 2) + 1)]?)) fun x9 =>
        bif (decide (((0 : Int) ≤ x8) ∧ (x8 < (y6.1 : Int)))) then
         bindO (listC (y6.2.1[((Int.toNat x8) * 1)]?)) fun x10 =>
         bindO (F 42 (RSh.one CK.list) [(PV.list x10.1 x10.2)]) fun (y11 : ((Nat) × (List PV))) =>
         bif (decide (((0 : Int) ≤ y6.2.2.2.2.2.2.2.2.2.2.2.1) ∧ (y6.2.2.2.2.2.2.2.2.2.2.2.1 < (y6.1 : Int)))) then
          bindO (listC (y6.2.1[((Int.toNat y6.2.2.2.2.2.2.2.2.2.2.2.1) * 1)]?)) fun x12 =>
          bindO (F 42 (RSh.one CK.list) [(PV.list x12.1 x12.2)]) fun (y13 : ((Nat) × (List PV))) =>
          bindO (F 41 (RSh.tup [(Prod.mk false [CK.list]), (Prod.mk false [(CK.int .i64)])]) [(PV.list y11.1 y11.2), (PV.list y13.1 y13.2), (PV.int .i64 y6.2.2.1)]) fun (y14 : (((Nat) × (List PV)) × (Int))) =>
          bif (decide (((0 : Int) ≤ x8) ∧ (x8 < (y6.1 : Int)))) then
           bindO (listC (y6.2.1[((Int.toNat x8) * 1)]?)) fun x15 =>
           bif (decide (((0 : Int) ≤ x9) ∧ (x9 < (x15.1 : Int)))) then
            bindO (intC .i64 (x15.2[((Int.toNat x9) * 3)]?)) fun x16 =>
            bindO (intC .i64 (x15.2[(((Int.toNat x9) * 3) + 1)]?)) fun x17 =>
            bindO (intC .i64 (x15.2[((((Int.toNat x9) * 3) + 1) + 1)]?)) fun x18 =>
            bif (decide (((0 : Int) ≤ y6.2.2.2.2.2.2.2.2.2.2.2.1) ∧ (y6.2.2.2.2.2.2.2.2.2.2.2.1 < (y6.1 : Int)))) then
             bindO (listC (y6.2.1[((Int.toNat y6.2.2.2.2.2.2.2.2.2.2.2.1) * 1)]?)) fun x19 =>
             bif (decide (((0 : Int) ≤ y6.2.2.2.2.2.2.2.2.2.2.2.2.1) ∧ (y6.2.2.2.2.2.2.2.2.2.2.2.2.1 < (x19.1 : Int)))) then
              bindO (intC .i64 (x19.2[((Int.toNat y6.2.2.2.2.2.2.2.2.2.2.2.2.1) * 3)]?)) fun x20 =>
              bindO (intC .i64 (x19.2[(((Int.toNat y6.2.2.2.2.2.2.2.2.2.2.2.2.1) * 3) + 1)]?)) fun x21 =>
              bindO (intC .i64 (x19.2[((((Int.toNat y6.2.2.2.2.2.2.2.2.2.2.2.2.1) * 3) + 1) + 1)]?)) fun x22 =>
              bindO (F 43 (RSh.one (CK.int .i64)) [(PV.agg [(PV.int .i64 x16), (PV.int .i64 x17), (PV.int .i64 x18)]), (PV.agg [(PV.int .i64 x20), (PV.int .i64 x21), (PV.int .i64 x22)])]) fun (y23 : (Int)) =>
              bif (y14.2 != (0 : Int)) then
               E (Xlaw6_z48a ())
              else bif (decide (((0 : Int) ≤ x8) ∧ (x8 < (y6.1 : Int)))) then
               bindO (listC (y6.2.1[((Int.toNat x8) * 1)]?)) fun x24 =>
               bif ((y14.1.1 : Int) != (x24.1 : Int)) then
                E (Xlaw6_z48a ())
               else bif (decide (((0 : Int) ≤ x9) ∧ (x9 < (y14.1.1 : Int)))) then
                bindO (intC .i64 (y14.1.2[((Int.toNat x9) * 1)]?)) fun x25 =>
                bif (x25 != y6.2.2.2.2.2.2.2.2.2.2.2.2.1) then
                 E (Xlaw6_z48a ())
                else bif (decide (y23 > (w64 ((2 : Int) * y6.2.2.1)))) then
                 E (Xlaw6_z48a ())
                else E (Xlaw6_z48b (y6.1, y6.2.1, y6.2.2.1, y6.2.2.2.1, y6.2.2.2.2.1, (w64 (y6.2.2.2.2.2.1 + (1 : Int))), y6.2.2.2.2.2.2.1, (y6.2.2.2.2.2.2.2.1 + 1), (y6.2.2.2.2.2.2.2.2.1 ++ [(PV.int .i64 y6.2.2.2.2.2.2.2.2.2.2.2.1), (PV.int .i64 y6.2.2.2.2.2.2.2.2.2.2.2.2.1)]), y6.2.2.2.2.2.2.2.2.2.1, y6.2.2.2.2.2.2.2.2.2.2.1, (y6.2.2.2.2.2.2.2.1 + 1)))
               else none
              else none
             else none
            else none
           else none
          else none
         else none
        else none
       else none
      else none
     else none) z0) z) (fun z0 => Sum.elim (fun _y26 =>
    E (Xlaw6_z48a ())) (fun y27 =>
    bindO (L6 (Tlaw6_6b y27.1 y27.2.1 y27.2.2.1 y27.2.2.2.1 y27.2.2.2.2.1 y27.2.2.2.2.2.1 y27.2.2.2.2.2.2.1 y27.2.2.2.2.2.2.2.1 y27.2.2.2.2.2.2.2.2.1 y27.2.2.2.2.2.2.2.2.2.1 y27.2.2.2.2.2.2.2.2.2.2.1 (0 : Int) y27.2.2.2.2.2.2.2.2.2.2.2.1 y27.2.2.2.2.2.2.2.2.2.2.2.2.1 y27.2.2.2.2.2.2.2.2.2.2.2.2.2)) fun z =>
    Sum.elim (fun y28 =>
     E (Xlaw6_z48b (y28.1, y28.2.1, y28.2.2.1, y28.2.2.2.1, y28.2.2.2.2.1, (1 : Int), y28.2.2.2.2.2.1, 1, [(PV.int .i64 y28.2.2.2.2.2.2.2.1), (PV.int .i64 y28.2.2.2.2.2.2.2.2)], y28.2.2.2.2.2.2.1, (0 : Int), 1))) (fun z0 => Sum.elim (fun _y29 =>
     E (Xlaw6_z48a ())) (fun y30 =>
     bif (decide ((y30.2.2.2.2.2.2.2.2.2.2.2.2.2 = y30.2.2.2.2.2.2.2.1) ∧ ((y30.2.2.2.2.2.2.2.1 + 1) ≤ big))) then
      bif (y30.2.2.2.2.2.2.2.2.2.2.1 == (0 : Int)) then
       E (Xlaw6_z48b (y30.1, y30.2.1, y30.2.2.1, y30.2.2.2.1, y30.2.2.2.2.1, (w64 (y30.2.2.2.2.2.1 + (1 : Int))), y30.2.2.2.2.2.2.1, (y30.2.2.2.2.2.2.2.1 + 1), (y30.2.2.2.2.2.2.2.2.1 ++ [(PV.int .i64 y30.2.2.2.2.2.2.2.2.2.2.2.1), (PV.int .i64 y30.2.2.2.2.2.2.2.2.2.2.2.2.1)]), y30.2.2.2.2.2.2.2.2.2.1, y30.2.2.2.2.2.2.2.2.2.2.1, (y30.2.2.2.2.2.2.2.1 + 1)))
      else bif (decide (((0 : Int) ≤ y30.2.2.2.2.2.2.2.2.2.1) ∧ (y30.2.2.2.2.2.2.2.2.2.1 < (y30.2.2.2.1 : Int)))) then
       bindO (listC (y30.2.2.2.2.1[((Int.toNat y30.2.2.2.2.2.2.2.2.2.1) * 1)]?)) fun x31 =>
       bif (decide (((0 : Int) ≤ (w64 (y30.2.2.2.2.2.2.2.2.2.2.1 - (1 : Int)))) ∧ ((w64 (y30.2.2.2.2.2.2.2.2.2.2.1 - (1 : Int))) < (x31.1 : Int)))) then
        bindO (intC .i64 (x31.2[((Int.toNat (w64 (y30.2.2.2.2.2.2.2.2.2.2.1 - (1 : Int)))) * 2)]?)) fun x32 =>
        bindO (intC .i64 (x31.2[(((Int.toNat (w64 (y30.2.2.2.2.2.2.2.2.2.2.1 - (1 : Int)))) * 2) + 1)]?)) fun x33 =>
        bif (decide (((0 : Int) ≤ x32) ∧ (x32 < (y30.1 : Int)))) then
         bindO (listC (y30.2.1[((Int.toNat x32) * 1)]?)) fun x34 =>
         bindO (F 42 (RSh.one CK.list) [(PV.list x34.1 x34.2)]) fun (y35 : ((Nat) × (List PV))) =>
         bif (decide (((0 : Int) ≤ y30.2.2.2.2.2.2.2.2.2.2.2.1) ∧ (y30.2.2.2.2.2.2.2.2.2.2.2.1 < (y30.1 : Int)))) then
          bindO (listC (y30.2.1[((Int.toNat y30.2.2.2.2.2.2.2.2.2.2.2.1) * 1)]?)) fun x36 =>
          bindO (F 42 (RSh.one CK.list) [(PV.list x36.1 x36.2)]) fun (y37 : ((Nat) × (List PV))) =>
          bindO (F 41 (RSh.tup [(Prod.mk false [CK.list]), (Prod.mk false [(CK.int .i64)])]) [(PV.list y35.1 y35.2), (PV.list y37.1 y37.2), (PV.int .i64 y30.2.2.1)]) fun (y38 : (((Nat) × (List PV)) × (Int))) =>
          bif (decide (((0 : Int) ≤ x32) ∧ (x32 < (y30.1 : Int)))) then
           bindO (listC (y30.2.1[((Int.toNat x32) * 1)]?)) fun x39 =>
           bif (decide (((0 : Int) ≤ x33) ∧ (x33 < (x39.1 : Int)))) then
            bindO (intC .i64 (x39.2[((Int.toNat x33) * 3)]?)) fun x40 =>
            bindO (intC .i64 (x39.2[(((Int.toNat x33) * 3) + 1)]?)) fun x41 =>
            bindO (intC .i64 (x39.2[((((Int.toNat x33) * 3) + 1) + 1)]?)) fun x42 =>
            bif (decide (((0 : Int) ≤ y30.2.2.2.2.2.2.2.2.2.2.2.1) ∧ (y30.2.2.2.2.2.2.2.2.2.2.2.1 < (y30.1 : Int)))) then
             bindO (listC (y30.2.1[((Int.toNat y30.2.2.2.2.2.2.2.2.2.2.2.1) * 1)]?)) fun x43 =>
             bif (decide (((0 : Int) ≤ y30.2.2.2.2.2.2.2.2.2.2.2.2.1) ∧ (y30.2.2.2.2.2.2.2.2.2.2.2.2.1 < (x43.1 : Int)))) then
              bindO (intC .i64 (x43.2[((Int.toNat y30.2.2.2.2.2.2.2.2.2.2.2.2.1) * 3)]?)) fun x44 =>
              bindO (intC .i64 (x43.2[(((Int.toNat y30.2.2.2.2.2.2.2.2.2.2.2.2.1) * 3) + 1)]?)) fun x45 =>
              bindO (intC .i64 (x43.2[((((Int.toNat y30.2.2.2.2.2.2.2.2.2.2.2.2.1) * 3) + 1) + 1)]?)) fun x46 =>
              bindO (F 43 (RSh.one (CK.int .i64)) [(PV.agg [(PV.int .i64 x40), (PV.int .i64 x41), (PV.int .i64 x42)]), (PV.agg [(PV.int .i64 x44), (PV.int .i64 x45), (PV.int .i64 x46)])]) fun (y47 : (Int)) =>
              bif (y38.2 != (0 : Int)) then
               E (Xlaw6_z48a ())
              else bif (decide (((0 : Int) ≤ x32) ∧ (x32 < (y30.1 : Int)))) then
               bindO (listC (y30.2.1[((Int.toNat x32) * 1)]?)) fun x48 =>
               bif ((y38.1.1 : Int) != (x48.1 : Int)) then
                E (Xlaw6_z48a ())
               else bif (decide (((0 : Int) ≤ x33) ∧ (x33 < (y38.1.1 : Int)))) then
                bindO (intC .i64 (y38.1.2[((Int.toNat x33) * 1)]?)) fun x49 =>
                bif (x49 != y30.2.2.2.2.2.2.2.2.2.2.2.2.1) then
                 E (Xlaw6_z48a ())
                else bif (decide (y47 > (w64 ((2 : Int) * y30.2.2.1)))) then
                 E (Xlaw6_z48a ())
                else E (Xlaw6_z48b (y30.1, y30.2.1, y30.2.2.1, y30.2.2.2.1, y30.2.2.2.2.1, (w64 (y30.2.2.2.2.2.1 + (1 : Int))), y30.2.2.2.2.2.2.1, (y30.2.2.2.2.2.2.2.1 + 1), (y30.2.2.2.2.2.2.2.2.1 ++ [(PV.int .i64 y30.2.2.2.2.2.2.2.2.2.2.2.1), (PV.int .i64 y30.2.2.2.2.2.2.2.2.2.2.2.2.1)]), y30.2.2.2.2.2.2.2.2.2.1, y30.2.2.2.2.2.2.2.2.2.2.1, (y30.2.2.2.2.2.2.2.1 + 1)))
               else none
              else none
             else none
            else none
           else none
          else none
         else none
        else none
       else none
      else none
     else none) z0) z) z0) z
  else none
 else none
theorem Blaw6_z48b_eq (F : FnT) (N : QO) (E : EO) (L0 : QQ Ylaw6_0) (L2 : QQ Ylaw6_2) (L4 : QQ Ylaw6_4) (L6 : QQ Ylaw6_6) (L1000109 : QQ Ylaw6_1000109) (Lz66 : QQ Ylaw6_z66) (Lz63 : QQ Ylaw6_z63) (Lz48 : QQ Ylaw6_z48) (Lz43 : QQ Ylaw6_z43) (n0 : Nat) (c1 : List PV) (i2 : Int) (n3 : Nat) (c4 : List PV) (i5 i6 : Int) (n7 : Nat) (c8 : List PV) (i9 i10 : Int) (n11 : Nat) : semN (callP F Elaw6 20) s6 (loopT (qBL6_1 L0 L2 L4 L6 L1000109 Lz66 Lz63 Lz48 Lz43)) 400 (blkIn a6.body 1000048) E (Tlaw6_z48b n0 c1 i2 n3 c4 i5 i6 n7 c8 i9 i10 n11) = Blaw6_z48b F N E L0 L2 L4 L6 L1000109 Lz66 Lz63 Lz48 Lz43 n0 c1 i2 n3 c4 i5 i6 n7 c8 i9 i10 n11 := by kernel_rfl
theorem Rlaw6_z48b_of  (n0 : Nat) (c1 : List PV) (i2 : Int) (n3 : Nat) (c4 : List PV) (i5 i6 : Int) (n7 : Nat) (c8 : List PV) (i9 i10 : Int) (n11 : Nat) {r : Ext × S} (h : Blaw6_z48b (Fn env) Rlaw6_z48 exO Llaw6_0 Llaw6_2 Llaw6_4 Llaw6_6 Llaw6_1000109 Llaw6_z66 Llaw6_z63 Llaw6_z48 Llaw6_z43 n0 c1 i2 n3 c4 i5 i6 n7 c8 i9 i10 n11 = some r) : Rlaw6_z48 (Tlaw6_z48b n0 c1 i2 n3 c4 i5 i6 n7 c8 i9 i10 n11) = some r :=
 nd_of Elaw6_ok (by kernel_rfl) oqBL6_1 (by kernel_rfl) ((Blaw6_z48b_eq _ Rlaw6_z48 _ _ _ _ _ _ _ _ _ _ _ _ _ _ _ _ _ _ _ _ _ _).trans h)
def Blaw6_z43a (F : FnT) (_N : QO) (E : EO) (_L0 : QQ Ylaw6_0) (_L2 : QQ Ylaw6_2) (_L4 : QQ Ylaw6_4) (_L6 : QQ Ylaw6_6) (_L1000109 : QQ Ylaw6_1000109) (_L1000066 : QQ Ylaw6_z66) (_L1000063 : QQ Ylaw6_z63) (_L1000048 : QQ Ylaw6_z48) (_L1000043 : QQ Ylaw6_z43) (n0 : Nat) (c1 : List PV) (i2 : Int) (n3 : Nat) (c4 : List PV) (i5 i6 i7 i8 : Int) : OX :=
 bindO (F 23 (RSh.one CK.bool) [(PV.int .i64 i7), (PV.int .i64 (0 : Int)), (PV.int .i64 (w64 ((n0 : Int) - (1 : Int))))]) fun (y0 : (Bool)) =>
 bif y0 then
  bif (decide (((0 : Int) ≤ i7) ∧ (i7 < (n0 : Int)))) then
   bindO (listC (c1[((Int.toNat i7) * 1)]?)) fun x1 =>
   bindO (F 23 (RSh.one CK.bool) [(PV.int .i64 i8), (PV.int .i64 (0 : Int)), (PV.int .i64 (w64 ((x1.1 : Int) - (1 : Int))))]) fun (y2 : (Bool)) =>
   bif y2 then
    E (Xlaw6_z43a (n0, c1, i2, n3, c4, i5, i6, i7, i8))
   else E (Xlaw6_z43b ())
  else none
 else E (Xlaw6_z43b ())
theorem Blaw6_z43a_eq (F : FnT) (N : QO) (E : EO) (L0 : QQ Ylaw6_0) (L2 : QQ Ylaw6_2) (L4 : QQ Ylaw6_4) (L6 : QQ Ylaw6_6) (L1000109 : QQ Ylaw6_1000109) (Lz66 : QQ Ylaw6_z66) (Lz63 : QQ Ylaw6_z63) (Lz48 : QQ Ylaw6_z48) (Lz43 : QQ Ylaw6_z43) (n0 : Nat) (c1 : List PV) (i2 : Int) (n3 : Nat) (c4 : List PV) (i5 i6 i7 i8 : Int) : semN (callP F Elaw6 20) s6 (loopT (qBL6_1 L0 L2 L4 L6 L1000109 Lz66 Lz63 Lz48 Lz43)) 400 (blkIn a6.body 1000043) E (Tlaw6_z43a n0 c1 i2 n3 c4 i5 i6 i7 i8) = Blaw6_z43a F N E L0 L2 L4 L6 L1000109 Lz66 Lz63 Lz48 Lz43 n0 c1 i2 n3 c4 i5 i6 i7 i8 := by kernel_rfl
theorem Rlaw6_z43a_of  (n0 : Nat) (c1 : List PV) (i2 : Int) (n3 : Nat) (c4 : List PV) (i5 i6 i7 i8 : Int) {r : Ext × S} (h : Blaw6_z43a (Fn env) Rlaw6_z43 exO Llaw6_0 Llaw6_2 Llaw6_4 Llaw6_6 Llaw6_1000109 Llaw6_z66 Llaw6_z63 Llaw6_z48 Llaw6_z43 n0 c1 i2 n3 c4 i5 i6 i7 i8 = some r) : Rlaw6_z43 (Tlaw6_z43a n0 c1 i2 n3 c4 i5 i6 i7 i8) = some r :=
 nd_of Elaw6_ok (by kernel_rfl) oqBL6_1 (by kernel_rfl) ((Blaw6_z43a_eq _ Rlaw6_z43 _ _ _ _ _ _ _ _ _ _ _ _ _ _ _ _ _ _ _).trans h)
def Blaw6_z43b (F : FnT) (_N : QO) (E : EO) (_L0 : QQ Ylaw6_0) (_L2 : QQ Ylaw6_2) (_L4 : QQ Ylaw6_4) (_L6 : QQ Ylaw6_6) (_L1000109 : QQ Ylaw6_1000109) (_L1000066 : QQ Ylaw6_z66) (_L1000063 : QQ Ylaw6_z63) (_L1000048 : QQ Ylaw6_z48) (_L1000043 : QQ Ylaw6_z43) (n0 : Nat) (c1 : List PV) (i2 : Int) (n3 : Nat) (c4 : List PV) (i5 i6 : Int) (n7 : Nat) (c8 : List PV) (i9 i10 i11 i12 : Int) (n13 : Nat) : OX :=
 bindO (F 23 (RSh.one CK.bool) [(PV.int .i64 i11), (PV.int .i64 (0 : Int)), (PV.int .i64 (w64 ((n0 : Int) - (1 : Int))))]) fun (y0 : (Bool)) =>
 bif y0 then
  bif (decide (((0 : Int) ≤ i11) ∧ (i11 < (n0 : Int)))) then
   bindO (listC (c1[((Int.toNat i11) * 1)]?)) fun x1 =>
   bindO (F 23 (RSh.one CK.bool) [(PV.int .i64 i12), (PV.int .i64 (0 : Int)), (PV.int .i64 (w64 ((x1.1 : Int) - (1 : Int))))]) fun (y2 : (Bool)) =>
   bif y2 then
    bif (decide (i10 > (0 : Int))) then
     bif (decide (((0 : Int) ≤ i9) ∧ (i9 < (n3 : Int)))) then
      bindO (listC (c4[((Int.toNat i9) * 1)]?)) fun x3 =>
      bif (decide (((0 : Int) ≤ (w64 (i10 - (1 : Int)))) ∧ ((w64 (i10 - (1 : Int))) < (x3.1 : Int)))) then
       bindO (intC .i64 (x3.2[(((Int.toNat (w64 (i10 - (1 : Int)))) * 2) + 0)]?)) fun x4 =>
       bif (i11 != (w64 (x4 + (1 : Int)))) then
        E (Xlaw6_z43b ())
       else E (Xlaw6_z43c (n0, c1, i2, n3, c4, i5, i6, n7, c8, i9, i10, i11, i12, n13))
      else none
     else none
    else E (Xlaw6_z43c (n0, c1, i2, n3, c4, i5, i6, n7, c8, i9, i10, i11, i12, n13))
   else E (Xlaw6_z43b ())
  else none
 else E (Xlaw6_z43b ())
theorem Blaw6_z43b_eq (F : FnT) (N : QO) (E : EO) (L0 : QQ Ylaw6_0) (L2 : QQ Ylaw6_2) (L4 : QQ Ylaw6_4) (L6 : QQ Ylaw6_6) (L1000109 : QQ Ylaw6_1000109) (Lz66 : QQ Ylaw6_z66) (Lz63 : QQ Ylaw6_z63) (Lz48 : QQ Ylaw6_z48) (Lz43 : QQ Ylaw6_z43) (n0 : Nat) (c1 : List PV) (i2 : Int) (n3 : Nat) (c4 : List PV) (i5 i6 : Int) (n7 : Nat) (c8 : List PV) (i9 i10 i11 i12 : Int) (n13 : Nat) : semN (callP F Elaw6 20) s6 (loopT (qBL6_1 L0 L2 L4 L6 L1000109 Lz66 Lz63 Lz48 Lz43)) 400 (blkIn a6.body 1000043) E (Tlaw6_z43b n0 c1 i2 n3 c4 i5 i6 n7 c8 i9 i10 i11 i12 n13) = Blaw6_z43b F N E L0 L2 L4 L6 L1000109 Lz66 Lz63 Lz48 Lz43 n0 c1 i2 n3 c4 i5 i6 n7 c8 i9 i10 i11 i12 n13 := by kernel_rfl
theorem Rlaw6_z43b_of  (n0 : Nat) (c1 : List PV) (i2 : Int) (n3 : Nat) (c4 : List PV) (i5 i6 : Int) (n7 : Nat) (c8 : List PV) (i9 i10 i11 i12 : Int) (n13 : Nat) {r : Ext × S} (h : Blaw6_z43b (Fn env) Rlaw6_z43 exO Llaw6_0 Llaw6_2 Llaw6_4 Llaw6_6 Llaw6_1000109 Llaw6_z66 Llaw6_z63 Llaw6_z48 Llaw6_z43 n0 c1 i2 n3 c4 i5 i6 n7 c8 i9 i10 i11 i12 n13 = some r) : Rlaw6_z43 (Tlaw6_z43b n0 c1 i2 n3 c4 i5 i6 n7 c8 i9 i10 i11 i12 n13) = some r :=
 nd_of Elaw6_ok (by kernel_rfl) oqBL6_1 (by kernel_rfl) ((Blaw6_z43b_eq _ Rlaw6_z43 _ _ _ _ _ _ _ _ _ _ _ _ _ _ _ _ _ _ _ _ _ _ _ _).trans h)
def tlaw6 (F : FnT) (L0 : QQ Ylaw6_0) (L2 : QQ Ylaw6_2) (_L4 : QQ Ylaw6_4) (_L6 : QQ Ylaw6_6) (L1000109 : QQ Ylaw6_1000109) (_L1000066 : QQ Ylaw6_z66) (_L1000063 : QQ Ylaw6_z63) (_L1000048 : QQ Ylaw6_z48) (_L1000043 : QQ Ylaw6_z43) (p0n : Nat) (p0c : List PV) (p1 : Int) : Option (Bool) :=
 bindO (F 12 (RSh.one CK.bool) []) fun (y0 : (Bool)) =>
 bif y0 then
  bindO (L1000109 (Tlaw6_1000109a p0n p0c p1)) fun z =>
  Sum.elim (fun _y1 =>
   some true) (fun y2 =>
   bindO (F 40 (RSh.one CK.list) [(PV.list y2.1 y2.2.1)]) fun (y3 : ((Nat) × (List PV))) =>
   bindO (F 39 (RSh.tup [(Prod.mk false [CK.list]), (Prod.mk false [(CK.int .i64)])]) [(PV.list y3.1 y3.2), (PV.int .i64 y2.2.2)]) fun (y4 : (((Nat) × (List PV)) × (Int))) =>
   bif (y4.2 != (0 : Int)) then
    some false
   else bindO (L0 (Tlaw6_0a y2.1 y2.2.1 y2.2.2 y4.1.1 y4.1.2 (0 : Int) (0 : Int))) fun y5 =>
   bindO (L2 (Tlaw6_2a y5.1 y5.2.1 y5.2.2.1 y5.2.2.2.1 y5.2.2.2.2.1 y5.2.2.2.2.2 (0 : Int))) fun z =>
   Sum.elim (fun y6 =>
    bif (y6.1 == y6.2) then
     some true
    else some false) (fun _y7 =>
    some false) z) z
 else some false
theorem tlaw6_eq (F : FnT) (L0 : QQ Ylaw6_0) (L2 : QQ Ylaw6_2) (L4 : QQ Ylaw6_4) (L6 : QQ Ylaw6_6) (L1000109 : QQ Ylaw6_1000109) (Lz66 : QQ Ylaw6_z66) (Lz63 : QQ Ylaw6_z63) (Lz48 : QQ Ylaw6_z48) (Lz43 : QQ Ylaw6_z43) (p0n : Nat) (p0c : List PV) (p1 : Int) : semF (callP F Elaw6 20) s6 (loopT (qBL6_1 L0 L2 L4 L6 L1000109 Lz66 Lz63 Lz48 Lz43)) 400 a6 [PV.list p0n p0c, PV.int .i64 p1] (fun rv => decR (RSh.one CK.bool) rv.pv) = tlaw6 F L0 L2 L4 L6 L1000109 Lz66 Lz63 Lz48 Lz43 p0n p0c p1 := by kernel_rfl
noncomputable abbrev Flaw6 (args : List PV) := Fn env 6 (RSh.one CK.bool) args
theorem Flaw6_of  (p0n : Nat) (p0c : List PV) (p1 : Int) {res : (Bool)} (h : tlaw6 (Fn env) Llaw6_0 Llaw6_2 Llaw6_4 Llaw6_6 Llaw6_1000109 Llaw6_z66 Llaw6_z63 Llaw6_z48 Llaw6_z43 p0n p0c p1 = some res) : Flaw6 [PV.list p0n p0c, PV.int .i64 p1] = some res :=
 fn_of Elaw6_ok rfl rfl oqBL6_1 ((tlaw6_eq _ _ _ _ _ _ _ _ _ _ _ _ _).trans h)
end Gv
