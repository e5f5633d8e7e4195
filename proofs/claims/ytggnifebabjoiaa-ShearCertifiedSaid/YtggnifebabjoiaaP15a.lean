/- What the functions do, round by round: P15. -/
import Derived.Test.YtggnifebabjoiaaGvEnv
namespace Gv
open Go
set_option maxRecDepth 100000
def Elaw5 : List Entry := [.inl 22 a22 s22, .out 13 (RSh.one CK.bool), .out 20 (RSh.one CK.bool), .out 37 (RSh.one (CK.int .i64)), .out 34 (RSh.one (CK.int .i64)), .out 31 (RSh.one (CK.int .i64)), .out 24 (RSh.tup [(Prod.mk true [(CK.int .i64), (CK.int .i64), (CK.int .i64), (CK.int .i64)]), (Prod.mk false [(CK.int .i64)])]), .out 26 (RSh.tup [(Prod.mk false [(CK.int .i64)]), (Prod.mk false [(CK.int .i64)])]), .out 29 (RSh.one CK.bool), .out 18 (RSh.one (CK.int .i64)), .out 25 (RSh.tup [(Prod.mk true [(CK.int .i64), (CK.int .i64), (CK.int .i64), (CK.int .i64)]), (Prod.mk false [(CK.int .i64)])]), .out 27 (RSh.tup [(Prod.mk false [CK.list]), (Prod.mk false [(CK.int .i64)])])]
theorem Elaw5_ok : ∀ e ∈ Elaw5, EntOK env e := (ent_inl rfl (ent_out (ent_out (ent_out (ent_out (ent_out (ent_out (ent_out (ent_out (ent_out (ent_out (ent_out ent_nil))))))))))))
def Tlaw5_0a (n0 : Nat) (c1 : List PV) (n2 : Nat) (c3 : List PV) (i4 i5 i6 : Int) (n7 n8 n9 : Nat) (i10 i11 i12 i13 : Int) (n14 : Nat) (c15 : List PV) (n16 : Nat) (c17 : List PV) (n18 : Nat) (c19 : List PV) : Q := ⟨(tm 444 [(0, (AV.p (PV.list n0 c1))), (1, (AV.p (PV.list n2 c3))), (7, (AV.p (PV.int .i64 i4))), (8, (AV.p (PV.int .i64 i5))), (9, (AV.loc 9 0)), (11, (AV.p (PV.int .i64 i6))), (13, AV.nilS), (14, (AV.vap 117 n7 3)), (15, (AV.vap 119 n8 3)), (16, (AV.vap 121 n9 3)), (17, (AV.p (PV.int .i64 (0 : Int))))]), (mm 444 [(9, (Bk.pcs true [(PV.int .i64 i10), (PV.int .i64 i11), (PV.int .i64 i12), (PV.int .i64 i13)])), (117, (Bk.vec true n14 3 c15)), (119, (Bk.vec true n16 3 c17)), (121, (Bk.vec true n18 3 c19))])⟩
def Tlaw5_0b (n0 : Nat) (c1 : List PV) (n2 : Nat) (c3 : List PV) (i4 i5 i6 : Int) (n7 : Nat) (c8 : List PV) (n9 n10 n11 : Nat) (i12 i13 i14 i15 i16 : Int) (n17 : Nat) (c18 : List PV) (n19 : Nat) (c20 : List PV) (n21 : Nat) (c22 : List PV) (n23 : Nat) : Q := ⟨(tm 444 [(0, (AV.p (PV.list n0 c1))), (1, (AV.p (PV.list n2 c3))), (7, (AV.p (PV.int .i64 i4))), (8, (AV.p (PV.int .i64 i5))), (9, (AV.loc 9 0)), (11, (AV.p (PV.int .i64 i6))), (13, (AV.app 161 n7 1 c8)), (14, (AV.vap 117 n9 3)), (15, (AV.vap 119 n10 3)), (16, (AV.vap 121 n11 3)), (17, (AV.p (PV.int .i64 i12)))]), (mm 444 [(9, (Bk.pcs true [(PV.int .i64 i13), (PV.int .i64 i14), (PV.int .i64 i15), (PV.int .i64 i16)])), (117, (Bk.vec true n17 3 c18)), (119, (Bk.vec true n19 3 c20)), (121, (Bk.vec true n21 3 c22)), (161, (Bk.buf n23))])⟩
def Xlaw5_0a (y : Nat × List PV × Int × Int × Int × Nat × Nat × Nat × Int × Int × Int × Int × Nat × List PV × Nat × List PV × Nat × List PV) : Ext × Q := (Ext.normal, ⟨(tm 444 [(0, (AV.p (PV.list y.1 y.2.1))), (7, (AV.p (PV.int .i64 y.2.2.1))), (8, (AV.p (PV.int .i64 y.2.2.2.1))), (9, (AV.loc 9 0)), (11, (AV.p (PV.int .i64 y.2.2.2.2.1))), (13, AV.nilS), (14, (AV.vap 117 y.2.2.2.2.2.1 3)), (15, (AV.vap 119 y.2.2.2.2.2.2.1 3)), (16, (AV.vap 121 y.2.2.2.2.2.2.2.1 3))]), (mm 444 [(9, (Bk.pcs true [(PV.int .i64 y.2.2.2.2.2.2.2.2.1), (PV.int .i64 y.2.2.2.2.2.2.2.2.2.1), (PV.int .i64 y.2.2.2.2.2.2.2.2.2.2.1), (PV.int .i64 y.2.2.2.2.2.2.2.2.2.2.2.1)])), (117, (Bk.vec true y.2.2.2.2.2.2.2.2.2.2.2.2.1 3 y.2.2.2.2.2.2.2.2.2.2.2.2.2.1)), (119, (Bk.vec true y.2.2.2.2.2.2.2.2.2.2.2.2.2.2.1 3 y.2.2.2.2.2.2.2.2.2.2.2.2.2.2.2.1)), (121, (Bk.vec true y.2.2.2.2.2.2.2.2.2.2.2.2.2.2.2.2.1 3 y.2.2.2.2.2.2.2.2.2.2.2.2.2.2.2.2.2))])⟩)
def Ilaw5_0a (q : Ext × S) : Nat × List PV × Int × Int × Int × Nat × Nat × Nat × Int × Int × Int × Int × Nat × List PV × Nat × List PV × Nat × List PV := ((pP_list0 (pA_p (avT q.2 0))), (pP_list1 (pA_p (avT q.2 0))), (pP_int1 (pA_p (avT q.2 7))), (pP_int1 (pA_p (avT q.2 8))), (pP_int1 (pA_p (avT q.2 11))), (pA_vap1 (avT q.2 14)), (pA_vap1 (avT q.2 15)), (pA_vap1 (avT q.2 16)), (pP_int1 (hdP (pB_pcs1 (avM q.2 9)))), (pP_int1 (hdP (List.tail (pB_pcs1 (avM q.2 9))))), (pP_int1 (hdP (List.tail (List.tail (pB_pcs1 (avM q.2 9)))))), (pP_int1 (hdP (List.tail (List.tail (List.tail (pB_pcs1 (avM q.2 9))))))), (pB_vec1 (avM q.2 117)), (pB_vec3 (avM q.2 117)), (pB_vec1 (avM q.2 119)), (pB_vec3 (avM q.2 119)), (pB_vec1 (avM q.2 121)), (pB_vec3 (avM q.2 121)))
def Xlaw5_0b (y : Nat × List PV × Int × Int × Int × Nat × List PV × Nat × Nat × Nat × Int × Int × Int × Int × Nat × List PV × Nat × List PV × Nat × List PV × Nat) : Ext × Q := (Ext.normal, ⟨(tm 444 [(0, (AV.p (PV.list y.1 y.2.1))), (7, (AV.p (PV.int .i64 y.2.2.1))), (8, (AV.p (PV.int .i64 y.2.2.2.1))), (9, (AV.loc 9 0)), (11, (AV.p (PV.int .i64 y.2.2.2.2.1))), (13, (AV.app 161 y.2.2.2.2.2.1 1 y.2.2.2.2.2.2.1)), (14, (AV.vap 117 y.2.2.2.2.2.2.2.1 3)), (15, (AV.vap 119 y.2.2.2.2.2.2.2.2.1 3)), (16, (AV.vap 121 y.2.2.2.2.2.2.2.2.2.1 3))]), (mm 444 [(9, (Bk.pcs true [(PV.int .i64 y.2.2.2.2.2.2.2.2.2.2.1), (PV.int .i64 y.2.2.2.2.2.2.2.2.2.2.2.1), (PV.int .i64 y.2.2.2.2.2.2.2.2.2.2.2.2.1), (PV.int .i64 y.2.2.2.2.2.2.2.2.2.2.2.2.2.1)])), (117, (Bk.vec true y.2.2.2.2.2.2.2.2.2.2.2.2.2.2.1 3 y.2.2.2.2.2.2.2.2.2.2.2.2.2.2.2.1)), (119, (Bk.vec true y.2.2.2.2.2.2.2.2.2.2.2.2.2.2.2.2.1 3 y.2.2.2.2.2.2.2.2.2.2.2.2.2.2.2.2.2.1)), (121, (Bk.vec true y.2.2.2.2.2.2.2.2.2.2.2.2.2.2.2.2.2.2.1 3 y.2.2.2.2.2.2.2.2.2.2.2.2.2.2.2.2.2.2.2.1)), (161, (Bk.buf y.2.2.2.2.2.2.2.2.2.2.2.2.2.2.2.2.2.2.2.2))])⟩)
def Ilaw5_0b (q : Ext × S) : Nat × List PV × Int × Int × Int × Nat × List PV × Nat × Nat × Nat × Int × Int × Int × Int × Nat × List PV × Nat × List PV × Nat × List PV × Nat := ((pP_list0 (pA_p (avT q.2 0))), (pP_list1 (pA_p (avT q.2 0))), (pP_int1 (pA_p (avT q.2 7))), (pP_int1 (pA_p (avT q.2 8))), (pP_int1 (pA_p (avT q.2 11))), (pA_app1 (avT q.2 13)), (pA_app3 (avT q.2 13)), (pA_vap1 (avT q.2 14)), (pA_vap1 (avT q.2 15)), (pA_vap1 (avT q.2 16)), (pP_int1 (hdP (pB_pcs1 (avM q.2 9)))), (pP_int1 (hdP (List.tail (pB_pcs1 (avM q.2 9))))), (pP_int1 (hdP (List.tail (List.tail (pB_pcs1 (avM q.2 9)))))), (pP_int1 (hdP (List.tail (List.tail (List.tail (pB_pcs1 (avM q.2 9))))))), (pB_vec1 (avM q.2 117)), (pB_vec3 (avM q.2 117)), (pB_vec1 (avM q.2 119)), (pB_vec3 (avM q.2 119)), (pB_vec1 (avM q.2 121)), (pB_vec3 (avM q.2 121)), (pB_buf0 (avM q.2 161)))
abbrev Ylaw5_0 : Type := (Nat × List PV × Int × Int × Int × Nat × Nat × Nat × Int × Int × Int × Int × Nat × List PV × Nat × List PV × Nat × List PV) ⊕ ((Nat × List PV × Int × Int × Int × Nat × List PV × Nat × Nat × Nat × Int × Int × Int × Int × Nat × List PV × Nat × List PV × Nat × List PV × Nat))
def XLlaw5_0 : XL Ylaw5_0 := .more Xlaw5_0a (.one Xlaw5_0b)
def Ilaw5_0 (q : Ext × S) : Ylaw5_0 := bif (cA (avT q.2 13) == 1) then (Sum.inl (Ilaw5_0a q)) else (Sum.inr (Ilaw5_0b q))
theorem XIlaw5_0a (y : Nat × List PV × Int × Int × Int × Nat × Nat × Nat × Int × Int × Int × Int × Nat × List PV × Nat × List PV × Nat × List PV) : Ilaw5_0 (xe (Xlaw5_0a y)) = (Sum.inl y) := by kernel_rfl
theorem XIlaw5_0b (y : Nat × List PV × Int × Int × Int × Nat × List PV × Nat × Nat × Nat × Int × Int × Int × Int × Nat × List PV × Nat × List PV × Nat × List PV × Nat) : Ilaw5_0 (xe (Xlaw5_0b y)) = (Sum.inr y) := by kernel_rfl
theorem XIlaw5_0 (y : Ylaw5_0) : Ilaw5_0 (xe (XLlaw5_0.fn y)) = y := (match y with | .inl y => XIlaw5_0a y | .inr y => XIlaw5_0b y)
noncomputable abbrev Llaw5_0 : Q → Option Ylaw5_0 := lpO env a5.body 0 XLlaw5_0
noncomputable abbrev Rlaw5_0 : Q → Option (Ext × S) := lpR env a5.body 0
theorem Llaw5_0b_of {s : Q} {y : Nat × List PV × Int × Int × Int × Nat × List PV × Nat × Nat × Nat × Int × Int × Int × Int × Nat × List PV × Nat × List PV × Nat × List PV × Nat} (h : Rlaw5_0 s = exO (Xlaw5_0b y)) : Llaw5_0 s = some (Sum.inr y) := lpO_of Ilaw5_0 XIlaw5_0 (y := (Sum.inr y)) h
def Tlaw5_2a (n0 : Nat) (c1 : List PV) (i2 i3 i4 : Int) (n5 : Nat) (c6 : List PV) (n7 n8 n9 : Nat) (i10 i11 i12 i13 i14 : Int) (n15 : Nat) (c16 : List PV) (n17 : Nat) (c18 : List PV) (n19 : Nat) (c20 : List PV) (n21 : Nat) : Q := ⟨(tm 444 [(0, (AV.p (PV.list n0 c1))), (7, (AV.p (PV.int .i64 i2))), (8, (AV.p (PV.int .i64 i3))), (9, (AV.loc 9 0)), (11, (AV.p (PV.int .i64 i4))), (13, (AV.app 161 n5 1 c6)), (14, (AV.vap 117 n7 3)), (15, (AV.vap 119 n8 3)), (16, (AV.vap 121 n9 3)), (19, (AV.p (PV.int .i64 i10)))]), (mm 444 [(9, (Bk.pcs true [(PV.int .i64 i11), (PV.int .i64 i12), (PV.int .i64 i13), (PV.int .i64 i14)])), (117, (Bk.vec true n15 3 c16)), (119, (Bk.vec true n17 3 c18)), (121, (Bk.vec true n19 3 c20)), (161, (Bk.buf n21))])⟩
def Xlaw5_2a (y : Nat × List PV × Int × Int × Nat × List PV × Nat × Nat × Nat × Int × Int × Int × Int × Nat × List PV × Nat × List PV × Nat × List PV × Nat) : Ext × Q := (Ext.normal, ⟨(tm 444 [(0, (AV.p (PV.list y.1 y.2.1))), (7, (AV.p (PV.int .i64 y.2.2.1))), (8, (AV.p (PV.int .i64 y.2.2.2.1))), (9, (AV.loc 9 0)), (13, (AV.app 161 y.2.2.2.2.1 1 y.2.2.2.2.2.1)), (14, (AV.vap 117 y.2.2.2.2.2.2.1 3)), (15, (AV.vap 119 y.2.2.2.2.2.2.2.1 3)), (16, (AV.vap 121 y.2.2.2.2.2.2.2.2.1 3))]), (mm 444 [(9, (Bk.pcs true [(PV.int .i64 y.2.2.2.2.2.2.2.2.2.1), (PV.int .i64 y.2.2.2.2.2.2.2.2.2.2.1), (PV.int .i64 y.2.2.2.2.2.2.2.2.2.2.2.1), (PV.int .i64 y.2.2.2.2.2.2.2.2.2.2.2.2.1)])), (117, (Bk.vec true y.2.2.2.2.2.2.2.2.2.2.2.2.2.1 3 y.2.2.2.2.2.2.2.2.2.2.2.2.2.2.1)), (119, (Bk.vec true y.2.2.2.2.2.2.2.2.2.2.2.2.2.2.2.1 3 y.2.2.2.2.2.2.2.2.2.2.2.2.2.2.2.2.1)), (121, (Bk.vec true y.2.2.2.2.2.2.2.2.2.2.2.2.2.2.2.2.2.1 3 y.2.2.2.2.2.2.2.2.2.2.2.2.2.2.2.2.2.2.1)), (161, (Bk.buf y.2.2.2.2.2.2.2.2.2.2.2.2.2.2.2.2.2.2.2))])⟩)
def Ilaw5_2a (q : Ext × S) : Nat × List PV × Int × Int × Nat × List PV × Nat × Nat × Nat × Int × Int × Int × Int × Nat × List PV × Nat × List PV × Nat × List PV × Nat := ((pP_list0 (pA_p (avT q.2 0))), (pP_list1 (pA_p (avT q.2 0))), (pP_int1 (pA_p (avT q.2 7))), (pP_int1 (pA_p (avT q.2 8))), (pA_app1 (avT q.2 13)), (pA_app3 (avT q.2 13)), (pA_vap1 (avT q.2 14)), (pA_vap1 (avT q.2 15)), (pA_vap1 (avT q.2 16)), (pP_int1 (hdP (pB_pcs1 (avM q.2 9)))), (pP_int1 (hdP (List.tail (pB_pcs1 (avM q.2 9))))), (pP_int1 (hdP (List.tail (List.tail (pB_pcs1 (avM q.2 9)))))), (pP_int1 (hdP (List.tail (List.tail (List.tail (pB_pcs1 (avM q.2 9))))))), (pB_vec1 (avM q.2 117)), (pB_vec3 (avM q.2 117)), (pB_vec1 (avM q.2 119)), (pB_vec3 (avM q.2 119)), (pB_vec1 (avM q.2 121)), (pB_vec3 (avM q.2 121)), (pB_buf0 (avM q.2 161)))
def Xlaw5_2b (y : Unit) : Ext × Q := (Ext.ret, ⟨(tm 444 [(6, (AV.p (PV.bool false)))]), (mm 444 [])⟩)
def Ilaw5_2b (q : Ext × S) : Unit := ()
abbrev Ylaw5_2 : Type := (Nat × List PV × Int × Int × Nat × List PV × Nat × Nat × Nat × Int × Int × Int × Int × Nat × List PV × Nat × List PV × Nat × List PV × Nat) ⊕ ((Unit))
def XLlaw5_2 : XL Ylaw5_2 := .more Xlaw5_2a (.one Xlaw5_2b)
def Ilaw5_2 (q : Ext × S) : Ylaw5_2 := bif (cE q.1 == 0) then (Sum.inl (Ilaw5_2a q)) else (Sum.inr (Ilaw5_2b q))
theorem XIlaw5_2a (y : Nat × List PV × Int × Int × Nat × List PV × Nat × Nat × Nat × Int × Int × Int × Int × Nat × List PV × Nat × List PV × Nat × List PV × Nat) : Ilaw5_2 (xe (Xlaw5_2a y)) = (Sum.inl y) := by kernel_rfl
theorem XIlaw5_2b (y : Unit) : Ilaw5_2 (xe (Xlaw5_2b y)) = (Sum.inr y) := by kernel_rfl
theorem XIlaw5_2 (y : Ylaw5_2) : Ilaw5_2 (xe (XLlaw5_2.fn y)) = y := (match y with | .inl y => XIlaw5_2a y | .inr y => XIlaw5_2b y)
noncomputable abbrev Llaw5_2 : Q → Option Ylaw5_2 := lpO env a5.body 2 XLlaw5_2
noncomputable abbrev Rlaw5_2 : Q → Option (Ext × S) := lpR env a5.body 2
theorem Llaw5_2a_of {s : Q} {y : Nat × List PV × Int × Int × Nat × List PV × Nat × Nat × Nat × Int × Int × Int × Int × Nat × List PV × Nat × List PV × Nat × List PV × Nat} (h : Rlaw5_2 s = exO (Xlaw5_2a y)) : Llaw5_2 s = some (Sum.inl y) := lpO_of Ilaw5_2 XIlaw5_2 (y := (Sum.inl y)) h
def Tlaw5_4a (n0 : Nat) (c1 : List PV) (i2 i3 i4 : Int) (n5 : Nat) (c6 : List PV) (n7 n8 n9 : Nat) (i10 i11 i12 i13 i14 i15 : Int) (n16 : Nat) (c17 : List PV) (n18 : Nat) (c19 : List PV) (n20 : Nat) (c21 : List PV) (n22 : Nat) : Q := ⟨(tm 444 [(0, (AV.p (PV.list n0 c1))), (7, (AV.p (PV.int .i64 i2))), (8, (AV.p (PV.int .i64 i3))), (9, (AV.loc 9 0)), (11, (AV.p (PV.int .i64 i4))), (13, (AV.app 161 n5 1 c6)), (14, (AV.vap 117 n7 3)), (15, (AV.vap 119 n8 3)), (16, (AV.vap 121 n9 3)), (19, (AV.p (PV.int .i64 i10))), (20, (AV.p (PV.int .i64 i11)))]), (mm 444 [(9, (Bk.pcs true [(PV.int .i64 i12), (PV.int .i64 i13), (PV.int .i64 i14), (PV.int .i64 i15)])), (117, (Bk.vec true n16 3 c17)), (119, (Bk.vec true n18 3 c19)), (121, (Bk.vec true n20 3 c21)), (161, (Bk.buf n22))])⟩
def Xlaw5_4a (y : Nat × List PV × Int × Int × Int × Nat × List PV × Nat × Nat × Nat × Int × Int × Int × Int × Int × Nat × List PV × Nat × List PV × Nat × List PV × Nat) : Ext × Q := (Ext.normal, ⟨(tm 444 [(0, (AV.p (PV.list y.1 y.2.1))), (7, (AV.p (PV.int .i64 y.2.2.1))), (8, (AV.p (PV.int .i64 y.2.2.2.1))), (9, (AV.loc 9 0)), (11, (AV.p (PV.int .i64 y.2.2.2.2.1))), (13, (AV.app 161 y.2.2.2.2.2.1 1 y.2.2.2.2.2.2.1)), (14, (AV.vap 117 y.2.2.2.2.2.2.2.1 3)), (15, (AV.vap 119 y.2.2.2.2.2.2.2.2.1 3)), (16, (AV.vap 121 y.2.2.2.2.2.2.2.2.2.1 3)), (19, (AV.p (PV.int .i64 y.2.2.2.2.2.2.2.2.2.2.1)))]), (mm 444 [(9, (Bk.pcs true [(PV.int .i64 y.2.2.2.2.2.2.2.2.2.2.2.1), (PV.int .i64 y.2.2.2.2.2.2.2.2.2.2.2.2.1), (PV.int .i64 y.2.2.2.2.2.2.2.2.2.2.2.2.2.1), (PV.int .i64 y.2.2.2.2.2.2.2.2.2.2.2.2.2.2.1)])), (117, (Bk.vec true y.2.2.2.2.2.2.2.2.2.2.2.2.2.2.2.1 3 y.2.2.2.2.2.2.2.2.2.2.2.2.2.2.2.2.1)), (119, (Bk.vec true y.2.2.2.2.2.2.2.2.2.2.2.2.2.2.2.2.2.1 3 y.2.2.2.2.2.2.2.2.2.2.2.2.2.2.2.2.2.2.1)), (121, (Bk.vec true y.2.2.2.2.2.2.2.2.2.2.2.2.2.2.2.2.2.2.2.1 3 y.2.2.2.2.2.2.2.2.2.2.2.2.2.2.2.2.2.2.2.2.1)), (161, (Bk.buf y.2.2.2.2.2.2.2.2.2.2.2.2.2.2.2.2.2.2.2.2.2))])⟩)
def Ilaw5_4a (q : Ext × S) : Nat × List PV × Int × Int × Int × Nat × List PV × Nat × Nat × Nat × Int × Int × Int × Int × Int × Nat × List PV × Nat × List PV × Nat × List PV × Nat := ((pP_list0 (pA_p (avT q.2 0))), (pP_list1 (pA_p (avT q.2 0))), (pP_int1 (pA_p (avT q.2 7))), (pP_int1 (pA_p (avT q.2 8))), (pP_int1 (pA_p (avT q.2 11))), (pA_app1 (avT q.2 13)), (pA_app3 (avT q.2 13)), (pA_vap1 (avT q.2 14)), (pA_vap1 (avT q.2 15)), (pA_vap1 (avT q.2 16)), (pP_int1 (pA_p (avT q.2 19))), (pP_int1 (hdP (pB_pcs1 (avM q.2 9)))), (pP_int1 (hdP (List.tail (pB_pcs1 (avM q.2 9))))), (pP_int1 (hdP (List.tail (List.tail (pB_pcs1 (avM q.2 9)))))), (pP_int1 (hdP (List.tail (List.tail (List.tail (pB_pcs1 (avM q.2 9))))))), (pB_vec1 (avM q.2 117)), (pB_vec3 (avM q.2 117)), (pB_vec1 (avM q.2 119)), (pB_vec3 (avM q.2 119)), (pB_vec1 (avM q.2 121)), (pB_vec3 (avM q.2 121)), (pB_buf0 (avM q.2 161)))
def Xlaw5_4b (y : Unit) : Ext × Q := (Ext.ret, ⟨(tm 444 [(6, (AV.p (PV.bool false)))]), (mm 444 [])⟩)
def Ilaw5_4b (q : Ext × S) : Unit := ()
abbrev Ylaw5_4 : Type := (Nat × List PV × Int × Int × Int × Nat × List PV × Nat × Nat × Nat × Int × Int × Int × Int × Int × Nat × List PV × Nat × List PV × Nat × List PV × Nat) ⊕ ((Unit))
def XLlaw5_4 : XL Ylaw5_4 := .more Xlaw5_4a (.one Xlaw5_4b)
def Ilaw5_4 (q : Ext × S) : Ylaw5_4 := bif (cE q.1 == 0) then (Sum.inl (Ilaw5_4a q)) else (Sum.inr (Ilaw5_4b q))
theorem XIlaw5_4a (y : Nat × List PV × Int × Int × Int × Nat × List PV × Nat × Nat × Nat × Int × Int × Int × Int × Int × Nat × List PV × Nat × List PV × Nat × List PV × Nat) : Ilaw5_4 (xe (Xlaw5_4a y)) = (Sum.inl y) := by kernel_rfl
theorem XIlaw5_4b (y : Unit) : Ilaw5_4 (xe (Xlaw5_4b y)) = (Sum.inr y) := by kernel_rfl
theorem XIlaw5_4 (y : Ylaw5_4) : Ilaw5_4 (xe (XLlaw5_4.fn y)) = y := (match y with | .inl y => XIlaw5_4a y | .inr y => XIlaw5_4b y)
noncomputable abbrev Llaw5_4 : Q → Option Ylaw5_4 := lpO env a5.body 4 XLlaw5_4
noncomputable abbrev Rlaw5_4 : Q → Option (Ext × S) := lpR env a5.body 4
theorem Llaw5_4a_of {s : Q} {y : Nat × List PV × Int × Int × Int × Nat × List PV × Nat × Nat × Nat × Int × Int × Int × Int × Int × Nat × List PV × Nat × List PV × Nat × List PV × Nat} (h : Rlaw5_4 s = exO (Xlaw5_4a y)) : Llaw5_4 s = some (Sum.inl y) := lpO_of Ilaw5_4 XIlaw5_4 (y := (Sum.inl y)) h
def Tlaw5_6a (n0 : Nat) (c1 : List PV) (i2 : Int) (n3 : Nat) (c4 : List PV) (n5 : Nat) (c6 : List PV) (i7 : Int) (n8 : Nat) : Q := ⟨(tm 444 [(0, (AV.p (PV.list n0 c1))), (8, (AV.p (PV.int .i64 i2))), (13, (AV.app 161 n3 1 c4)), (27, (AV.p (PV.list n5 c6))), (29, (AV.p (PV.int .i64 i7)))]), (mm 444 [(161, (Bk.buf n8))])⟩
def Xlaw5_6a (y : Unit) : Ext × Q := (Ext.ret, ⟨(tm 444 [(6, (AV.p (PV.bool false)))]), (mm 444 [])⟩)
def Ilaw5_6a (q : Ext × S) : Unit := ()
def Xlaw5_6b (y : Nat) : Ext × Q := (Ext.normal, ⟨(tm 444 []), (mm 444 [(161, (Bk.buf y))])⟩)
def Ilaw5_6b (q : Ext × S) : Nat := (pB_buf0 (avM q.2 161))
abbrev Ylaw5_6 : Type := (Unit) ⊕ ((Nat))
def XLlaw5_6 : XL Ylaw5_6 := .more Xlaw5_6a (.one Xlaw5_6b)
def Ilaw5_6 (q : Ext × S) : Ylaw5_6 := bif (cE q.1 == 2) then (Sum.inl (Ilaw5_6a q)) else (Sum.inr (Ilaw5_6b q))
theorem XIlaw5_6a (y : Unit) : Ilaw5_6 (xe (Xlaw5_6a y)) = (Sum.inl y) := by kernel_rfl
theorem XIlaw5_6b (y : Nat) : Ilaw5_6 (xe (Xlaw5_6b y)) = (Sum.inr y) := by kernel_rfl
theorem XIlaw5_6 (y : Ylaw5_6) : Ilaw5_6 (xe (XLlaw5_6.fn y)) = y := (match y with | .inl y => XIlaw5_6a y | .inr y => XIlaw5_6b y)
noncomputable abbrev Llaw5_6 : Q → Option Ylaw5_6 := lpO env a5.body 6 XLlaw5_6
noncomputable abbrev Rlaw5_6 : Q → Option (Ext × S) := lpR env a5.body 6
theorem Llaw5_6b_of {s : Q} {y : Nat} (h : Rlaw5_6 s = exO (Xlaw5_6b y)) : Llaw5_6 s = some (Sum.inr y) := lpO_of Ilaw5_6 XIlaw5_6 (y := (Sum.inr y)) h
theorem Ulaw5 : uniq ((blocksOf a5.body).map (·.1)) = true := by kernel_rfl
def Blaw5_0a (F : FnT) (N : QO) (E : EO) (L0 : Q → Option Ylaw5_0) (L2 : Q → Option Ylaw5_2) (L4 : Q → Option Ylaw5_4) (L6 : Q → Option Ylaw5_6) (n0 : Nat) (c1 : List PV) (n2 : Nat) (c3 : List PV) (i4 i5 i6 : Int) (n7 n8 n9 : Nat) (i10 i11 i12 i13 : Int) (n14 : Nat) (c15 : List PV) (n16 : Nat) (c17 : List PV) (n18 : Nat) (c19 : List PV) : Option (Ext × S) :=
  bif (decide ((0 : Int) < (n0 : Int))) then
    bif (decide ((0 : Int) < (n2 : Int))) then
      bif (decide (((0 : Int) ≤ (0 : Int)) ∧ ((0 : Int) < (n2 : Int)))) then
        bindO (intC .i64 (c3[0]?)) fun x0 =>
        bif (decide (((0 : Int) ≤ (0 : Int)) ∧ ((0 : Int) < (n0 : Int)))) then
          bindO (intC .i64 (c1[2]?)) fun x1 =>
          bif (decide (((0 : Int) ≤ (0 : Int)) ∧ ((0 : Int) < (n0 : Int)))) then
            bindO (intC .i64 (c1[1]?)) fun x2 =>
            bindO (F 18 (RSh.one (CK.int .i64)) [(PV.int .i64 x0), (PV.int .i64 (w64 ((w64 (x1 - x2)) + (1 : Int))))]) fun (y3 : (Int)) =>
            bif (decide (((0 : Int) ≤ (0 : Int)) ∧ ((0 : Int) < (n0 : Int)))) then
              bindO (intC .i64 (c1[1]?)) fun x4 =>
              bif (decide (((0 : Int) ≤ (0 : Int)) ∧ ((0 : Int) < (n0 : Int)))) then
                bindO (intC .i64 (c1[1]?)) fun x5 =>
                bif (decide (((0 : Int) ≤ (0 : Int)) ∧ ((0 : Int) < (n0 : Int)))) then
                  bindO (intC .i64 (c1[2]?)) fun x6 =>
                  bif (decide (((0 : Int) ≤ (0 : Int)) ∧ ((0 : Int) < (n8 : Int)))) then
                    bif (decide (n16 = n8)) then
                      bindO (Gv.overO c17 1 [(PV.int .i64 (if ((w64 (x5 - (3 : Int))) > (-(10000 : Int))) then (w64 (x5 - (3 : Int))) else (-10000 : Int))), (PV.int .i64 (if ((w64 (x6 + (3 : Int))) < (10000 : Int)) then (w64 (x6 + (3 : Int))) else (10000 : Int)))]) fun x7 =>
                      bif (decide (((0 : Int) ≤ (0 : Int)) ∧ ((0 : Int) < (n0 : Int)))) then
                        bindO (intC .i64 (c1[2]?)) fun x8 =>
                        bif (decide (((0 : Int) ≤ (0 : Int)) ∧ ((0 : Int) < (n0 : Int)))) then
                          bindO (intC .i64 (c1[1]?)) fun x9 =>
                          bif (decide (((0 : Int) ≤ (0 : Int)) ∧ ((0 : Int) < (n9 : Int)))) then
                            bif (decide (n18 = n9)) then
                              bindO (Gv.overO c19 1 [(PV.int .i64 (w64 ((0 : Int) - x8))), (PV.int .i64 (w64 ((0 : Int) - x9)))]) fun x10 =>
                              N (Tlaw5_0b n0 c1 n2 c3 i4 i5 i6 1 [(PV.int .i64 (w64 (x4 + y3)))] n7 n8 n9 (1 : Int) i10 i11 i12 i13 n14 c15 n8 x7 n9 x10 1)
                            else none
                          else none
                        else none
                      else none
                    else none
                  else none
                else none
              else none
            else none
          else none
        else none
      else none
    else bif (decide (((0 : Int) ≤ (0 : Int)) ∧ ((0 : Int) < (n0 : Int)))) then
      bindO (intC .i64 (c1[1]?)) fun x11 =>
      bif (decide (((0 : Int) ≤ (0 : Int)) ∧ ((0 : Int) < (n0 : Int)))) then
        bindO (intC .i64 (c1[1]?)) fun x12 =>
        bif (decide (((0 : Int) ≤ (0 : Int)) ∧ ((0 : Int) < (n0 : Int)))) then
          bindO (intC .i64 (c1[2]?)) fun x13 =>
          bif (decide (((0 : Int) ≤ (0 : Int)) ∧ ((0 : Int) < (n8 : Int)))) then
            bif (decide (n16 = n8)) then
              bindO (Gv.overO c17 1 [(PV.int .i64 (if ((w64 (x12 - (3 : Int))) > (-(10000 : Int))) then (w64 (x12 - (3 : Int))) else (-10000 : Int))), (PV.int .i64 (if ((w64 (x13 + (3 : Int))) < (10000 : Int)) then (w64 (x13 + (3 : Int))) else (10000 : Int)))]) fun x14 =>
              bif (decide (((0 : Int) ≤ (0 : Int)) ∧ ((0 : Int) < (n0 : Int)))) then
                bindO (intC .i64 (c1[2]?)) fun x15 =>
                bif (decide (((0 : Int) ≤ (0 : Int)) ∧ ((0 : Int) < (n0 : Int)))) then
                  bindO (intC .i64 (c1[1]?)) fun x16 =>
                  bif (decide (((0 : Int) ≤ (0 : Int)) ∧ ((0 : Int) < (n9 : Int)))) then
                    bif (decide (n18 = n9)) then
                      bindO (Gv.overO c19 1 [(PV.int .i64 (w64 ((0 : Int) - x15))), (PV.int .i64 (w64 ((0 : Int) - x16)))]) fun x17 =>
                      N (Tlaw5_0b n0 c1 n2 c3 i4 i5 i6 1 [(PV.int .i64 (w64 (x11 + (0 : Int))))] n7 n8 n9 (1 : Int) i10 i11 i12 i13 n14 c15 n8 x14 n9 x17 1)
                    else none
                  else none
                else none
              else none
            else none
          else none
        else none
      else none
    else none
  else E (Xlaw5_0a (n0, c1, i4, i5, i6, n7, n8, n9, i10, i11, i12, i13, n14, c15, n16, c17, n18, c19))
theorem Blaw5_0a_eq (F : FnT) (N : QO) (E : EO) (L0 : Q → Option Ylaw5_0) (L2 : Q → Option Ylaw5_2) (L4 : Q → Option Ylaw5_4) (L6 : Q → Option Ylaw5_6) (n0 : Nat) (c1 : List PV) (n2 : Nat) (c3 : List PV) (i4 i5 i6 : Int) (n7 n8 n9 : Nat) (i10 i11 i12 i13 : Int) (n14 : Nat) (c15 : List PV) (n16 : Nat) (c17 : List PV) (n18 : Nat) (c19 : List PV) : semB (callP F Elaw5 20) s5 (loopT [⟨0, Ylaw5_0, L0, XLlaw5_0⟩, ⟨2, Ylaw5_2, L2, XLlaw5_2⟩, ⟨4, Ylaw5_4, L4, XLlaw5_4⟩, ⟨6, Ylaw5_6, L6, XLlaw5_6⟩]) 400 (blkIn a5.body 0) N E (Tlaw5_0a n0 c1 n2 c3 i4 i5 i6 n7 n8 n9 i10 i11 i12 i13 n14 c15 n16 c17 n18 c19) = Blaw5_0a F N E L0 L2 L4 L6 n0 c1 n2 c3 i4 i5 i6 n7 n8 n9 i10 i11 i12 i13 n14 c15 n16 c17 n18 c19 := by kernel_rfl
theorem Rlaw5_0a_of  (n0 : Nat) (c1 : List PV) (n2 : Nat) (c3 : List PV) (i4 i5 i6 : Int) (n7 n8 n9 : Nat) (i10 i11 i12 i13 : Int) (n14 : Nat) (c15 : List PV) (n16 : Nat) (c17 : List PV) (n18 : Nat) (c19 : List PV) {r : Ext × S} (h : Blaw5_0a (Fn env) Rlaw5_0 exO Llaw5_0 Llaw5_2 Llaw5_4 Llaw5_6 n0 c1 n2 c3 i4 i5 i6 n7 n8 n9 i10 i11 i12 i13 n14 c15 n16 c17 n18 c19 = some r) : Rlaw5_0 (Tlaw5_0a n0 c1 n2 c3 i4 i5 i6 n7 n8 n9 i10 i11 i12 i13 n14 c15 n16 c17 n18 c19) = some r :=
  lp_of Elaw5_ok (by kernel_rfl) (lo_cons (lpO_ok Ulaw5) (lo_cons (lpO_ok Ulaw5) (lo_cons (lpO_ok Ulaw5) (lo_cons (lpO_ok Ulaw5) lo_nil)))) (by kernel_rfl) ((Blaw5_0a_eq _ _ _ _ _ _ _ _ _ _ _ _ _ _ _ _ _ _ _ _ _ _ _ _ _ _ _).trans h)
def Blaw5_0b (F : FnT) (N : QO) (E : EO) (L0 : Q → Option Ylaw5_0) (L2 : Q → Option Ylaw5_2) (L4 : Q → Option Ylaw5_4) (L6 : Q → Option Ylaw5_6) (n0 : Nat) (c1 : List PV) (n2 : Nat) (c3 : List PV) (i4 i5 i6 : Int) (n7 : Nat) (c8 : List PV) (n9 n10 n11 : Nat) (i12 i13 i14 i15 i16 : Int) (n17 : Nat) (c18 : List PV) (n19 : Nat) (c20 : List PV) (n21 : Nat) (c22 : List PV) (n23 : Nat) : Option (Ext × S) :=
  bif (decide (i12 < (n0 : Int))) then
    bif (decide (i12 < (n2 : Int))) then
      bif (decide (((0 : Int) ≤ i12) ∧ (i12 < (n2 : Int)))) then
        bindO (intC .i64 (c3[((Int.toNat i12) * 1)]?)) fun x0 =>
        bif (decide (((0 : Int) ≤ i12) ∧ (i12 < (n0 : Int)))) then
          bindO (intC .i64 (c1[((((Int.toNat i12) * 3) + 1) + 1)]?)) fun x1 =>
          bif (decide (((0 : Int) ≤ i12) ∧ (i12 < (n0 : Int)))) then
            bindO (intC .i64 (c1[((((Int.toNat i12) * 3) + 1) + 0)]?)) fun x2 =>
            bindO (F 18 (RSh.one (CK.int .i64)) [(PV.int .i64 x0), (PV.int .i64 (w64 ((w64 (x1 - x2)) + (1 : Int))))]) fun (y3 : (Int)) =>
            bif (decide (((0 : Int) ≤ i12) ∧ (i12 < (n0 : Int)))) then
              bindO (intC .i64 (c1[((((Int.toNat i12) * 3) + 1) + 0)]?)) fun x4 =>
              bif (decide ((n23 = n7) ∧ ((n7 + 1) ≤ big))) then
                bif (decide (((0 : Int) ≤ i12) ∧ (i12 < (n0 : Int)))) then
                  bindO (intC .i64 (c1[((((Int.toNat i12) * 3) + 1) + 0)]?)) fun x5 =>
                  bif (decide (((0 : Int) ≤ i12) ∧ (i12 < (n0 : Int)))) then
                    bindO (intC .i64 (c1[((((Int.toNat i12) * 3) + 1) + 1)]?)) fun x6 =>
                    bif (decide (((0 : Int) ≤ i12) ∧ (i12 < (n10 : Int)))) then
                      bif (decide (n19 = n10)) then
                        bindO (Gv.overO c20 (((Int.toNat i12) * 3) + 1) [(PV.int .i64 (if ((w64 (x5 - (3 : Int))) > (-(10000 : Int))) then (w64 (x5 - (3 : Int))) else (-10000 : Int))), (PV.int .i64 (if ((w64 (x6 + (3 : Int))) < (10000 : Int)) then (w64 (x6 + (3 : Int))) else (10000 : Int)))]) fun x7 =>
                        bif (decide (((0 : Int) ≤ i12) ∧ (i12 < (n0 : Int)))) then
                          bindO (intC .i64 (c1[((((Int.toNat i12) * 3) + 1) + 1)]?)) fun x8 =>
                          bif (decide (((0 : Int) ≤ i12) ∧ (i12 < (n0 : Int)))) then
                            bindO (intC .i64 (c1[((((Int.toNat i12) * 3) + 1) + 0)]?)) fun x9 =>
                            bif (decide (((0 : Int) ≤ i12) ∧ (i12 < (n11 : Int)))) then
                              bif (decide (n21 = n11)) then
                                bindO (Gv.overO c22 (((Int.toNat i12) * 3) + 1) [(PV.int .i64 (w64 ((0 : Int) - x8))), (PV.int .i64 (w64 ((0 : Int) - x9)))]) fun x10 =>
                                N (Tlaw5_0b n0 c1 n2 c3 i4 i5 i6 (n7 + 1) (c8 ++ [(PV.int .i64 (w64 (x4 + y3)))]) n9 n10 n11 (w64 (i12 + (1 : Int))) i13 i14 i15 i16 n17 c18 n10 x7 n11 x10 (n7 + 1))
                              else none
                            else none
                          else none
                        else none
                      else none
                    else none
                  else none
                else none
              else none
            else none
          else none
        else none
      else none
    else bif (decide (((0 : Int) ≤ i12) ∧ (i12 < (n0 : Int)))) then
      bindO (intC .i64 (c1[((((Int.toNat i12) * 3) + 1) + 0)]?)) fun x11 =>
      bif (decide ((n23 = n7) ∧ ((n7 + 1) ≤ big))) then
        bif (decide (((0 : Int) ≤ i12) ∧ (i12 < (n0 : Int)))) then
          bindO (intC .i64 (c1[((((Int.toNat i12) * 3) + 1) + 0)]?)) fun x12 =>
          bif (decide (((0 : Int) ≤ i12) ∧ (i12 < (n0 : Int)))) then
            bindO (intC .i64 (c1[((((Int.toNat i12) * 3) + 1) + 1)]?)) fun x13 =>
            bif (decide (((0 : Int) ≤ i12) ∧ (i12 < (n10 : Int)))) then
              bif (decide (n19 = n10)) then
                bindO (Gv.overO c20 (((Int.toNat i12) * 3) + 1) [(PV.int .i64 (if ((w64 (x12 - (3 : Int))) > (-(10000 : Int))) then (w64 (x12 - (3 : Int))) else (-10000 : Int))), (PV.int .i64 (if ((w64 (x13 + (3 : Int))) < (10000 : Int)) then (w64 (x13 + (3 : Int))) else (10000 : Int)))]) fun x14 =>
                bif (decide (((0 : Int) ≤ i12) ∧ (i12 < (n0 : Int)))) then
                  bindO (intC .i64 (c1[((((Int.toNat i12) * 3) + 1) + 1)]?)) fun x15 =>
                  bif (decide (((0 : Int) ≤ i12) ∧ (i12 < (n0 : Int)))) then
                    bindO (intC .i64 (c1[((((Int.toNat i12) * 3) + 1) + 0)]?)) fun x16 =>
                    bif (decide (((0 : Int) ≤ i12) ∧ (i12 < (n11 : Int)))) then
                      bif (decide (n21 = n11)) then
                        bindO (Gv.overO c22 (((Int.toNat i12) * 3) + 1) [(PV.int .i64 (w64 ((0 : Int) - x15))), (PV.int .i64 (w64 ((0 : Int) - x16)))]) fun x17 =>
                        N (Tlaw5_0b n0 c1 n2 c3 i4 i5 i6 (n7 + 1) (c8 ++ [(PV.int .i64 (w64 (x11 + (0 : Int))))]) n9 n10 n11 (w64 (i12 + (1 : Int))) i13 i14 i15 i16 n17 c18 n10 x14 n11 x17 (n7 + 1))
                      else none
                    else none
                  else none
                else none
              else none
            else none
          else none
        else none
      else none
    else none
  else E (Xlaw5_0b (n0, c1, i4, i5, i6, n7, c8, n9, n10, n11, i13, i14, i15, i16, n17, c18, n19, c20, n21, c22, n23))
theorem Blaw5_0b_eq (F : FnT) (N : QO) (E : EO) (L0 : Q → Option Ylaw5_0) (L2 : Q → Option Ylaw5_2) (L4 : Q → Option Ylaw5_4) (L6 : Q → Option Ylaw5_6) (n0 : Nat) (c1 : List PV) (n2 : Nat) (c3 : List PV) (i4 i5 i6 : Int) (n7 : Nat) (c8 : List PV) (n9 n10 n11 : Nat) (i12 i13 i14 i15 i16 : Int) (n17 : Nat) (c18 : List PV) (n19 : Nat) (c20 : List PV) (n21 : Nat) (c22 : List PV) (n23 : Nat) : semB (callP F Elaw5 20) s5 (loopT [⟨0, Ylaw5_0, L0, XLlaw5_0⟩, ⟨2, Ylaw5_2, L2, XLlaw5_2⟩, ⟨4, Ylaw5_4, L4, XLlaw5_4⟩, ⟨6, Ylaw5_6, L6, XLlaw5_6⟩]) 400 (blkIn a5.body 0) N E (Tlaw5_0b n0 c1 n2 c3 i4 i5 i6 n7 c8 n9 n10 n11 i12 i13 i14 i15 i16 n17 c18 n19 c20 n21 c22 n23) = Blaw5_0b F N E L0 L2 L4 L6 n0 c1 n2 c3 i4 i5 i6 n7 c8 n9 n10 n11 i12 i13 i14 i15 i16 n17 c18 n19 c20 n21 c22 n23 := by kernel_rfl
theorem Rlaw5_0b_of  (n0 : Nat) (c1 : List PV) (n2 : Nat) (c3 : List PV) (i4 i5 i6 : Int) (n7 : Nat) (c8 : List PV) (n9 n10 n11 : Nat) (i12 i13 i14 i15 i16 : Int) (n17 : Nat) (c18 : List PV) (n19 : Nat) (c20 : List PV) (n21 : Nat) (c22 : List PV) (n23 : Nat) {r : Ext × S} (h : Blaw5_0b (Fn env) Rlaw5_0 exO Llaw5_0 Llaw5_2 Llaw5_4 Llaw5_6 n0 c1 n2 c3 i4 i5 i6 n7 c8 n9 n10 n11 i12 i13 i14 i15 i16 n17 c18 n19 c20 n21 c22 n23 = some r) : Rlaw5_0 (Tlaw5_0b n0 c1 n2 c3 i4 i5 i6 n7 c8 n9 n10 n11 i12 i13 i14 i15 i16 n17 c18 n19 c20 n21 c22 n23) = some r :=
  lp_of Elaw5_ok (by kernel_rfl) (lo_cons (lpO_ok Ulaw5) (lo_cons (lpO_ok Ulaw5) (lo_cons (lpO_ok Ulaw5) (lo_cons (lpO_ok Ulaw5) lo_nil)))) (by kernel_rfl) ((Blaw5_0b_eq _ _ _ _ _ _ _ _ _ _ _ _ _ _ _ _ _ _ _ _ _ _ _ _ _ _ _ _ _ _ _).trans h)
def Blaw5_2a (F : FnT) (N : QO) (E : EO) (L0 : Q → Option Ylaw5_0) (L2 : Q → Option Ylaw5_2) (L4 : Q → Option Ylaw5_4) (L6 : Q → Option Ylaw5_6) (n0 : Nat) (c1 : List PV) (i2 i3 i4 : Int) (n5 : Nat) (c6 : List PV) (n7 n8 n9 : Nat) (i10 i11 i12 i13 i14 : Int) (n15 : Nat) (c16 : List PV) (n17 : Nat) (c18 : List PV) (n19 : Nat) (c20 : List PV) (n21 : Nat) : Option (Ext × S) :=
  bif (decide (i10 < (n0 : Int))) then
    bindO (L4 (Tlaw5_4a n0 c1 i2 i3 i4 n5 c6 n7 n8 n9 i10 (w64 (i10 + (1 : Int))) i11 i12 i13 i14 n15 c16 n17 c18 n19 c20 n21)) fun z =>
    Sum.elim (fun y0 =>
      N (Tlaw5_2a y0.1 y0.2.1 y0.2.2.1 y0.2.2.2.1 y0.2.2.2.2.1 y0.2.2.2.2.2.1 y0.2.2.2.2.2.2.1 y0.2.2.2.2.2.2.2.1 y0.2.2.2.2.2.2.2.2.1 y0.2.2.2.2.2.2.2.2.2.1 (w64 (y0.2.2.2.2.2.2.2.2.2.2.1 + (1 : Int))) y0.2.2.2.2.2.2.2.2.2.2.2.1 y0.2.2.2.2.2.2.2.2.2.2.2.2.1 y0.2.2.2.2.2.2.2.2.2.2.2.2.2.1 y0.2.2.2.2.2.2.2.2.2.2.2.2.2.2.1 y0.2.2.2.2.2.2.2.2.2.2.2.2.2.2.2.1 y0.2.2.2.2.2.2.2.2.2.2.2.2.2.2.2.2.1 y0.2.2.2.2.2.2.2.2.2.2.2.2.2.2.2.2.2.1 y0.2.2.2.2.2.2.2.2.2.2.2.2.2.2.2.2.2.2.1 y0.2.2.2.2.2.2.2.2.2.2.2.2.2.2.2.2.2.2.2.1 y0.2.2.2.2.2.2.2.2.2.2.2.2.2.2.2.2.2.2.2.2.1 y0.2.2.2.2.2.2.2.2.2.2.2.2.2.2.2.2.2.2.2.2.2)) (fun y1 =>
      E (Xlaw5_2b ())) z
  else E (Xlaw5_2a (n0, c1, i2, i3, n5, c6, n7, n8, n9, i11, i12, i13, i14, n15, c16, n17, c18, n19, c20, n21))
theorem Blaw5_2a_eq (F : FnT) (N : QO) (E : EO) (L0 : Q → Option Ylaw5_0) (L2 : Q → Option Ylaw5_2) (L4 : Q → Option Ylaw5_4) (L6 : Q → Option Ylaw5_6) (n0 : Nat) (c1 : List PV) (i2 i3 i4 : Int) (n5 : Nat) (c6 : List PV) (n7 n8 n9 : Nat) (i10 i11 i12 i13 i14 : Int) (n15 : Nat) (c16 : List PV) (n17 : Nat) (c18 : List PV) (n19 : Nat) (c20 : List PV) (n21 : Nat) : semB (callP F Elaw5 20) s5 (loopT [⟨0, Ylaw5_0, L0, XLlaw5_0⟩, ⟨2, Ylaw5_2, L2, XLlaw5_2⟩, ⟨4, Ylaw5_4, L4, XLlaw5_4⟩, ⟨6, Ylaw5_6, L6, XLlaw5_6⟩]) 400 (blkIn a5.body 2) N E (Tlaw5_2a n0 c1 i2 i3 i4 n5 c6 n7 n8 n9 i10 i11 i12 i13 i14 n15 c16 n17 c18 n19 c20 n21) = Blaw5_2a F N E L0 L2 L4 L6 n0 c1 i2 i3 i4 n5 c6 n7 n8 n9 i10 i11 i12 i13 i14 n15 c16 n17 c18 n19 c20 n21 := by kernel_rfl
theorem Rlaw5_2a_of  (n0 : Nat) (c1 : List PV) (i2 i3 i4 : Int) (n5 : Nat) (c6 : List PV) (n7 n8 n9 : Nat) (i10 i11 i12 i13 i14 : Int) (n15 : Nat) (c16 : List PV) (n17 : Nat) (c18 : List PV) (n19 : Nat) (c20 : List PV) (n21 : Nat) {r : Ext × S} (h : Blaw5_2a (Fn env) Rlaw5_2 exO Llaw5_0 Llaw5_2 Llaw5_4 Llaw5_6 n0 c1 i2 i3 i4 n5 c6 n7 n8 n9 i10 i11 i12 i13 i14 n15 c16 n17 c18 n19 c20 n21 = some r) : Rlaw5_2 (Tlaw5_2a n0 c1 i2 i3 i4 n5 c6 n7 n8 n9 i10 i11 i12 i13 i14 n15 c16 n17 c18 n19 c20 n21) = some r :=
  lp_of Elaw5_ok (by kernel_rfl) (lo_cons (lpO_ok Ulaw5) (lo_cons (lpO_ok Ulaw5) (lo_cons (lpO_ok Ulaw5) (lo_cons (lpO_ok Ulaw5) lo_nil)))) (by kernel_rfl) ((Blaw5_2a_eq _ _ _ _ _ _ _ _ _ _ _ _ _ _ _ _ _ _ _ _ _ _ _ _ _ _ _ _ _).trans h)
def Blaw5_4a (F : FnT) (N : QO) (E : EO) (L0 : Q → Option Ylaw5_0) (L2 : Q → Option Ylaw5_2) (L4 : Q → Option Ylaw5_4) (L6 : Q → Option Ylaw5_6) (n0 : Nat) (c1 : List PV) (i2 i3 i4 : Int) (n5 : Nat) (c6 : List PV) (n7 n8 n9 : Nat) (i10 i11 i12 i13 i14 i15 : Int) (n16 : Nat) (c17 : List PV) (n18 : Nat) (c19 : List PV) (n20 : Nat) (c21 : List PV) (n22 : Nat) : Option (Ext × S) :=
  bif (decide (i11 < (n0 : Int))) then
    bif (decide (((0 : Int) ≤ i11) ∧ (i11 < (n0 : Int)))) then
      bindO (intC .i64 (c1[(((Int.toNat i11) * 3) + 0)]?)) fun x0 =>
      bif (decide (((0 : Int) ≤ i10) ∧ (i10 < (n0 : Int)))) then
        bindO (intC .i64 (c1[(((Int.toNat i10) * 3) + 0)]?)) fun x1 =>
        bif (decide ((w64 (x0 - x1)) ≤ i2)) then
          bif (decide (((0 : Int) ≤ i10) ∧ (i10 < (n5 : Int)))) then
            bindO (intC .i64 (c6[((Int.toNat i10) * 1)]?)) fun x2 =>
            bif (decide (((0 : Int) ≤ i11) ∧ (i11 < (n5 : Int)))) then
              bindO (intC .i64 (c6[((Int.toNat i11) * 1)]?)) fun x3 =>
              bif (decide ((w64 (x2 - x3)) > i4)) then
                E (Xlaw5_4b ())
              else N (Tlaw5_4a n0 c1 i2 i3 i4 n5 c6 n7 n8 n9 i10 (w64 (i11 + (1 : Int))) i12 i13 i14 i15 n16 c17 n18 c19 n20 c21 n22)
            else none
          else none
        else N (Tlaw5_4a n0 c1 i2 i3 i4 n5 c6 n7 n8 n9 i10 (w64 (i11 + (1 : Int))) i12 i13 i14 i15 n16 c17 n18 c19 n20 c21 n22)
      else none
    else none
  else E (Xlaw5_4a (n0, c1, i2, i3, i4, n5, c6, n7, n8, n9, i10, i12, i13, i14, i15, n16, c17, n18, c19, n20, c21, n22))
theorem Blaw5_4a_eq (F : FnT) (N : QO) (E : EO) (L0 : Q → Option Ylaw5_0) (L2 : Q → Option Ylaw5_2) (L4 : Q → Option Ylaw5_4) (L6 : Q → Option Ylaw5_6) (n0 : Nat) (c1 : List PV) (i2 i3 i4 : Int) (n5 : Nat) (c6 : List PV) (n7 n8 n9 : Nat) (i10 i11 i12 i13 i14 i15 : Int) (n16 : Nat) (c17 : List PV) (n18 : Nat) (c19 : List PV) (n20 : Nat) (c21 : List PV) (n22 : Nat) : semB (callP F Elaw5 20) s5 (loopT [⟨0, Ylaw5_0, L0, XLlaw5_0⟩, ⟨2, Ylaw5_2, L2, XLlaw5_2⟩, ⟨4, Ylaw5_4, L4, XLlaw5_4⟩, ⟨6, Ylaw5_6, L6, XLlaw5_6⟩]) 400 (blkIn a5.body 4) N E (Tlaw5_4a n0 c1 i2 i3 i4 n5 c6 n7 n8 n9 i10 i11 i12 i13 i14 i15 n16 c17 n18 c19 n20 c21 n22) = Blaw5_4a F N E L0 L2 L4 L6 n0 c1 i2 i3 i4 n5 c6 n7 n8 n9 i10 i11 i12 i13 i14 i15 n16 c17 n18 c19 n20 c21 n22 := by kernel_rfl
theorem Rlaw5_4a_of  (n0 : Nat) (c1 : List PV) (i2 i3 i4 : Int) (n5 : Nat) (c6 : List PV) (n7 n8 n9 : Nat) (i10 i11 i12 i13 i14 i15 : Int) (n16 : Nat) (c17 : List PV) (n18 : Nat) (c19 : List PV) (n20 : Nat) (c21 : List PV) (n22 : Nat) {r : Ext × S} (h : Blaw5_4a (Fn env) Rlaw5_4 exO Llaw5_0 Llaw5_2 Llaw5_4 Llaw5_6 n0 c1 i2 i3 i4 n5 c6 n7 n8 n9 i10 i11 i12 i13 i14 i15 n16 c17 n18 c19 n20 c21 n22 = some r) : Rlaw5_4 (Tlaw5_4a n0 c1 i2 i3 i4 n5 c6 n7 n8 n9 i10 i11 i12 i13 i14 i15 n16 c17 n18 c19 n20 c21 n22) = some r :=
  lp_of Elaw5_ok (by kernel_rfl) (lo_cons (lpO_ok Ulaw5) (lo_cons (lpO_ok Ulaw5) (lo_cons (lpO_ok Ulaw5) (lo_cons (lpO_ok Ulaw5) lo_nil)))) (by kernel_rfl) ((Blaw5_4a_eq _ _ _ _ _ _ _ _ _ _ _ _ _ _ _ _ _ _ _ _ _ _ _ _ _ _ _ _ _ _).trans h)
def Blaw5_6a (F : FnT) (N : QO) (E : EO) (L0 : Q → Option Ylaw5_0) (L2 : Q → Option Ylaw5_2) (L4 : Q → Option Ylaw5_4) (L6 : Q → Option Ylaw5_6) (n0 : Nat) (c1 : List PV) (i2 : Int) (n3 : Nat) (c4 : List PV) (n5 : Nat) (c6 : List PV) (i7 : Int) (n8 : Nat) : Option (Ext × S) :=
  bif (decide (i7 < (n5 : Int))) then
    bif (decide (((0 : Int) ≤ i7) ∧ (i7 < (n5 : Int)))) then
      bindO (intC .i64 (c6[(((Int.toNat i7) * 2) + 0)]?)) fun x0 =>
      bif (decide (((0 : Int) ≤ i7) ∧ (i7 < (n5 : Int)))) then
        bindO (intC .i64 (c6[(((Int.toNat i7) * 2) + 1)]?)) fun x1 =>
        bindO (F 29 (RSh.one CK.bool) [(PV.int .i64 x0), (PV.int .i64 (0 : Int)), (PV.int .i64 (w64 (x1 - (1 : Int))))]) fun (y2 : (Bool)) =>
        bif y2 then
          bif (decide (((0 : Int) ≤ i7) ∧ (i7 < (n5 : Int)))) then
            bindO (intC .i64 (c6[(((Int.toNat i7) * 2) + 1)]?)) fun x3 =>
            bif (decide (x3 ≥ (n0 : Int))) then
              E (Xlaw5_6a ())
            else bif (decide (i7 > (0 : Int))) then
              bif (decide (((0 : Int) ≤ i7) ∧ (i7 < (n5 : Int)))) then
                bindO (intC .i64 (c6[(((Int.toNat i7) * 2) + 0)]?)) fun x4 =>
                bif (decide (((0 : Int) ≤ (w64 (i7 - (1 : Int)))) ∧ ((w64 (i7 - (1 : Int))) < (n5 : Int)))) then
                  bindO (intC .i64 (c6[(((Int.toNat (w64 (i7 - (1 : Int)))) * 2) + 1)]?)) fun x5 =>
                  bif (decide (x4 ≤ x5)) then
                    E (Xlaw5_6a ())
                  else bif (decide (((0 : Int) ≤ i7) ∧ (i7 < (n5 : Int)))) then
                    bindO (intC .i64 (c6[(((Int.toNat i7) * 2) + 0)]?)) fun x6 =>
                    bif (decide (((0 : Int) ≤ x6) ∧ (x6 < (n3 : Int)))) then
                      bindO (intC .i64 (c4[((Int.toNat x6) * 1)]?)) fun x7 =>
                      bif (decide (((0 : Int) ≤ i7) ∧ (i7 < (n5 : Int)))) then
                        bindO (intC .i64 (c6[(((Int.toNat i7) * 2) + 1)]?)) fun x8 =>
                        bif (decide (((0 : Int) ≤ x8) ∧ (x8 < (n3 : Int)))) then
                          bindO (intC .i64 (c4[((Int.toNat x8) * 1)]?)) fun x9 =>
                          bif (decide (((0 : Int) ≤ i7) ∧ (i7 < (n5 : Int)))) then
                            bindO (intC .i64 (c6[(((Int.toNat i7) * 2) + 1)]?)) fun x10 =>
                            bif (decide (((0 : Int) ≤ i7) ∧ (i7 < (n5 : Int)))) then
                              bindO (intC .i64 (c6[(((Int.toNat i7) * 2) + 0)]?)) fun x11 =>
                              bif (decide ((w64 (x7 - x9)) < (w64 (i2 * (w64 (x10 - x11)))))) then
                                E (Xlaw5_6a ())
                              else N (Tlaw5_6a n0 c1 i2 n3 c4 n5 c6 (w64 (i7 + (1 : Int))) n8)
                            else none
                          else none
                        else none
                      else none
                    else none
                  else none
                else none
              else none
            else bif (decide (((0 : Int) ≤ i7) ∧ (i7 < (n5 : Int)))) then
              bindO (intC .i64 (c6[(((Int.toNat i7) * 2) + 0)]?)) fun x12 =>
              bif (decide (((0 : Int) ≤ x12) ∧ (x12 < (n3 : Int)))) then
                bindO (intC .i64 (c4[((Int.toNat x12) * 1)]?)) fun x13 =>
                bif (decide (((0 : Int) ≤ i7) ∧ (i7 < (n5 : Int)))) then
                  bindO (intC .i64 (c6[(((Int.toNat i7) * 2) + 1)]?)) fun x14 =>
                  bif (decide (((0 : Int) ≤ x14) ∧ (x14 < (n3 : Int)))) then
                    bindO (intC .i64 (c4[((Int.toNat x14) * 1)]?)) fun x15 =>
                    bif (decide (((0 : Int) ≤ i7) ∧ (i7 < (n5 : Int)))) then
                      bindO (intC .i64 (c6[(((Int.toNat i7) * 2) + 1)]?)) fun x16 =>
                      bif (decide (((0 : Int) ≤ i7) ∧ (i7 < (n5 : Int)))) then
                        bindO (intC .i64 (c6[(((Int.toNat i7) * 2) + 0)]?)) fun x17 =>
                        bif (decide ((w64 (x13 - x15)) < (w64 (i2 * (w64 (x16 - x17)))))) then
                          E (Xlaw5_6a ())
                        else N (Tlaw5_6a n0 c1 i2 n3 c4 n5 c6 (w64 (i7 + (1 : Int))) n8)
                      else none
                    else none
                  else none
                else none
              else none
            else none
          else none
        else E (Xlaw5_6a ())
      else none
    else none
  else E (Xlaw5_6b n8)
theorem Blaw5_6a_eq (F : FnT) (N : QO) (E : EO) (L0 : Q → Option Ylaw5_0) (L2 : Q → Option Ylaw5_2) (L4 : Q → Option Ylaw5_4) (L6 : Q → Option Ylaw5_6) (n0 : Nat) (c1 : List PV) (i2 : Int) (n3 : Nat) (c4 : List PV) (n5 : Nat) (c6 : List PV) (i7 : Int) (n8 : Nat) : semB (callP F Elaw5 20) s5 (loopT [⟨0, Ylaw5_0, L0, XLlaw5_0⟩, ⟨2, Ylaw5_2, L2, XLlaw5_2⟩, ⟨4, Ylaw5_4, L4, XLlaw5_4⟩, ⟨6, Ylaw5_6, L6, XLlaw5_6⟩]) 400 (blkIn a5.body 6) N E (Tlaw5_6a n0 c1 i2 n3 c4 n5 c6 i7 n8) = Blaw5_6a F N E L0 L2 L4 L6 n0 c1 i2 n3 c4 n5 c6 i7 n8 := by kernel_rfl
theorem Rlaw5_6a_of  (n0 : Nat) (c1 : List PV) (i2 : Int) (n3 : Nat) (c4 : List PV) (n5 : Nat) (c6 : List PV) (i7 : Int) (n8 : Nat) {r : Ext × S} (h : Blaw5_6a (Fn env) Rlaw5_6 exO Llaw5_0 Llaw5_2 Llaw5_4 Llaw5_6 n0 c1 i2 n3 c4 n5 c6 i7 n8 = some r) : Rlaw5_6 (Tlaw5_6a n0 c1 i2 n3 c4 n5 c6 i7 n8) = some r :=
  lp_of Elaw5_ok (by kernel_rfl) (lo_cons (lpO_ok Ulaw5) (lo_cons (lpO_ok Ulaw5) (lo_cons (lpO_ok Ulaw5) (lo_cons (lpO_ok Ulaw5) lo_nil)))) (by kernel_rfl) ((Blaw5_6a_eq _ _ _ _ _ _ _ _ _ _ _ _ _ _ _ _).trans h)
end Gv
