/- What the functions do, round by round: CH3. -/
import Derived.Test.YtkbahledgljaoaaCH1
namespace Gv
open Go
set_option maxRecDepth 100000
def Ew_CloudApart : List Entry := [.out 10 (RSh.one CK.bool), .out 11 (RSh.one CK.bool), .out 12 (RSh.one (CK.int .i64)), .out 13 (RSh.one (CK.int .i64)), .out 14 (RSh.one CK.bool), .out 16 (RSh.one CK.list), .out 15 (RSh.tup [(Prod.mk false [CK.list]), (Prod.mk false [(CK.int .i64)])]), .out 17 (RSh.one (CK.int .i64)), .out 18 (RSh.one (CK.int .i64)), .out 19 (RSh.one (CK.int .i64)), .out 20 (RSh.tup [(Prod.mk false [(CK.int .i64)]), (Prod.mk false [(CK.int .i64)])])]
theorem Ew_CloudApart_ok : ∀ e ∈ Ew_CloudApart, EntOK env e := (ent_out (ent_out (ent_out (ent_out (ent_out (ent_out (ent_out (ent_out (ent_out (ent_out (ent_out ent_nil)))))))))))
def Tw_CloudApart_0a (n0 : Nat) (c1 : List PV) (n2 : Nat) (c3 : List PV) (n4 : Nat) (c5 : List PV) (n6 : Nat) (c7 : List PV) (i8 : Int) (i9 : Int) (i10 : Int) (i11 : Int) (i12 : Int) (i13 : Int) (i14 : Int) (i15 : Int) : Q := ⟨(tm 365 [(0, (AV.p (PV.list n0 c1))), (4, (AV.loc 4 0)), (9, (AV.p (PV.list n2 c3))), (11, (AV.p (PV.list n4 c5))), (13, (AV.p (PV.list n6 c7))), (15, (AV.p (PV.int .i64 i8))), (16, (AV.p (PV.int .i64 i9)))]), (mm 365 [(4, (Bk.pcs true [(PV.int .i64 i10), (PV.int .i64 i11), (PV.int .i64 i12), (PV.int .i64 i13), (PV.int .i64 i14), (PV.int .i64 i15)]))])⟩
def Xw_CloudApart_0a (_y : Unit) : Ext × Q := (Ext.ret, ⟨(tm 365 [(6, (AV.p (PV.bool false)))]), (mm 365 [])⟩)
def Iw_CloudApart_0a (_q : Ext × S) : Unit := ()
def Xw_CloudApart_0b (y : Nat × List PV × Nat × List PV × Nat × List PV × Nat × List PV × Int × Int × Int × Int × Int × Int × Int) : Ext × Q := (Ext.normal, ⟨(tm 365 [(0, (AV.p (PV.list y.1 y.2.1))), (4, (AV.loc 4 0)), (9, (AV.p (PV.list y.2.2.1 y.2.2.2.1))), (11, (AV.p (PV.list y.2.2.2.2.1 y.2.2.2.2.2.1))), (13, (AV.p (PV.list y.2.2.2.2.2.2.1 y.2.2.2.2.2.2.2.1))), (15, (AV.p (PV.int .i64 y.2.2.2.2.2.2.2.2.1)))]), (mm 365 [(4, (Bk.pcs true [(PV.int .i64 y.2.2.2.2.2.2.2.2.2.1), (PV.int .i64 y.2.2.2.2.2.2.2.2.2.2.1), (PV.int .i64 y.2.2.2.2.2.2.2.2.2.2.2.1), (PV.int .i64 y.2.2.2.2.2.2.2.2.2.2.2.2.1), (PV.int .i64 y.2.2.2.2.2.2.2.2.2.2.2.2.2.1), (PV.int .i64 y.2.2.2.2.2.2.2.2.2.2.2.2.2.2)]))])⟩)
def Iw_CloudApart_0b (q : Ext × S) : Nat × List PV × Nat × List PV × Nat × List PV × Nat × List PV × Int × Int × Int × Int × Int × Int × Int := ((pP_list0 (pA_p (avT q.2 0))), (pP_list1 (pA_p (avT q.2 0))), (pP_list0 (pA_p (avT q.2 9))), (pP_list1 (pA_p (avT q.2 9))), (pP_list0 (pA_p (avT q.2 11))), (pP_list1 (pA_p (avT q.2 11))), (pP_list0 (pA_p (avT q.2 13))), (pP_list1 (pA_p (avT q.2 13))), (pP_int1 (pA_p (avT q.2 15))), (pP_int1 (hdP (pB_pcs1 (avM q.2 4)))), (pP_int1 (hdP (List.tail (pB_pcs1 (avM q.2 4))))), (pP_int1 (hdP (List.tail (List.tail (pB_pcs1 (avM q.2 4)))))), (pP_int1 (hdP (List.tail (List.tail (List.tail (pB_pcs1 (avM q.2 4))))))), (pP_int1 (hdP (List.tail (List.tail (List.tail (List.tail (pB_pcs1 (avM q.2 4)))))))), (pP_int1 (hdP (List.tail (List.tail (List.tail (List.tail (List.tail (pB_pcs1 (avM q.2 4))))))))))
abbrev Yw_CloudApart_0 : Type := (Unit) ⊕ ((Nat × List PV × Nat × List PV × Nat × List PV × Nat × List PV × Int × Int × Int × Int × Int × Int × Int))
def XLw_CloudApart_0 : XL Yw_CloudApart_0 := .more Xw_CloudApart_0a (.one Xw_CloudApart_0b)
def Iw_CloudApart_0 (q : Ext × S) : Yw_CloudApart_0 := bif (cE q.1 == 2) then (Sum.inl (Iw_CloudApart_0a q)) else (Sum.inr (Iw_CloudApart_0b q))
theorem XIw_CloudApart_0a (y : Unit) : Iw_CloudApart_0 (xe (Xw_CloudApart_0a y)) = (Sum.inl y) := rfl
theorem XIw_CloudApart_0b (y : Nat × List PV × Nat × List PV × Nat × List PV × Nat × List PV × Int × Int × Int × Int × Int × Int × Int) : Iw_CloudApart_0 (xe (Xw_CloudApart_0b y)) = (Sum.inr y) := rfl
theorem XIw_CloudApart_0 (y : Yw_CloudApart_0) : Iw_CloudApart_0 (xe (XLw_CloudApart_0.fn y)) = y := (match y with | .inl y => XIw_CloudApart_0a y | .inr y => XIw_CloudApart_0b y)
noncomputable abbrev Lw_CloudApart_0 : Q → Option Yw_CloudApart_0 := lpO env a3.body 0 XLw_CloudApart_0
noncomputable abbrev Rw_CloudApart_0 : Q → Option (Ext × S) := lpR env a3.body 0
theorem Lw_CloudApart_0b_of {s : Q} {y : Nat × List PV × Nat × List PV × Nat × List PV × Nat × List PV × Int × Int × Int × Int × Int × Int × Int} (h : Rw_CloudApart_0 s = exO (Xw_CloudApart_0b y)) : Lw_CloudApart_0 s = some (Sum.inr y) := lpO_of Iw_CloudApart_0 XIw_CloudApart_0 (y := (Sum.inr y)) h
def Tw_CloudApart_2a (n0 : Nat) (c1 : List PV) (n2 : Nat) (c3 : List PV) (n4 : Nat) (c5 : List PV) (n6 : Nat) (c7 : List PV) (i8 : Int) (i9 : Int) (i10 : Int) (i11 : Int) (i12 : Int) (i13 : Int) (i14 : Int) (i15 : Int) (i16 : Int) (i17 : Int) : Q := ⟨(tm 365 [(0, (AV.p (PV.list n0 c1))), (4, (AV.loc 4 0)), (9, (AV.p (PV.list n2 c3))), (11, (AV.p (PV.list n4 c5))), (13, (AV.p (PV.list n6 c7))), (15, (AV.p (PV.int .i64 i8))), (16, (AV.p (PV.int .i64 i9))), (17, (AV.p (PV.int .i64 i10))), (18, (AV.p (PV.int .i64 i11)))]), (mm 365 [(4, (Bk.pcs true [(PV.int .i64 i12), (PV.int .i64 i13), (PV.int .i64 i14), (PV.int .i64 i15), (PV.int .i64 i16), (PV.int .i64 i17)]))])⟩
def Xw_CloudApart_2a (_y : Unit) : Ext × Q := (Ext.ret, ⟨(tm 365 [(6, (AV.p (PV.bool false)))]), (mm 365 [])⟩)
def Iw_CloudApart_2a (_q : Ext × S) : Unit := ()
def Xw_CloudApart_2b (y : Nat × List PV × Nat × List PV × Nat × List PV × Nat × List PV × Int × Int × Int × Int × Int × Int × Int × Int) : Ext × Q := (Ext.normal, ⟨(tm 365 [(0, (AV.p (PV.list y.1 y.2.1))), (4, (AV.loc 4 0)), (9, (AV.p (PV.list y.2.2.1 y.2.2.2.1))), (11, (AV.p (PV.list y.2.2.2.2.1 y.2.2.2.2.2.1))), (13, (AV.p (PV.list y.2.2.2.2.2.2.1 y.2.2.2.2.2.2.2.1))), (15, (AV.p (PV.int .i64 y.2.2.2.2.2.2.2.2.1))), (16, (AV.p (PV.int .i64 y.2.2.2.2.2.2.2.2.2.1)))]), (mm 365 [(4, (Bk.pcs true [(PV.int .i64 y.2.2.2.2.2.2.2.2.2.2.1), (PV.int .i64 y.2.2.2.2.2.2.2.2.2.2.2.1), (PV.int .i64 y.2.2.2.2.2.2.2.2.2.2.2.2.1), (PV.int .i64 y.2.2.2.2.2.2.2.2.2.2.2.2.2.1), (PV.int .i64 y.2.2.2.2.2.2.2.2.2.2.2.2.2.2.1), (PV.int .i64 y.2.2.2.2.2.2.2.2.2.2.2.2.2.2.2)]))])⟩)
def Iw_CloudApart_2b (q : Ext × S) : Nat × List PV × Nat × List PV × Nat × List PV × Nat × List PV × Int × Int × Int × Int × Int × Int × Int × Int := ((pP_list0 (pA_p (avT q.2 0))), (pP_list1 (pA_p (avT q.2 0))), (pP_list0 (pA_p (avT q.2 9))), (pP_list1 (pA_p (avT q.2 9))), (pP_list0 (pA_p (avT q.2 11))), (pP_list1 (pA_p (avT q.2 11))), (pP_list0 (pA_p (avT q.2 13))), (pP_list1 (pA_p (avT q.2 13))), (pP_int1 (pA_p (avT q.2 15))), (pP_int1 (pA_p (avT q.2 16))), (pP_int1 (hdP (pB_pcs1 (avM q.2 4)))), (pP_int1 (hdP (List.tail (pB_pcs1 (avM q.2 4))))), (pP_int1 (hdP (List.tail (List.tail (pB_pcs1 (avM q.2 4)))))), (pP_int1 (hdP (List.tail (List.tail (List.tail (pB_pcs1 (avM q.2 4))))))), (pP_int1 (hdP (List.tail (List.tail (List.tail (List.tail (pB_pcs1 (avM q.2 4)))))))), (pP_int1 (hdP (List.tail (List.tail (List.tail (List.tail (List.tail (pB_pcs1 (avM q.2 4))))))))))
abbrev Yw_CloudApart_2 : Type := (Unit) ⊕ ((Nat × List PV × Nat × List PV × Nat × List PV × Nat × List PV × Int × Int × Int × Int × Int × Int × Int × Int))
def XLw_CloudApart_2 : XL Yw_CloudApart_2 := .more Xw_CloudApart_2a (.one Xw_CloudApart_2b)
def Iw_CloudApart_2 (q : Ext × S) : Yw_CloudApart_2 := bif (cE q.1 == 2) then (Sum.inl (Iw_CloudApart_2a q)) else (Sum.inr (Iw_CloudApart_2b q))
theorem XIw_CloudApart_2a (y : Unit) : Iw_CloudApart_2 (xe (Xw_CloudApart_2a y)) = (Sum.inl y) := rfl
theorem XIw_CloudApart_2b (y : Nat × List PV × Nat × List PV × Nat × List PV × Nat × List PV × Int × Int × Int × Int × Int × Int × Int × Int) : Iw_CloudApart_2 (xe (Xw_CloudApart_2b y)) = (Sum.inr y) := rfl
theorem XIw_CloudApart_2 (y : Yw_CloudApart_2) : Iw_CloudApart_2 (xe (XLw_CloudApart_2.fn y)) = y := (match y with | .inl y => XIw_CloudApart_2a y | .inr y => XIw_CloudApart_2b y)
noncomputable abbrev Lw_CloudApart_2 : Q → Option Yw_CloudApart_2 := lpO env a3.body 2 XLw_CloudApart_2
noncomputable abbrev Rw_CloudApart_2 : Q → Option (Ext × S) := lpR env a3.body 2
theorem Lw_CloudApart_2b_of {s : Q} {y : Nat × List PV × Nat × List PV × Nat × List PV × Nat × List PV × Int × Int × Int × Int × Int × Int × Int × Int} (h : Rw_CloudApart_2 s = exO (Xw_CloudApart_2b y)) : Lw_CloudApart_2 s = some (Sum.inr y) := lpO_of Iw_CloudApart_2 XIw_CloudApart_2 (y := (Sum.inr y)) h
def Tw_CloudApart_4a (n0 : Nat) (c1 : List PV) (n2 : Nat) (c3 : List PV) (n4 : Nat) (c5 : List PV) (n6 : Nat) (c7 : List PV) (i8 : Int) (i9 : Int) (i10 : Int) (i11 : Int) (i12 : Int) (i13 : Int) (i14 : Int) (i15 : Int) : Q := ⟨(tm 365 [(0, (AV.p (PV.list n0 c1))), (4, (AV.loc 4 0)), (9, (AV.p (PV.list n2 c3))), (11, (AV.p (PV.list n4 c5))), (13, (AV.p (PV.list n6 c7))), (15, (AV.p (PV.int .i64 i8))), (19, (AV.p (PV.int .i64 i9)))]), (mm 365 [(4, (Bk.pcs true [(PV.int .i64 i10), (PV.int .i64 i11), (PV.int .i64 i12), (PV.int .i64 i13), (PV.int .i64 i14), (PV.int .i64 i15)]))])⟩
def Xw_CloudApart_4a (y : Nat × List PV × Nat × List PV × Nat × List PV × Nat × List PV × Int × Int × Int × Int × Int × Int × Int) : Ext × Q := (Ext.normal, ⟨(tm 365 [(0, (AV.p (PV.list y.1 y.2.1))), (4, (AV.loc 4 0)), (9, (AV.p (PV.list y.2.2.1 y.2.2.2.1))), (11, (AV.p (PV.list y.2.2.2.2.1 y.2.2.2.2.2.1))), (13, (AV.p (PV.list y.2.2.2.2.2.2.1 y.2.2.2.2.2.2.2.1))), (15, (AV.p (PV.int .i64 y.2.2.2.2.2.2.2.2.1)))]), (mm 365 [(4, (Bk.pcs true [(PV.int .i64 y.2.2.2.2.2.2.2.2.2.1), (PV.int .i64 y.2.2.2.2.2.2.2.2.2.2.1), (PV.int .i64 y.2.2.2.2.2.2.2.2.2.2.2.1), (PV.int .i64 y.2.2.2.2.2.2.2.2.2.2.2.2.1), (PV.int .i64 y.2.2.2.2.2.2.2.2.2.2.2.2.2.1), (PV.int .i64 y.2.2.2.2.2.2.2.2.2.2.2.2.2.2)]))])⟩)
def Iw_CloudApart_4a (q : Ext × S) : Nat × List PV × Nat × List PV × Nat × List PV × Nat × List PV × Int × Int × Int × Int × Int × Int × Int := ((pP_list0 (pA_p (avT q.2 0))), (pP_list1 (pA_p (avT q.2 0))), (pP_list0 (pA_p (avT q.2 9))), (pP_list1 (pA_p (avT q.2 9))), (pP_list0 (pA_p (avT q.2 11))), (pP_list1 (pA_p (avT q.2 11))), (pP_list0 (pA_p (avT q.2 13))), (pP_list1 (pA_p (avT q.2 13))), (pP_int1 (pA_p (avT q.2 15))), (pP_int1 (hdP (pB_pcs1 (avM q.2 4)))), (pP_int1 (hdP (List.tail (pB_pcs1 (avM q.2 4))))), (pP_int1 (hdP (List.tail (List.tail (pB_pcs1 (avM q.2 4)))))), (pP_int1 (hdP (List.tail (List.tail (List.tail (pB_pcs1 (avM q.2 4))))))), (pP_int1 (hdP (List.tail (List.tail (List.tail (List.tail (pB_pcs1 (avM q.2 4)))))))), (pP_int1 (hdP (List.tail (List.tail (List.tail (List.tail (List.tail (pB_pcs1 (avM q.2 4))))))))))
abbrev Yw_CloudApart_4 : Type := Nat × List PV × Nat × List PV × Nat × List PV × Nat × List PV × Int × Int × Int × Int × Int × Int × Int
def XLw_CloudApart_4 : XL Yw_CloudApart_4 := .one Xw_CloudApart_4a
def Iw_CloudApart_4 (q : Ext × S) : Yw_CloudApart_4 := (Iw_CloudApart_4a q)
theorem XIw_CloudApart_4a (y : Nat × List PV × Nat × List PV × Nat × List PV × Nat × List PV × Int × Int × Int × Int × Int × Int × Int) : Iw_CloudApart_4 (xe (Xw_CloudApart_4a y)) = y := rfl
theorem XIw_CloudApart_4 (y : Yw_CloudApart_4) : Iw_CloudApart_4 (xe (XLw_CloudApart_4.fn y)) = y := XIw_CloudApart_4a y
noncomputable abbrev Lw_CloudApart_4 : Q → Option Yw_CloudApart_4 := lpO env a3.body 4 XLw_CloudApart_4
noncomputable abbrev Rw_CloudApart_4 : Q → Option (Ext × S) := lpR env a3.body 4
theorem Lw_CloudApart_4a_of {s : Q} {y : Nat × List PV × Nat × List PV × Nat × List PV × Nat × List PV × Int × Int × Int × Int × Int × Int × Int} (h : Rw_CloudApart_4 s = exO (Xw_CloudApart_4a y)) : Lw_CloudApart_4 s = some y := lpO_of Iw_CloudApart_4 XIw_CloudApart_4 (y := y) h
def Tw_CloudApart_6a (n0 : Nat) (c1 : List PV) (n2 : Nat) (c3 : List PV) (n4 : Nat) (c5 : List PV) (n6 : Nat) (c7 : List PV) (i8 : Int) (i9 : Int) (i10 : Int) (i11 : Int) (i12 : Int) (i13 : Int) (i14 : Int) : Q := ⟨(tm 365 [(0, (AV.p (PV.list n0 c1))), (4, (AV.loc 4 0)), (9, (AV.p (PV.list n2 c3))), (11, (AV.p (PV.list n4 c5))), (13, (AV.p (PV.list n6 c7))), (20, (AV.p (PV.int .i64 i8)))]), (mm 365 [(4, (Bk.pcs true [(PV.int .i64 i9), (PV.int .i64 i10), (PV.int .i64 i11), (PV.int .i64 i12), (PV.int .i64 i13), (PV.int .i64 i14)]))])⟩
def Xw_CloudApart_6a (y : Nat × List PV × Int × Int × Int × Int × Int × Int) : Ext × Q := (Ext.normal, ⟨(tm 365 [(0, (AV.p (PV.list y.1 y.2.1))), (4, (AV.loc 4 0))]), (mm 365 [(4, (Bk.pcs true [(PV.int .i64 y.2.2.1), (PV.int .i64 y.2.2.2.1), (PV.int .i64 y.2.2.2.2.1), (PV.int .i64 y.2.2.2.2.2.1), (PV.int .i64 y.2.2.2.2.2.2.1), (PV.int .i64 y.2.2.2.2.2.2.2)]))])⟩)
def Iw_CloudApart_6a (q : Ext × S) : Nat × List PV × Int × Int × Int × Int × Int × Int := ((pP_list0 (pA_p (avT q.2 0))), (pP_list1 (pA_p (avT q.2 0))), (pP_int1 (hdP (pB_pcs1 (avM q.2 4)))), (pP_int1 (hdP (List.tail (pB_pcs1 (avM q.2 4))))), (pP_int1 (hdP (List.tail (List.tail (pB_pcs1 (avM q.2 4)))))), (pP_int1 (hdP (List.tail (List.tail (List.tail (pB_pcs1 (avM q.2 4))))))), (pP_int1 (hdP (List.tail (List.tail (List.tail (List.tail (pB_pcs1 (avM q.2 4)))))))), (pP_int1 (hdP (List.tail (List.tail (List.tail (List.tail (List.tail (pB_pcs1 (avM q.2 4))))))))))
def Xw_CloudApart_6b (_y : Unit) : Ext × Q := (Ext.ret, ⟨(tm 365 [(6, (AV.p (PV.bool false)))]), (mm 365 [])⟩)
def Iw_CloudApart_6b (_q : Ext × S) : Unit := ()
abbrev Yw_CloudApart_6 : Type := (Nat × List PV × Int × Int × Int × Int × Int × Int) ⊕ ((Unit))
def XLw_CloudApart_6 : XL Yw_CloudApart_6 := .more Xw_CloudApart_6a (.one Xw_CloudApart_6b)
def Iw_CloudApart_6 (q : Ext × S) : Yw_CloudApart_6 := bif (cE q.1 == 0) then (Sum.inl (Iw_CloudApart_6a q)) else (Sum.inr (Iw_CloudApart_6b q))
theorem XIw_CloudApart_6a (y : Nat × List PV × Int × Int × Int × Int × Int × Int) : Iw_CloudApart_6 (xe (Xw_CloudApart_6a y)) = (Sum.inl y) := rfl
theorem XIw_CloudApart_6b (y : Unit) : Iw_CloudApart_6 (xe (Xw_CloudApart_6b y)) = (Sum.inr y) := rfl
theorem XIw_CloudApart_6 (y : Yw_CloudApart_6) : Iw_CloudApart_6 (xe (XLw_CloudApart_6.fn y)) = y := (match y with | .inl y => XIw_CloudApart_6a y | .inr y => XIw_CloudApart_6b y)
noncomputable abbrev Lw_CloudApart_6 : Q → Option Yw_CloudApart_6 := lpO env a3.body 6 XLw_CloudApart_6
noncomputable abbrev Rw_CloudApart_6 : Q → Option (Ext × S) := lpR env a3.body 6
theorem Lw_CloudApart_6a_of {s : Q} {y : Nat × List PV × Int × Int × Int × Int × Int × Int} (h : Rw_CloudApart_6 s = exO (Xw_CloudApart_6a y)) : Lw_CloudApart_6 s = some (Sum.inl y) := lpO_of Iw_CloudApart_6 XIw_CloudApart_6 (y := (Sum.inl y)) h
def Tw_CloudApart_8a (n0 : Nat) (c1 : List PV) (n2 : Nat) (c3 : List PV) (n4 : Nat) (c5 : List PV) (n6 : Nat) (c7 : List PV) (i8 : Int) (b9 : Bool) (i10 : Int) (i11 : Int) (i12 : Int) (i13 : Int) (i14 : Int) (i15 : Int) (i16 : Int) : Q := ⟨(tm 365 [(0, (AV.p (PV.list n0 c1))), (4, (AV.loc 4 0)), (9, (AV.p (PV.list n2 c3))), (11, (AV.p (PV.list n4 c5))), (13, (AV.p (PV.list n6 c7))), (20, (AV.p (PV.int .i64 i8))), (21, (AV.p (PV.bool b9))), (22, (AV.p (PV.bool false))), (23, (AV.p (PV.int .i64 i10)))]), (mm 365 [(4, (Bk.pcs true [(PV.int .i64 i11), (PV.int .i64 i12), (PV.int .i64 i13), (PV.int .i64 i14), (PV.int .i64 i15), (PV.int .i64 i16)]))])⟩
def Xw_CloudApart_8a (y : Nat × List PV × Nat × List PV × Nat × List PV × Nat × List PV × Int × Bool × Int × Int × Int × Int × Int × Int) : Ext × Q := (Ext.normal, ⟨(tm 365 [(0, (AV.p (PV.list y.1 y.2.1))), (4, (AV.loc 4 0)), (9, (AV.p (PV.list y.2.2.1 y.2.2.2.1))), (11, (AV.p (PV.list y.2.2.2.2.1 y.2.2.2.2.2.1))), (13, (AV.p (PV.list y.2.2.2.2.2.2.1 y.2.2.2.2.2.2.2.1))), (20, (AV.p (PV.int .i64 y.2.2.2.2.2.2.2.2.1))), (21, (AV.p (PV.bool y.2.2.2.2.2.2.2.2.2.1))), (22, (AV.p (PV.bool false)))]), (mm 365 [(4, (Bk.pcs true [(PV.int .i64 y.2.2.2.2.2.2.2.2.2.2.1), (PV.int .i64 y.2.2.2.2.2.2.2.2.2.2.2.1), (PV.int .i64 y.2.2.2.2.2.2.2.2.2.2.2.2.1), (PV.int .i64 y.2.2.2.2.2.2.2.2.2.2.2.2.2.1), (PV.int .i64 y.2.2.2.2.2.2.2.2.2.2.2.2.2.2.1), (PV.int .i64 y.2.2.2.2.2.2.2.2.2.2.2.2.2.2.2)]))])⟩)
def Iw_CloudApart_8a (q : Ext × S) : Nat × List PV × Nat × List PV × Nat × List PV × Nat × List PV × Int × Bool × Int × Int × Int × Int × Int × Int := ((pP_list0 (pA_p (avT q.2 0))), (pP_list1 (pA_p (avT q.2 0))), (pP_list0 (pA_p (avT q.2 9))), (pP_list1 (pA_p (avT q.2 9))), (pP_list0 (pA_p (avT q.2 11))), (pP_list1 (pA_p (avT q.2 11))), (pP_list0 (pA_p (avT q.2 13))), (pP_list1 (pA_p (avT q.2 13))), (pP_int1 (pA_p (avT q.2 20))), (pP_bool0 (pA_p (avT q.2 21))), (pP_int1 (hdP (pB_pcs1 (avM q.2 4)))), (pP_int1 (hdP (List.tail (pB_pcs1 (avM q.2 4))))), (pP_int1 (hdP (List.tail (List.tail (pB_pcs1 (avM q.2 4)))))), (pP_int1 (hdP (List.tail (List.tail (List.tail (pB_pcs1 (avM q.2 4))))))), (pP_int1 (hdP (List.tail (List.tail (List.tail (List.tail (pB_pcs1 (avM q.2 4)))))))), (pP_int1 (hdP (List.tail (List.tail (List.tail (List.tail (List.tail (pB_pcs1 (avM q.2 4))))))))))
abbrev Yw_CloudApart_8 : Type := Nat × List PV × Nat × List PV × Nat × List PV × Nat × List PV × Int × Bool × Int × Int × Int × Int × Int × Int
def XLw_CloudApart_8 : XL Yw_CloudApart_8 := .one Xw_CloudApart_8a
def Iw_CloudApart_8 (q : Ext × S) : Yw_CloudApart_8 := (Iw_CloudApart_8a q)
theorem XIw_CloudApart_8a (y : Nat × List PV × Nat × List PV × Nat × List PV × Nat × List PV × Int × Bool × Int × Int × Int × Int × Int × Int) : Iw_CloudApart_8 (xe (Xw_CloudApart_8a y)) = y := rfl
theorem XIw_CloudApart_8 (y : Yw_CloudApart_8) : Iw_CloudApart_8 (xe (XLw_CloudApart_8.fn y)) = y := XIw_CloudApart_8a y
noncomputable abbrev Lw_CloudApart_8 : Q → Option Yw_CloudApart_8 := lpO env a3.body 8 XLw_CloudApart_8
noncomputable abbrev Rw_CloudApart_8 : Q → Option (Ext × S) := lpR env a3.body 8
theorem Lw_CloudApart_8a_of {s : Q} {y : Nat × List PV × Nat × List PV × Nat × List PV × Nat × List PV × Int × Bool × Int × Int × Int × Int × Int × Int} (h : Rw_CloudApart_8 s = exO (Xw_CloudApart_8a y)) : Lw_CloudApart_8 s = some y := lpO_of Iw_CloudApart_8 XIw_CloudApart_8 (y := y) h
def Tw_CloudApart_10a (n0 : Nat) (c1 : List PV) (n2 : Nat) (c3 : List PV) (n4 : Nat) (c5 : List PV) (n6 : Nat) (c7 : List PV) (i8 : Int) (b9 : Bool) (b10 : Bool) (i11 : Int) (i12 : Int) (i13 : Int) (i14 : Int) (i15 : Int) (i16 : Int) (i17 : Int) : Q := ⟨(tm 365 [(0, (AV.p (PV.list n0 c1))), (4, (AV.loc 4 0)), (9, (AV.p (PV.list n2 c3))), (11, (AV.p (PV.list n4 c5))), (13, (AV.p (PV.list n6 c7))), (20, (AV.p (PV.int .i64 i8))), (21, (AV.p (PV.bool b9))), (22, (AV.p (PV.bool b10))), (24, (AV.p (PV.int .i64 i11)))]), (mm 365 [(4, (Bk.pcs true [(PV.int .i64 i12), (PV.int .i64 i13), (PV.int .i64 i14), (PV.int .i64 i15), (PV.int .i64 i16), (PV.int .i64 i17)]))])⟩
def Xw_CloudApart_10a (y : Nat × List PV × Nat × List PV × Nat × List PV × Nat × List PV × Int × Bool × Bool × Int × Int × Int × Int × Int × Int) : Ext × Q := (Ext.normal, ⟨(tm 365 [(0, (AV.p (PV.list y.1 y.2.1))), (4, (AV.loc 4 0)), (9, (AV.p (PV.list y.2.2.1 y.2.2.2.1))), (11, (AV.p (PV.list y.2.2.2.2.1 y.2.2.2.2.2.1))), (13, (AV.p (PV.list y.2.2.2.2.2.2.1 y.2.2.2.2.2.2.2.1))), (20, (AV.p (PV.int .i64 y.2.2.2.2.2.2.2.2.1))), (21, (AV.p (PV.bool y.2.2.2.2.2.2.2.2.2.1))), (22, (AV.p (PV.bool y.2.2.2.2.2.2.2.2.2.2.1)))]), (mm 365 [(4, (Bk.pcs true [(PV.int .i64 y.2.2.2.2.2.2.2.2.2.2.2.1), (PV.int .i64 y.2.2.2.2.2.2.2.2.2.2.2.2.1), (PV.int .i64 y.2.2.2.2.2.2.2.2.2.2.2.2.2.1), (PV.int .i64 y.2.2.2.2.2.2.2.2.2.2.2.2.2.2.1), (PV.int .i64 y.2.2.2.2.2.2.2.2.2.2.2.2.2.2.2.1), (PV.int .i64 y.2.2.2.2.2.2.2.2.2.2.2.2.2.2.2.2)]))])⟩)
def Iw_CloudApart_10a (q : Ext × S) : Nat × List PV × Nat × List PV × Nat × List PV × Nat × List PV × Int × Bool × Bool × Int × Int × Int × Int × Int × Int := ((pP_list0 (pA_p (avT q.2 0))), (pP_list1 (pA_p (avT q.2 0))), (pP_list0 (pA_p (avT q.2 9))), (pP_list1 (pA_p (avT q.2 9))), (pP_list0 (pA_p (avT q.2 11))), (pP_list1 (pA_p (avT q.2 11))), (pP_list0 (pA_p (avT q.2 13))), (pP_list1 (pA_p (avT q.2 13))), (pP_int1 (pA_p (avT q.2 20))), (pP_bool0 (pA_p (avT q.2 21))), (pP_bool0 (pA_p (avT q.2 22))), (pP_int1 (hdP (pB_pcs1 (avM q.2 4)))), (pP_int1 (hdP (List.tail (pB_pcs1 (avM q.2 4))))), (pP_int1 (hdP (List.tail (List.tail (pB_pcs1 (avM q.2 4)))))), (pP_int1 (hdP (List.tail (List.tail (List.tail (pB_pcs1 (avM q.2 4))))))), (pP_int1 (hdP (List.tail (List.tail (List.tail (List.tail (pB_pcs1 (avM q.2 4)))))))), (pP_int1 (hdP (List.tail (List.tail (List.tail (List.tail (List.tail (pB_pcs1 (avM q.2 4))))))))))
abbrev Yw_CloudApart_10 : Type := Nat × List PV × Nat × List PV × Nat × List PV × Nat × List PV × Int × Bool × Bool × Int × Int × Int × Int × Int × Int
def XLw_CloudApart_10 : XL Yw_CloudApart_10 := .one Xw_CloudApart_10a
def Iw_CloudApart_10 (q : Ext × S) : Yw_CloudApart_10 := (Iw_CloudApart_10a q)
theorem XIw_CloudApart_10a (y : Nat × List PV × Nat × List PV × Nat × List PV × Nat × List PV × Int × Bool × Bool × Int × Int × Int × Int × Int × Int) : Iw_CloudApart_10 (xe (Xw_CloudApart_10a y)) = y := rfl
theorem XIw_CloudApart_10 (y : Yw_CloudApart_10) : Iw_CloudApart_10 (xe (XLw_CloudApart_10.fn y)) = y := XIw_CloudApart_10a y
noncomputable abbrev Lw_CloudApart_10 : Q → Option Yw_CloudApart_10 := lpO env a3.body 10 XLw_CloudApart_10
noncomputable abbrev Rw_CloudApart_10 : Q → Option (Ext × S) := lpR env a3.body 10
theorem Lw_CloudApart_10a_of {s : Q} {y : Nat × List PV × Nat × List PV × Nat × List PV × Nat × List PV × Int × Bool × Bool × Int × Int × Int × Int × Int × Int} (h : Rw_CloudApart_10 s = exO (Xw_CloudApart_10a y)) : Lw_CloudApart_10 s = some y := lpO_of Iw_CloudApart_10 XIw_CloudApart_10 (y := y) h
theorem Uw_CloudApart : uniq ((blocksOf a3.body).map (·.1)) = true := by kernel_rfl
def Bw_CloudApart_0a (F : FnT) (N : QO) (E : EO) (_L0 : Q → Option Yw_CloudApart_0) (L2 : Q → Option Yw_CloudApart_2) (_L4 : Q → Option Yw_CloudApart_4) (_L6 : Q → Option Yw_CloudApart_6) (_L8 : Q → Option Yw_CloudApart_8) (_L10 : Q → Option Yw_CloudApart_10) (n0 : Nat) (c1 : List PV) (n2 : Nat) (c3 : List PV) (n4 : Nat) (c5 : List PV) (n6 : Nat) (c7 : List PV) (i8 : Int) (i9 : Int) (i10 : Int) (i11 : Int) (i12 : Int) (i13 : Int) (i14 : Int) (i15 : Int) : Option (Ext × S) :=
  bif (decide (i9 < (n4 : Int))) then
    bif (decide (((0 : Int) ≤ i9) ∧ (i9 < (n4 : Int)))) then
      bindO (intC .i64 (c5[(((Int.toNat i9) * 2) + 0)]?)) fun x0 =>
      bindO (F 14 (RSh.one CK.bool) [(PV.int .i64 x0), (PV.int .i64 (0 : Int)), (PV.int .i64 (w64 ((n0 : Int) - (1 : Int))))]) fun (y1 : (Bool)) =>
      bif y1 then
        bif (decide (((0 : Int) ≤ i9) ∧ (i9 < (n4 : Int)))) then
          bindO (intC .i64 (c5[(((Int.toNat i9) * 2) + 1)]?)) fun x2 =>
          bif (decide (((0 : Int) ≤ i9) ∧ (i9 < (n4 : Int)))) then
            bindO (intC .i64 (c5[(((Int.toNat i9) * 2) + 0)]?)) fun x3 =>
            bindO (F 14 (RSh.one CK.bool) [(PV.int .i64 x2), (PV.int .i64 x3), (PV.int .i64 (w64 ((n0 : Int) - (1 : Int))))]) fun (y4 : (Bool)) =>
            bif y4 then
              bif (decide (i9 > (0 : Int))) then
                bif (decide (((0 : Int) ≤ i9) ∧ (i9 < (n4 : Int)))) then
                  bindO (intC .i64 (c5[(((Int.toNat i9) * 2) + 0)]?)) fun x5 =>
                  bif (decide (((0 : Int) ≤ (w64 (i9 - (1 : Int)))) ∧ ((w64 (i9 - (1 : Int))) < (n4 : Int)))) then
                    bindO (intC .i64 (c5[(((Int.toNat (w64 (i9 - (1 : Int)))) * 2) + 1)]?)) fun x6 =>
                    bif (decide ((w64 ((w64 (x5 - x6)) - (1 : Int))) ≤ i14)) then
                      E (Xw_CloudApart_0a ())
                    else bif (decide (((0 : Int) ≤ i9) ∧ (i9 < (n4 : Int)))) then
                      bindO (intC .i64 (c5[(((Int.toNat i9) * 2) + 0)]?)) fun x7 =>
                      bif (decide (((0 : Int) ≤ x7) ∧ (x7 < (n0 : Int)))) then
                        bindO (intC .i64 (c1[((Int.toNat x7) * 1)]?)) fun x8 =>
                        bif (decide (x8 < i13)) then
                          E (Xw_CloudApart_0a ())
                        else bif (decide (((0 : Int) ≤ i9) ∧ (i9 < (n4 : Int)))) then
                          bindO (intC .i64 (c5[(((Int.toNat i9) * 2) + 1)]?)) fun x9 =>
                          bif (decide (((0 : Int) ≤ x9) ∧ (x9 < (n0 : Int)))) then
                            bindO (intC .i64 (c1[((Int.toNat x9) * 1)]?)) fun x10 =>
                            bif (decide (x10 < i13)) then
                              E (Xw_CloudApart_0a ())
                            else bif (decide (((0 : Int) ≤ i9) ∧ (i9 < (n4 : Int)))) then
                              bindO (intC .i64 (c5[(((Int.toNat i9) * 2) + 0)]?)) fun x11 =>
                              bindO (L2 (Tw_CloudApart_2a n0 c1 n2 c3 n4 c5 n6 c7 i8 i9 (0 : Int) x11 i10 i11 i12 i13 i14 i15)) fun z =>
                              Sum.elim (fun _y12 =>
                                E (Xw_CloudApart_0a ())) (fun y13 =>
                                N (Tw_CloudApart_0a y13.1 y13.2.1 y13.2.2.1 y13.2.2.2.1 y13.2.2.2.2.1 y13.2.2.2.2.2.1 y13.2.2.2.2.2.2.1 y13.2.2.2.2.2.2.2.1 y13.2.2.2.2.2.2.2.2.1 (w64 (y13.2.2.2.2.2.2.2.2.2.1 + (1 : Int))) y13.2.2.2.2.2.2.2.2.2.2.1 y13.2.2.2.2.2.2.2.2.2.2.2.1 y13.2.2.2.2.2.2.2.2.2.2.2.2.1 y13.2.2.2.2.2.2.2.2.2.2.2.2.2.1 y13.2.2.2.2.2.2.2.2.2.2.2.2.2.2.1 y13.2.2.2.2.2.2.2.2.2.2.2.2.2.2.2)) z
                            else none
                          else none
                        else none
                      else none
                    else none
                  else none
                else none
              else bif (decide (((0 : Int) ≤ i9) ∧ (i9 < (n4 : Int)))) then
                bindO (intC .i64 (c5[(((Int.toNat i9) * 2) + 0)]?)) fun x14 =>
                bif (decide (((0 : Int) ≤ x14) ∧ (x14 < (n0 : Int)))) then
                  bindO (intC .i64 (c1[((Int.toNat x14) * 1)]?)) fun x15 =>
                  bif (decide (x15 < i13)) then
                    E (Xw_CloudApart_0a ())
                  else bif (decide (((0 : Int) ≤ i9) ∧ (i9 < (n4 : Int)))) then
                    bindO (intC .i64 (c5[(((Int.toNat i9) * 2) + 1)]?)) fun x16 =>
                    bif (decide (((0 : Int) ≤ x16) ∧ (x16 < (n0 : Int)))) then
                      bindO (intC .i64 (c1[((Int.toNat x16) * 1)]?)) fun x17 =>
                      bif (decide (x17 < i13)) then
                        E (Xw_CloudApart_0a ())
                      else bif (decide (((0 : Int) ≤ i9) ∧ (i9 < (n4 : Int)))) then
                        bindO (intC .i64 (c5[(((Int.toNat i9) * 2) + 0)]?)) fun x18 =>
                        bindO (L2 (Tw_CloudApart_2a n0 c1 n2 c3 n4 c5 n6 c7 i8 i9 (0 : Int) x18 i10 i11 i12 i13 i14 i15)) fun z =>
                        Sum.elim (fun _y19 =>
                          E (Xw_CloudApart_0a ())) (fun y20 =>
                          N (Tw_CloudApart_0a y20.1 y20.2.1 y20.2.2.1 y20.2.2.2.1 y20.2.2.2.2.1 y20.2.2.2.2.2.1 y20.2.2.2.2.2.2.1 y20.2.2.2.2.2.2.2.1 y20.2.2.2.2.2.2.2.2.1 (w64 (y20.2.2.2.2.2.2.2.2.2.1 + (1 : Int))) y20.2.2.2.2.2.2.2.2.2.2.1 y20.2.2.2.2.2.2.2.2.2.2.2.1 y20.2.2.2.2.2.2.2.2.2.2.2.2.1 y20.2.2.2.2.2.2.2.2.2.2.2.2.2.1 y20.2.2.2.2.2.2.2.2.2.2.2.2.2.2.1 y20.2.2.2.2.2.2.2.2.2.2.2.2.2.2.2)) z
                      else none
                    else none
                  else none
                else none
              else none
            else E (Xw_CloudApart_0a ())
          else none
        else none
      else E (Xw_CloudApart_0a ())
    else none
  else E (Xw_CloudApart_0b (n0, c1, n2, c3, n4, c5, n6, c7, i8, i10, i11, i12, i13, i14, i15))
theorem Bw_CloudApart_0a_eq (F : FnT) (N : QO) (E : EO) (L0 : Q → Option Yw_CloudApart_0) (L2 : Q → Option Yw_CloudApart_2) (L4 : Q → Option Yw_CloudApart_4) (L6 : Q → Option Yw_CloudApart_6) (L8 : Q → Option Yw_CloudApart_8) (L10 : Q → Option Yw_CloudApart_10) (n0 : Nat) (c1 : List PV) (n2 : Nat) (c3 : List PV) (n4 : Nat) (c5 : List PV) (n6 : Nat) (c7 : List PV) (i8 : Int) (i9 : Int) (i10 : Int) (i11 : Int) (i12 : Int) (i13 : Int) (i14 : Int) (i15 : Int) : semB (callP F Ew_CloudApart 20) s3 (loopT [⟨0, Yw_CloudApart_0, L0, XLw_CloudApart_0⟩, ⟨2, Yw_CloudApart_2, L2, XLw_CloudApart_2⟩, ⟨4, Yw_CloudApart_4, L4, XLw_CloudApart_4⟩, ⟨6, Yw_CloudApart_6, L6, XLw_CloudApart_6⟩, ⟨8, Yw_CloudApart_8, L8, XLw_CloudApart_8⟩, ⟨10, Yw_CloudApart_10, L10, XLw_CloudApart_10⟩]) 400 (blkIn a3.body 0) N E (Tw_CloudApart_0a n0 c1 n2 c3 n4 c5 n6 c7 i8 i9 i10 i11 i12 i13 i14 i15) = Bw_CloudApart_0a F N E L0 L2 L4 L6 L8 L10 n0 c1 n2 c3 n4 c5 n6 c7 i8 i9 i10 i11 i12 i13 i14 i15 := by kernel_rfl
theorem Rw_CloudApart_0a_of  (n0 : Nat) (c1 : List PV) (n2 : Nat) (c3 : List PV) (n4 : Nat) (c5 : List PV) (n6 : Nat) (c7 : List PV) (i8 : Int) (i9 : Int) (i10 : Int) (i11 : Int) (i12 : Int) (i13 : Int) (i14 : Int) (i15 : Int) {r : Ext × S} (h : Bw_CloudApart_0a (Fn env) Rw_CloudApart_0 exO Lw_CloudApart_0 Lw_CloudApart_2 Lw_CloudApart_4 Lw_CloudApart_6 Lw_CloudApart_8 Lw_CloudApart_10 n0 c1 n2 c3 n4 c5 n6 c7 i8 i9 i10 i11 i12 i13 i14 i15 = some r) : Rw_CloudApart_0 (Tw_CloudApart_0a n0 c1 n2 c3 n4 c5 n6 c7 i8 i9 i10 i11 i12 i13 i14 i15) = some r :=
  lp_of Ew_CloudApart_ok (by kernel_rfl) (lo_cons (lpO_ok Uw_CloudApart) (lo_cons (lpO_ok Uw_CloudApart) (lo_cons (lpO_ok Uw_CloudApart) (lo_cons (lpO_ok Uw_CloudApart) (lo_cons (lpO_ok Uw_CloudApart) (lo_cons (lpO_ok Uw_CloudApart) lo_nil)))))) (by kernel_rfl) ((Bw_CloudApart_0a_eq _ _ _ _ _ _ _ _ _ _ _ _ _ _ _ _ _ _ _ _ _ _ _ _ _).trans h)
def Bw_CloudApart_2a (_F : FnT) (N : QO) (E : EO) (_L0 : Q → Option Yw_CloudApart_0) (_L2 : Q → Option Yw_CloudApart_2) (_L4 : Q → Option Yw_CloudApart_4) (_L6 : Q → Option Yw_CloudApart_6) (_L8 : Q → Option Yw_CloudApart_8) (_L10 : Q → Option Yw_CloudApart_10) (n0 : Nat) (c1 : List PV) (n2 : Nat) (c3 : List PV) (n4 : Nat) (c5 : List PV) (n6 : Nat) (c7 : List PV) (i8 : Int) (i9 : Int) (i10 : Int) (i11 : Int) (i12 : Int) (i13 : Int) (i14 : Int) (i15 : Int) (i16 : Int) (i17 : Int) : Option (Ext × S) :=
  bif (decide (((0 : Int) ≤ i9) ∧ (i9 < (n4 : Int)))) then
    bindO (intC .i64 (c5[(((Int.toNat i9) * 2) + 1)]?)) fun x0 =>
    bif (decide (i11 ≤ x0)) then
      bif (decide (((0 : Int) ≤ i11) ∧ (i11 < (n0 : Int)))) then
        bindO (intC .i64 (c1[((Int.toNat i11) * 1)]?)) fun x1 =>
        bif (decide (x1 ≥ i15)) then
          bif (decide ((0 : Int) > i16)) then
            E (Xw_CloudApart_2a ())
          else N (Tw_CloudApart_2a n0 c1 n2 c3 n4 c5 n6 c7 (w64 (i8 + (1 : Int))) i9 (0 : Int) (w64 (i11 + (1 : Int))) i12 i13 i14 i15 i16 i17)
        else bif (decide ((w64 (i10 + (1 : Int))) > i16)) then
          E (Xw_CloudApart_2a ())
        else N (Tw_CloudApart_2a n0 c1 n2 c3 n4 c5 n6 c7 i8 i9 (w64 (i10 + (1 : Int))) (w64 (i11 + (1 : Int))) i12 i13 i14 i15 i16 i17)
      else none
    else E (Xw_CloudApart_2b (n0, c1, n2, c3, n4, c5, n6, c7, i8, i9, i12, i13, i14, i15, i16, i17))
  else none
theorem Bw_CloudApart_2a_eq (F : FnT) (N : QO) (E : EO) (L0 : Q → Option Yw_CloudApart_0) (L2 : Q → Option Yw_CloudApart_2) (L4 : Q → Option Yw_CloudApart_4) (L6 : Q → Option Yw_CloudApart_6) (L8 : Q → Option Yw_CloudApart_8) (L10 : Q → Option Yw_CloudApart_10) (n0 : Nat) (c1 : List PV) (n2 : Nat) (c3 : List PV) (n4 : Nat) (c5 : List PV) (n6 : Nat) (c7 : List PV) (i8 : Int) (i9 : Int) (i10 : Int) (i11 : Int) (i12 : Int) (i13 : Int) (i14 : Int) (i15 : Int) (i16 : Int) (i17 : Int) : semB (callP F Ew_CloudApart 20) s3 (loopT [⟨0, Yw_CloudApart_0, L0, XLw_CloudApart_0⟩, ⟨2, Yw_CloudApart_2, L2, XLw_CloudApart_2⟩, ⟨4, Yw_CloudApart_4, L4, XLw_CloudApart_4⟩, ⟨6, Yw_CloudApart_6, L6, XLw_CloudApart_6⟩, ⟨8, Yw_CloudApart_8, L8, XLw_CloudApart_8⟩, ⟨10, Yw_CloudApart_10, L10, XLw_CloudApart_10⟩]) 400 (blkIn a3.body 2) N E (Tw_CloudApart_2a n0 c1 n2 c3 n4 c5 n6 c7 i8 i9 i10 i11 i12 i13 i14 i15 i16 i17) = Bw_CloudApart_2a F N E L0 L2 L4 L6 L8 L10 n0 c1 n2 c3 n4 c5 n6 c7 i8 i9 i10 i11 i12 i13 i14 i15 i16 i17 := by kernel_rfl
theorem Rw_CloudApart_2a_of  (n0 : Nat) (c1 : List PV) (n2 : Nat) (c3 : List PV) (n4 : Nat) (c5 : List PV) (n6 : Nat) (c7 : List PV) (i8 : Int) (i9 : Int) (i10 : Int) (i11 : Int) (i12 : Int) (i13 : Int) (i14 : Int) (i15 : Int) (i16 : Int) (i17 : Int) {r : Ext × S} (h : Bw_CloudApart_2a (Fn env) Rw_CloudApart_2 exO Lw_CloudApart_0 Lw_CloudApart_2 Lw_CloudApart_4 Lw_CloudApart_6 Lw_CloudApart_8 Lw_CloudApart_10 n0 c1 n2 c3 n4 c5 n6 c7 i8 i9 i10 i11 i12 i13 i14 i15 i16 i17 = some r) : Rw_CloudApart_2 (Tw_CloudApart_2a n0 c1 n2 c3 n4 c5 n6 c7 i8 i9 i10 i11 i12 i13 i14 i15 i16 i17) = some r :=
  lp_of Ew_CloudApart_ok (by kernel_rfl) (lo_cons (lpO_ok Uw_CloudApart) (lo_cons (lpO_ok Uw_CloudApart) (lo_cons (lpO_ok Uw_CloudApart) (lo_cons (lpO_ok Uw_CloudApart) (lo_cons (lpO_ok Uw_CloudApart) (lo_cons (lpO_ok Uw_CloudApart) lo_nil)))))) (by kernel_rfl) ((Bw_CloudApart_2a_eq _ _ _ _ _ _ _ _ _ _ _ _ _ _ _ _ _ _ _ _ _ _ _ _ _ _ _).trans h)
def Bw_CloudApart_4a (_F : FnT) (N : QO) (E : EO) (_L0 : Q → Option Yw_CloudApart_0) (_L2 : Q → Option Yw_CloudApart_2) (_L4 : Q → Option Yw_CloudApart_4) (_L6 : Q → Option Yw_CloudApart_6) (_L8 : Q → Option Yw_CloudApart_8) (_L10 : Q → Option Yw_CloudApart_10) (n0 : Nat) (c1 : List PV) (n2 : Nat) (c3 : List PV) (n4 : Nat) (c5 : List PV) (n6 : Nat) (c7 : List PV) (i8 : Int) (i9 : Int) (i10 : Int) (i11 : Int) (i12 : Int) (i13 : Int) (i14 : Int) (i15 : Int) : Option (Ext × S) :=
  bif (decide (i9 < (n0 : Int))) then
    bif (decide (((0 : Int) ≤ i9) ∧ (i9 < (n0 : Int)))) then
      bindO (intC .i64 (c1[((Int.toNat i9) * 1)]?)) fun x0 =>
      bif (decide (x0 ≥ i13)) then
        N (Tw_CloudApart_4a n0 c1 n2 c3 n4 c5 n6 c7 (w64 (i8 - (1 : Int))) (w64 (i9 + (1 : Int))) i10 i11 i12 i13 i14 i15)
      else N (Tw_CloudApart_4a n0 c1 n2 c3 n4 c5 n6 c7 i8 (w64 (i9 + (1 : Int))) i10 i11 i12 i13 i14 i15)
    else none
  else E (Xw_CloudApart_4a (n0, c1, n2, c3, n4, c5, n6, c7, i8, i10, i11, i12, i13, i14, i15))
theorem Bw_CloudApart_4a_eq (F : FnT) (N : QO) (E : EO) (L0 : Q → Option Yw_CloudApart_0) (L2 : Q → Option Yw_CloudApart_2) (L4 : Q → Option Yw_CloudApart_4) (L6 : Q → Option Yw_CloudApart_6) (L8 : Q → Option Yw_CloudApart_8) (L10 : Q → Option Yw_CloudApart_10) (n0 : Nat) (c1 : List PV) (n2 : Nat) (c3 : List PV) (n4 : Nat) (c5 : List PV) (n6 : Nat) (c7 : List PV) (i8 : Int) (i9 : Int) (i10 : Int) (i11 : Int) (i12 : Int) (i13 : Int) (i14 : Int) (i15 : Int) : semB (callP F Ew_CloudApart 20) s3 (loopT [⟨0, Yw_CloudApart_0, L0, XLw_CloudApart_0⟩, ⟨2, Yw_CloudApart_2, L2, XLw_CloudApart_2⟩, ⟨4, Yw_CloudApart_4, L4, XLw_CloudApart_4⟩, ⟨6, Yw_CloudApart_6, L6, XLw_CloudApart_6⟩, ⟨8, Yw_CloudApart_8, L8, XLw_CloudApart_8⟩, ⟨10, Yw_CloudApart_10, L10, XLw_CloudApart_10⟩]) 400 (blkIn a3.body 4) N E (Tw_CloudApart_4a n0 c1 n2 c3 n4 c5 n6 c7 i8 i9 i10 i11 i12 i13 i14 i15) = Bw_CloudApart_4a F N E L0 L2 L4 L6 L8 L10 n0 c1 n2 c3 n4 c5 n6 c7 i8 i9 i10 i11 i12 i13 i14 i15 := by kernel_rfl
theorem Rw_CloudApart_4a_of  (n0 : Nat) (c1 : List PV) (n2 : Nat) (c3 : List PV) (n4 : Nat) (c5 : List PV) (n6 : Nat) (c7 : List PV) (i8 : Int) (i9 : Int) (i10 : Int) (i11 : Int) (i12 : Int) (i13 : Int) (i14 : Int) (i15 : Int) {r : Ext × S} (h : Bw_CloudApart_4a (Fn env) Rw_CloudApart_4 exO Lw_CloudApart_0 Lw_CloudApart_2 Lw_CloudApart_4 Lw_CloudApart_6 Lw_CloudApart_8 Lw_CloudApart_10 n0 c1 n2 c3 n4 c5 n6 c7 i8 i9 i10 i11 i12 i13 i14 i15 = some r) : Rw_CloudApart_4 (Tw_CloudApart_4a n0 c1 n2 c3 n4 c5 n6 c7 i8 i9 i10 i11 i12 i13 i14 i15) = some r :=
  lp_of Ew_CloudApart_ok (by kernel_rfl) (lo_cons (lpO_ok Uw_CloudApart) (lo_cons (lpO_ok Uw_CloudApart) (lo_cons (lpO_ok Uw_CloudApart) (lo_cons (lpO_ok Uw_CloudApart) (lo_cons (lpO_ok Uw_CloudApart) (lo_cons (lpO_ok Uw_CloudApart) lo_nil)))))) (by kernel_rfl) ((Bw_CloudApart_4a_eq _ _ _ _ _ _ _ _ _ _ _ _ _ _ _ _ _ _ _ _ _ _ _ _ _).trans h)
def Bw_CloudApart_6a (_F : FnT) (N : QO) (E : EO) (_L0 : Q → Option Yw_CloudApart_0) (_L2 : Q → Option Yw_CloudApart_2) (_L4 : Q → Option Yw_CloudApart_4) (_L6 : Q → Option Yw_CloudApart_6) (L8 : Q → Option Yw_CloudApart_8) (L10 : Q → Option Yw_CloudApart_10) (n0 : Nat) (c1 : List PV) (n2 : Nat) (c3 : List PV) (n4 : Nat) (c5 : List PV) (n6 : Nat) (c7 : List PV) (i8 : Int) (i9 : Int) (i10 : Int) (i11 : Int) (i12 : Int) (i13 : Int) (i14 : Int) : Option (Ext × S) :=
  bif (decide (i8 < (n2 : Int))) then
    bindO (L8 (Tw_CloudApart_8a n0 c1 n2 c3 n4 c5 n6 c7 i8 false (0 : Int) i9 i10 i11 i12 i13 i14)) fun y0 =>
    bindO (L10 (Tw_CloudApart_10a y0.1 y0.2.1 y0.2.2.1 y0.2.2.2.1 y0.2.2.2.2.1 y0.2.2.2.2.2.1 y0.2.2.2.2.2.2.1 y0.2.2.2.2.2.2.2.1 y0.2.2.2.2.2.2.2.2.1 y0.2.2.2.2.2.2.2.2.2.1 false (0 : Int) y0.2.2.2.2.2.2.2.2.2.2.1 y0.2.2.2.2.2.2.2.2.2.2.2.1 y0.2.2.2.2.2.2.2.2.2.2.2.2.1 y0.2.2.2.2.2.2.2.2.2.2.2.2.2.1 y0.2.2.2.2.2.2.2.2.2.2.2.2.2.2.1 y0.2.2.2.2.2.2.2.2.2.2.2.2.2.2.2)) fun y1 =>
    bif y1.2.2.2.2.2.2.2.2.2.1 then
      bif y1.2.2.2.2.2.2.2.2.2.2.1 then
        N (Tw_CloudApart_6a y1.1 y1.2.1 y1.2.2.1 y1.2.2.2.1 y1.2.2.2.2.1 y1.2.2.2.2.2.1 y1.2.2.2.2.2.2.1 y1.2.2.2.2.2.2.2.1 (w64 (y1.2.2.2.2.2.2.2.2.1 + (1 : Int))) y1.2.2.2.2.2.2.2.2.2.2.2.1 y1.2.2.2.2.2.2.2.2.2.2.2.2.1 y1.2.2.2.2.2.2.2.2.2.2.2.2.2.1 y1.2.2.2.2.2.2.2.2.2.2.2.2.2.2.1 y1.2.2.2.2.2.2.2.2.2.2.2.2.2.2.2.1 y1.2.2.2.2.2.2.2.2.2.2.2.2.2.2.2.2)
      else E (Xw_CloudApart_6b ())
    else E (Xw_CloudApart_6b ())
  else E (Xw_CloudApart_6a (n0, c1, i9, i10, i11, i12, i13, i14))
theorem Bw_CloudApart_6a_eq (F : FnT) (N : QO) (E : EO) (L0 : Q → Option Yw_CloudApart_0) (L2 : Q → Option Yw_CloudApart_2) (L4 : Q → Option Yw_CloudApart_4) (L6 : Q → Option Yw_CloudApart_6) (L8 : Q → Option Yw_CloudApart_8) (L10 : Q → Option Yw_CloudApart_10) (n0 : Nat) (c1 : List PV) (n2 : Nat) (c3 : List PV) (n4 : Nat) (c5 : List PV) (n6 : Nat) (c7 : List PV) (i8 : Int) (i9 : Int) (i10 : Int) (i11 : Int) (i12 : Int) (i13 : Int) (i14 : Int) : semB (callP F Ew_CloudApart 20) s3 (loopT [⟨0, Yw_CloudApart_0, L0, XLw_CloudApart_0⟩, ⟨2, Yw_CloudApart_2, L2, XLw_CloudApart_2⟩, ⟨4, Yw_CloudApart_4, L4, XLw_CloudApart_4⟩, ⟨6, Yw_CloudApart_6, L6, XLw_CloudApart_6⟩, ⟨8, Yw_CloudApart_8, L8, XLw_CloudApart_8⟩, ⟨10, Yw_CloudApart_10, L10, XLw_CloudApart_10⟩]) 400 (blkIn a3.body 6) N E (Tw_CloudApart_6a n0 c1 n2 c3 n4 c5 n6 c7 i8 i9 i10 i11 i12 i13 i14) = Bw_CloudApart_6a F N E L0 L2 L4 L6 L8 L10 n0 c1 n2 c3 n4 c5 n6 c7 i8 i9 i10 i11 i12 i13 i14 := by kernel_rfl
theorem Rw_CloudApart_6a_of  (n0 : Nat) (c1 : List PV) (n2 : Nat) (c3 : List PV) (n4 : Nat) (c5 : List PV) (n6 : Nat) (c7 : List PV) (i8 : Int) (i9 : Int) (i10 : Int) (i11 : Int) (i12 : Int) (i13 : Int) (i14 : Int) {r : Ext × S} (h : Bw_CloudApart_6a (Fn env) Rw_CloudApart_6 exO Lw_CloudApart_0 Lw_CloudApart_2 Lw_CloudApart_4 Lw_CloudApart_6 Lw_CloudApart_8 Lw_CloudApart_10 n0 c1 n2 c3 n4 c5 n6 c7 i8 i9 i10 i11 i12 i13 i14 = some r) : Rw_CloudApart_6 (Tw_CloudApart_6a n0 c1 n2 c3 n4 c5 n6 c7 i8 i9 i10 i11 i12 i13 i14) = some r :=
  lp_of Ew_CloudApart_ok (by kernel_rfl) (lo_cons (lpO_ok Uw_CloudApart) (lo_cons (lpO_ok Uw_CloudApart) (lo_cons (lpO_ok Uw_CloudApart) (lo_cons (lpO_ok Uw_CloudApart) (lo_cons (lpO_ok Uw_CloudApart) (lo_cons (lpO_ok Uw_CloudApart) lo_nil)))))) (by kernel_rfl) ((Bw_CloudApart_6a_eq _ _ _ _ _ _ _ _ _ _ _ _ _ _ _ _ _ _ _ _ _ _ _ _).trans h)
def Bw_CloudApart_8a (_F : FnT) (N : QO) (E : EO) (_L0 : Q → Option Yw_CloudApart_0) (_L2 : Q → Option Yw_CloudApart_2) (_L4 : Q → Option Yw_CloudApart_4) (_L6 : Q → Option Yw_CloudApart_6) (_L8 : Q → Option Yw_CloudApart_8) (_L10 : Q → Option Yw_CloudApart_10) (n0 : Nat) (c1 : List PV) (n2 : Nat) (c3 : List PV) (n4 : Nat) (c5 : List PV) (n6 : Nat) (c7 : List PV) (i8 : Int) (b9 : Bool) (i10 : Int) (i11 : Int) (i12 : Int) (i13 : Int) (i14 : Int) (i15 : Int) (i16 : Int) : Option (Ext × S) :=
  bif (decide (i10 < (n4 : Int))) then
    bif b9 then
      N (Tw_CloudApart_8a n0 c1 n2 c3 n4 c5 n6 c7 i8 true (w64 (i10 + (1 : Int))) i11 i12 i13 i14 i15 i16)
    else bif (decide (((0 : Int) ≤ i8) ∧ (i8 < (n2 : Int)))) then
      bindO (intC .i64 (c3[((Int.toNat i8) * 2)]?)) fun x0 =>
      bindO (intC .i64 (c3[(((Int.toNat i8) * 2) + 1)]?)) fun x1 =>
      bif (decide (((0 : Int) ≤ i10) ∧ (i10 < (n4 : Int)))) then
        bindO (intC .i64 (c5[((Int.toNat i10) * 2)]?)) fun x2 =>
        bindO (intC .i64 (c5[(((Int.toNat i10) * 2) + 1)]?)) fun x3 =>
        bif ((x0 == x2) && ((x1 == x3) && true)) then
          bif (decide (((0 : Int) ≤ i8) ∧ (i8 < (n2 : Int)))) then
            bindO (intC .i64 (c3[(((Int.toNat i8) * 2) + 1)]?)) fun x4 =>
            bif (decide (((0 : Int) ≤ i8) ∧ (i8 < (n2 : Int)))) then
              bindO (intC .i64 (c3[(((Int.toNat i8) * 2) + 0)]?)) fun x5 =>
              bif (decide ((w64 ((w64 (x4 - x5)) + (1 : Int))) ≥ i16)) then
                N (Tw_CloudApart_8a n0 c1 n2 c3 n4 c5 n6 c7 i8 true (w64 (i10 + (1 : Int))) i11 i12 i13 i14 i15 i16)
              else N (Tw_CloudApart_8a n0 c1 n2 c3 n4 c5 n6 c7 i8 false (w64 (i10 + (1 : Int))) i11 i12 i13 i14 i15 i16)
            else none
          else none
        else N (Tw_CloudApart_8a n0 c1 n2 c3 n4 c5 n6 c7 i8 false (w64 (i10 + (1 : Int))) i11 i12 i13 i14 i15 i16)
      else none
    else none
  else E (Xw_CloudApart_8a (n0, c1, n2, c3, n4, c5, n6, c7, i8, b9, i11, i12, i13, i14, i15, i16))
theorem Bw_CloudApart_8a_eq (F : FnT) (N : QO) (E : EO) (L0 : Q → Option Yw_CloudApart_0) (L2 : Q → Option Yw_CloudApart_2) (L4 : Q → Option Yw_CloudApart_4) (L6 : Q → Option Yw_CloudApart_6) (L8 : Q → Option Yw_CloudApart_8) (L10 : Q → Option Yw_CloudApart_10) (n0 : Nat) (c1 : List PV) (n2 : Nat) (c3 : List PV) (n4 : Nat) (c5 : List PV) (n6 : Nat) (c7 : List PV) (i8 : Int) (b9 : Bool) (i10 : Int) (i11 : Int) (i12 : Int) (i13 : Int) (i14 : Int) (i15 : Int) (i16 : Int) : semB (callP F Ew_CloudApart 20) s3 (loopT [⟨0, Yw_CloudApart_0, L0, XLw_CloudApart_0⟩, ⟨2, Yw_CloudApart_2, L2, XLw_CloudApart_2⟩, ⟨4, Yw_CloudApart_4, L4, XLw_CloudApart_4⟩, ⟨6, Yw_CloudApart_6, L6, XLw_CloudApart_6⟩, ⟨8, Yw_CloudApart_8, L8, XLw_CloudApart_8⟩, ⟨10, Yw_CloudApart_10, L10, XLw_CloudApart_10⟩]) 400 (blkIn a3.body 8) N E (Tw_CloudApart_8a n0 c1 n2 c3 n4 c5 n6 c7 i8 b9 i10 i11 i12 i13 i14 i15 i16) = Bw_CloudApart_8a F N E L0 L2 L4 L6 L8 L10 n0 c1 n2 c3 n4 c5 n6 c7 i8 b9 i10 i11 i12 i13 i14 i15 i16 := by kernel_rfl
theorem Rw_CloudApart_8a_of  (n0 : Nat) (c1 : List PV) (n2 : Nat) (c3 : List PV) (n4 : Nat) (c5 : List PV) (n6 : Nat) (c7 : List PV) (i8 : Int) (b9 : Bool) (i10 : Int) (i11 : Int) (i12 : Int) (i13 : Int) (i14 : Int) (i15 : Int) (i16 : Int) {r : Ext × S} (h : Bw_CloudApart_8a (Fn env) Rw_CloudApart_8 exO Lw_CloudApart_0 Lw_CloudApart_2 Lw_CloudApart_4 Lw_CloudApart_6 Lw_CloudApart_8 Lw_CloudApart_10 n0 c1 n2 c3 n4 c5 n6 c7 i8 b9 i10 i11 i12 i13 i14 i15 i16 = some r) : Rw_CloudApart_8 (Tw_CloudApart_8a n0 c1 n2 c3 n4 c5 n6 c7 i8 b9 i10 i11 i12 i13 i14 i15 i16) = some r :=
  lp_of Ew_CloudApart_ok (by kernel_rfl) (lo_cons (lpO_ok Uw_CloudApart) (lo_cons (lpO_ok Uw_CloudApart) (lo_cons (lpO_ok Uw_CloudApart) (lo_cons (lpO_ok Uw_CloudApart) (lo_cons (lpO_ok Uw_CloudApart) (lo_cons (lpO_ok Uw_CloudApart) lo_nil)))))) (by kernel_rfl) ((Bw_CloudApart_8a_eq _ _ _ _ _ _ _ _ _ _ _ _ _ _ _ _ _ _ _ _ _ _ _ _ _ _).trans h)
def Bw_CloudApart_10a (_F : FnT) (N : QO) (E : EO) (_L0 : Q → Option Yw_CloudApart_0) (_L2 : Q → Option Yw_CloudApart_2) (_L4 : Q → Option Yw_CloudApart_4) (_L6 : Q → Option Yw_CloudApart_6) (_L8 : Q → Option Yw_CloudApart_8) (_L10 : Q → Option Yw_CloudApart_10) (n0 : Nat) (c1 : List PV) (n2 : Nat) (c3 : List PV) (n4 : Nat) (c5 : List PV) (n6 : Nat) (c7 : List PV) (i8 : Int) (b9 : Bool) (b10 : Bool) (i11 : Int) (i12 : Int) (i13 : Int) (i14 : Int) (i15 : Int) (i16 : Int) (i17 : Int) : Option (Ext × S) :=
  bif (decide (i11 < (n6 : Int))) then
    bif b10 then
      N (Tw_CloudApart_10a n0 c1 n2 c3 n4 c5 n6 c7 i8 b9 true (w64 (i11 + (1 : Int))) i12 i13 i14 i15 i16 i17)
    else bif (decide (((0 : Int) ≤ i11) ∧ (i11 < (n6 : Int)))) then
      bindO (intC .i64 (c7[(((Int.toNat i11) * 2) + 0)]?)) fun x0 =>
      bif (decide (((0 : Int) ≤ i8) ∧ (i8 < (n2 : Int)))) then
        bindO (intC .i64 (c3[(((Int.toNat i8) * 2) + 0)]?)) fun x1 =>
        bif (decide (x0 ≤ x1)) then
          bif (decide (((0 : Int) ≤ i8) ∧ (i8 < (n2 : Int)))) then
            bindO (intC .i64 (c3[(((Int.toNat i8) * 2) + 1)]?)) fun x2 =>
            bif (decide (((0 : Int) ≤ i11) ∧ (i11 < (n6 : Int)))) then
              bindO (intC .i64 (c7[(((Int.toNat i11) * 2) + 1)]?)) fun x3 =>
              bif (decide (x2 ≤ x3)) then
                N (Tw_CloudApart_10a n0 c1 n2 c3 n4 c5 n6 c7 i8 b9 true (w64 (i11 + (1 : Int))) i12 i13 i14 i15 i16 i17)
              else N (Tw_CloudApart_10a n0 c1 n2 c3 n4 c5 n6 c7 i8 b9 false (w64 (i11 + (1 : Int))) i12 i13 i14 i15 i16 i17)
            else none
          else none
        else N (Tw_CloudApart_10a n0 c1 n2 c3 n4 c5 n6 c7 i8 b9 false (w64 (i11 + (1 : Int))) i12 i13 i14 i15 i16 i17)
      else none
    else none
  else E (Xw_CloudApart_10a (n0, c1, n2, c3, n4, c5, n6, c7, i8, b9, b10, i12, i13, i14, i15, i16, i17))
theorem Bw_CloudApart_10a_eq (F : FnT) (N : QO) (E : EO) (L0 : Q → Option Yw_CloudApart_0) (L2 : Q → Option Yw_CloudApart_2) (L4 : Q → Option Yw_CloudApart_4) (L6 : Q → Option Yw_CloudApart_6) (L8 : Q → Option Yw_CloudApart_8) (L10 : Q → Option Yw_CloudApart_10) (n0 : Nat) (c1 : List PV) (n2 : Nat) (c3 : List PV) (n4 : Nat) (c5 : List PV) (n6 : Nat) (c7 : List PV) (i8 : Int) (b9 : Bool) (b10 : Bool) (i11 : Int) (i12 : Int) (i13 : Int) (i14 : Int) (i15 : Int) (i16 : Int) (i17 : Int) : semB (callP F Ew_CloudApart 20) s3 (loopT [⟨0, Yw_CloudApart_0, L0, XLw_CloudApart_0⟩, ⟨2, Yw_CloudApart_2, L2, XLw_CloudApart_2⟩, ⟨4, Yw_CloudApart_4, L4, XLw_CloudApart_4⟩, ⟨6, Yw_CloudApart_6, L6, XLw_CloudApart_6⟩, ⟨8, Yw_CloudApart_8, L8, XLw_CloudApart_8⟩, ⟨10, Yw_CloudApart_10, L10, XLw_CloudApart_10⟩]) 400 (blkIn a3.body 10) N E (Tw_CloudApart_10a n0 c1 n2 c3 n4 c5 n6 c7 i8 b9 b10 i11 i12 i13 i14 i15 i16 i17) = Bw_CloudApart_10a F N E L0 L2 L4 L6 L8 L10 n0 c1 n2 c3 n4 c5 n6 c7 i8 b9 b10 i11 i12 i13 i14 i15 i16 i17 := by kernel_rfl
theorem Rw_CloudApart_10a_of  (n0 : Nat) (c1 : List PV) (n2 : Nat) (c3 : List PV) (n4 : Nat) (c5 : List PV) (n6 : Nat) (c7 : List PV) (i8 : Int) (b9 : Bool) (b10 : Bool) (i11 : Int) (i12 : Int) (i13 : Int) (i14 : Int) (i15 : Int) (i16 : Int) (i17 : Int) {r : Ext × S} (h : Bw_CloudApart_10a (Fn env) Rw_CloudApart_10 exO Lw_CloudApart_0 Lw_CloudApart_2 Lw_CloudApart_4 Lw_CloudApart_6 Lw_CloudApart_8 Lw_CloudApart_10 n0 c1 n2 c3 n4 c5 n6 c7 i8 b9 b10 i11 i12 i13 i14 i15 i16 i17 = some r) : Rw_CloudApart_10 (Tw_CloudApart_10a n0 c1 n2 c3 n4 c5 n6 c7 i8 b9 b10 i11 i12 i13 i14 i15 i16 i17) = some r :=
  lp_of Ew_CloudApart_ok (by kernel_rfl) (lo_cons (lpO_ok Uw_CloudApart) (lo_cons (lpO_ok Uw_CloudApart) (lo_cons (lpO_ok Uw_CloudApart) (lo_cons (lpO_ok Uw_CloudApart) (lo_cons (lpO_ok Uw_CloudApart) (lo_cons (lpO_ok Uw_CloudApart) lo_nil)))))) (by kernel_rfl) ((Bw_CloudApart_10a_eq _ _ _ _ _ _ _ _ _ _ _ _ _ _ _ _ _ _ _ _ _ _ _ _ _ _ _).trans h)
def tw_CloudApart (F : FnT) (L0 : Q → Option Yw_CloudApart_0) (_L2 : Q → Option Yw_CloudApart_2) (L4 : Q → Option Yw_CloudApart_4) (L6 : Q → Option Yw_CloudApart_6) (_L8 : Q → Option Yw_CloudApart_8) (_L10 : Q → Option Yw_CloudApart_10) (p0n : Nat) (p0c : List PV) (p1_0 : Int) (p1_1 : Int) (p1_2 : Int) (p1_3 : Int) (p1_4 : Int) (p1_5 : Int) (p2 : Int) : Option (Bool) :=
  bindO (F 10 (RSh.one CK.bool) []) fun (y0 : (Bool)) =>
  bif y0 then
    bindO (F 11 (RSh.one CK.bool) [(PV.list p0n p0c)]) fun (y1 : (Bool)) =>
    bif y1 then
      bindO (F 12 (RSh.one (CK.int .i64)) [(PV.list p0n p0c)]) fun (y2 : (Int)) =>
      bif (y2 != (0 : Int)) then
        some true
      else bindO (F 13 (RSh.one (CK.int .i64)) [(PV.agg [(PV.int .i64 p1_3), (PV.int .i64 p1_4), (PV.int .i64 p1_5)])]) fun (y3 : (Int)) =>
      bif (y3 != (0 : Int)) then
        some true
      else bindO (F 14 (RSh.one CK.bool) [(PV.int .i64 p2), (PV.int .i64 (0 : Int)), (PV.int .i64 (w64 (p1_3 - (1 : Int))))]) fun (y4 : (Bool)) =>
      bif y4 then
        bindO (F 16 (RSh.one CK.list) [(PV.list p0n p0c)]) fun (y5 : ((Nat) × (List PV))) =>
        bindO (F 15 (RSh.tup [(Prod.mk false [CK.list]), (Prod.mk false [(CK.int .i64)])]) [(PV.list y5.1 y5.2), (PV.agg [(PV.int .i64 p1_3), (PV.int .i64 p1_4), (PV.int .i64 p1_5)])]) fun (y6 : (((Nat) × (List PV)) × (Int))) =>
        bindO (F 16 (RSh.one CK.list) [(PV.list p0n p0c)]) fun (y7 : ((Nat) × (List PV))) =>
        bindO (F 15 (RSh.tup [(Prod.mk false [CK.list]), (Prod.mk false [(CK.int .i64)])]) [(PV.list y7.1 y7.2), (PV.agg [(PV.int .i64 p1_3), (PV.int .i64 p1_4), (PV.int .i64 (1 : Int))])]) fun (y8 : (((Nat) × (List PV)) × (Int))) =>
        bindO (F 16 (RSh.one CK.list) [(PV.list p0n p0c)]) fun (y9 : ((Nat) × (List PV))) =>
        bindO (F 15 (RSh.tup [(Prod.mk false [CK.list]), (Prod.mk false [(CK.int .i64)])]) [(PV.list y9.1 y9.2), (PV.agg [(PV.int .i64 (w64 (p1_3 - p2))), (PV.int .i64 p1_4), (PV.int .i64 p1_5)])]) fun (y10 : (((Nat) × (List PV)) × (Int))) =>
        bif (y6.2 != (0 : Int)) then
          some false
        else bif (y8.2 != (0 : Int)) then
          some false
        else bif (y10.2 != (0 : Int)) then
          some false
        else bindO (L0 (Tw_CloudApart_0a p0n p0c y6.1.1 y6.1.2 y8.1.1 y8.1.2 y10.1.1 y10.1.2 (0 : Int) (0 : Int) p1_0 p1_1 p1_2 p1_3 p1_4 p1_5)) fun z =>
        Sum.elim (fun _y11 =>
          some false) (fun y12 =>
          bindO (L4 (Tw_CloudApart_4a y12.1 y12.2.1 y12.2.2.1 y12.2.2.2.1 y12.2.2.2.2.1 y12.2.2.2.2.2.1 y12.2.2.2.2.2.2.1 y12.2.2.2.2.2.2.2.1 y12.2.2.2.2.2.2.2.2.1 (0 : Int) y12.2.2.2.2.2.2.2.2.2.1 y12.2.2.2.2.2.2.2.2.2.2.1 y12.2.2.2.2.2.2.2.2.2.2.2.1 y12.2.2.2.2.2.2.2.2.2.2.2.2.1 y12.2.2.2.2.2.2.2.2.2.2.2.2.2.1 y12.2.2.2.2.2.2.2.2.2.2.2.2.2.2)) fun y13 =>
          bif (y13.2.2.2.2.2.2.2.2.1 != (0 : Int)) then
            some false
          else bindO (L6 (Tw_CloudApart_6a y13.1 y13.2.1 y13.2.2.1 y13.2.2.2.1 y13.2.2.2.2.1 y13.2.2.2.2.2.1 y13.2.2.2.2.2.2.1 y13.2.2.2.2.2.2.2.1 (0 : Int) y13.2.2.2.2.2.2.2.2.2.1 y13.2.2.2.2.2.2.2.2.2.2.1 y13.2.2.2.2.2.2.2.2.2.2.2.1 y13.2.2.2.2.2.2.2.2.2.2.2.2.1 y13.2.2.2.2.2.2.2.2.2.2.2.2.2.1 y13.2.2.2.2.2.2.2.2.2.2.2.2.2.2)) fun z =>
          Sum.elim (fun y14 =>
            bindO (F 17 (RSh.one (CK.int .i64)) [(PV.int .i64 y14.2.2.1)]) fun (y15 : (Int)) =>
            bif (y15 != (0 : Int)) then
              some true
            else bindO (F 18 (RSh.one (CK.int .i64)) [(PV.agg [(PV.int .i64 y14.2.2.2.1), (PV.int .i64 y14.2.2.2.2.1)])]) fun (y16 : (Int)) =>
            bif (y16 != (0 : Int)) then
              some true
            else bindO (F 19 (RSh.one (CK.int .i64)) [(PV.list y14.1 y14.2.1), (PV.int .i64 y14.2.2.1), (PV.int .i64 (y14.1 : Int))]) fun (y17 : (Int)) =>
            bif (decide (y17 < (0 : Int))) then
              some true
            else bindO (F 16 (RSh.one CK.list) [(PV.list y14.1 y14.2.1)]) fun (y18 : ((Nat) × (List PV))) =>
            bindO (F 20 (RSh.tup [(Prod.mk false [(CK.int .i64)]), (Prod.mk false [(CK.int .i64)])]) [(PV.list y18.1 y18.2), (PV.int .i64 y14.2.2.1), (PV.agg [(PV.int .i64 y14.2.2.2.1), (PV.int .i64 y14.2.2.2.2.1)])]) fun (y19 : ((Int) × (Int))) =>
            bindO (F 16 (RSh.one CK.list) [(PV.list y14.1 y14.2.1)]) fun (y20 : ((Nat) × (List PV))) =>
            bindO (F 20 (RSh.tup [(Prod.mk false [(CK.int .i64)]), (Prod.mk false [(CK.int .i64)])]) [(PV.list y20.1 y20.2), (PV.int .i64 y14.2.2.1), (PV.agg [(PV.int .i64 (0 : Int)), (PV.int .i64 (1 : Int))])]) fun (y21 : ((Int) × (Int))) =>
            bif (y19.2 == (0 : Int)) then
              bif (y21.2 == (0 : Int)) then
                bindO (F 14 (RSh.one CK.bool) [(PV.int .i64 y19.1), (PV.int .i64 (0 : Int)), (PV.int .i64 y21.1)]) fun (y22 : (Bool)) =>
                bif y22 then
                  bif (decide (y21.1 ≤ (y14.1 : Int))) then
                    some true
                  else some false
                else some false
              else some false
            else some false) (fun _y23 =>
            some false) z) z
      else some true
    else some true
  else some false
theorem tw_CloudApart_eq (F : FnT) (L0 : Q → Option Yw_CloudApart_0) (L2 : Q → Option Yw_CloudApart_2) (L4 : Q → Option Yw_CloudApart_4) (L6 : Q → Option Yw_CloudApart_6) (L8 : Q → Option Yw_CloudApart_8) (L10 : Q → Option Yw_CloudApart_10) (p0n : Nat) (p0c : List PV) (p1_0 : Int) (p1_1 : Int) (p1_2 : Int) (p1_3 : Int) (p1_4 : Int) (p1_5 : Int) (p2 : Int) : semF (callP F Ew_CloudApart 20) s3 (loopT [⟨0, Yw_CloudApart_0, L0, XLw_CloudApart_0⟩, ⟨2, Yw_CloudApart_2, L2, XLw_CloudApart_2⟩, ⟨4, Yw_CloudApart_4, L4, XLw_CloudApart_4⟩, ⟨6, Yw_CloudApart_6, L6, XLw_CloudApart_6⟩, ⟨8, Yw_CloudApart_8, L8, XLw_CloudApart_8⟩, ⟨10, Yw_CloudApart_10, L10, XLw_CloudApart_10⟩]) 400 a3 [PV.list p0n p0c, PV.agg [PV.int .i64 p1_0, PV.int .i64 p1_1, PV.int .i64 p1_2, PV.int .i64 p1_3, PV.int .i64 p1_4, PV.int .i64 p1_5], PV.int .i64 p2] (fun rv => decR (RSh.one CK.bool) rv.pv) = tw_CloudApart F L0 L2 L4 L6 L8 L10 p0n p0c p1_0 p1_1 p1_2 p1_3 p1_4 p1_5 p2 := by kernel_rfl
noncomputable abbrev Fw_CloudApart (args : List PV) := Fn env 3 (RSh.one CK.bool) args
theorem Fw_CloudApart_of  (p0n : Nat) (p0c : List PV) (p1_0 : Int) (p1_1 : Int) (p1_2 : Int) (p1_3 : Int) (p1_4 : Int) (p1_5 : Int) (p2 : Int) {res : (Bool)} (h : tw_CloudApart (Fn env) Lw_CloudApart_0 Lw_CloudApart_2 Lw_CloudApart_4 Lw_CloudApart_6 Lw_CloudApart_8 Lw_CloudApart_10 p0n p0c p1_0 p1_1 p1_2 p1_3 p1_4 p1_5 p2 = some res) : Fw_CloudApart [PV.list p0n p0c, PV.agg [PV.int .i64 p1_0, PV.int .i64 p1_1, PV.int .i64 p1_2, PV.int .i64 p1_3, PV.int .i64 p1_4, PV.int .i64 p1_5], PV.int .i64 p2] = some res :=
  fn_of Ew_CloudApart_ok rfl rfl (lo_cons (lpO_ok Uw_CloudApart) (lo_cons (lpO_ok Uw_CloudApart) (lo_cons (lpO_ok Uw_CloudApart) (lo_cons (lpO_ok Uw_CloudApart) (lo_cons (lpO_ok Uw_CloudApart) (lo_cons (lpO_ok Uw_CloudApart) lo_nil)))))) ((tw_CloudApart_eq _ _ _ _ _ _ _ _ _ _ _ _ _ _ _ _).trans h)
end Gv
