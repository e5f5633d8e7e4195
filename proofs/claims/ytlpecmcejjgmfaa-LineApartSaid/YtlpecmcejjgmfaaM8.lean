/- What the functions do, round by round: M8. -/
import Derived.Test.YtlpecmcejjgmfaaM3
namespace Gv
open Go
set_option maxRecDepth 100000

/-! ### glidepathlaw02_LineApart -/

def Eglidepathlaw02_LineApart : List Entry := [.out 8 (RSh.one CK.bool), .out 13 (RSh.one (CK.int IntKind.i64)), .out 29 (RSh.one (CK.int IntKind.i64)), .out 14 (RSh.one CK.bool), .out 11 (RSh.one CK.list), .out 27 (RSh.tup [(Prod.mk false [CK.list]), (Prod.mk false [(CK.int IntKind.i64)])]), .out 19 (RSh.tup [(Prod.mk false [(CK.int IntKind.i64)]), (Prod.mk false [(CK.int IntKind.i64)])]), .out 33 (RSh.one CK.bool)]
theorem Eglidepathlaw02_LineApart_ok : ∀ e ∈ Eglidepathlaw02_LineApart, EntOK env e := (ent_out (ent_out (ent_out (ent_out (ent_out (ent_out (ent_out (ent_out ent_nil))))))))
def Tglidepathlaw02_LineApart_0a (n0 : Nat) (c1 : List PV) (i2 : Int) (n3 : Nat) (c4 : List PV) (i5 : Int) (i6 : Int) (i7 : Int) (i8 : Int) : Q := ⟨(tm 175 [(0, (AV.p (PV.list n0 c1))), (2, (AV.p (PV.int IntKind.i64 i2))), (4, (AV.loc 4 0)), (7, (AV.p (PV.list n3 c4))), (9, (AV.p (PV.int IntKind.i64 i5))), (11, (AV.p (PV.int IntKind.i64 i6)))]), (mm 175 [(4, (Bk.pcs true [(PV.int IntKind.i64 i7), (PV.int IntKind.i64 i8)]))])⟩
def Xglidepathlaw02_LineApart_0a (y : Nat × List PV × Int × Nat × List PV × Int × Int × Int) : Ext × Q := (Ext.normal, ⟨(tm 175 [(0, (AV.p (PV.list y.1 y.2.1))), (2, (AV.p (PV.int IntKind.i64 y.2.2.1))), (4, (AV.loc 4 0)), (7, (AV.p (PV.list y.2.2.2.1 y.2.2.2.2.1))), (9, (AV.p (PV.int IntKind.i64 y.2.2.2.2.2.1)))]), (mm 175 [(4, (Bk.pcs true [(PV.int IntKind.i64 y.2.2.2.2.2.2.1), (PV.int IntKind.i64 y.2.2.2.2.2.2.2)]))])⟩)
def Iglidepathlaw02_LineApart_0a (q : Ext × S) : Nat × List PV × Int × Nat × List PV × Int × Int × Int := ((pP_list0 (pA_p (avT q.2 0))), (pP_list1 (pA_p (avT q.2 0))), (pP_int1 (pA_p (avT q.2 2))), (pP_list0 (pA_p (avT q.2 7))), (pP_list1 (pA_p (avT q.2 7))), (pP_int1 (pA_p (avT q.2 9))), (pP_int1 (hdP (pB_pcs1 (avM q.2 4)))), (pP_int1 (hdP (List.tail (pB_pcs1 (avM q.2 4))))))
def Xglidepathlaw02_LineApart_0b (y : Unit) : Ext × Q := (Ext.ret, ⟨(tm 175 [(6, (AV.p (PV.bool false)))]), (mm 175 [])⟩)
def Iglidepathlaw02_LineApart_0b (q : Ext × S) : Unit := ()
abbrev Yglidepathlaw02_LineApart_0 : Type := (Nat × List PV × Int × Nat × List PV × Int × Int × Int) ⊕ ((Unit))
def XLglidepathlaw02_LineApart_0 : XL Yglidepathlaw02_LineApart_0 := .more Xglidepathlaw02_LineApart_0a (.one Xglidepathlaw02_LineApart_0b)
def Iglidepathlaw02_LineApart_0 (q : Ext × S) : Yglidepathlaw02_LineApart_0 := bif (cE q.1 == 0) then (Sum.inl (Iglidepathlaw02_LineApart_0a q)) else (Sum.inr (Iglidepathlaw02_LineApart_0b q))
theorem XIglidepathlaw02_LineApart_0a (y : Nat × List PV × Int × Nat × List PV × Int × Int × Int) : Iglidepathlaw02_LineApart_0 (xe (Xglidepathlaw02_LineApart_0a y)) = (Sum.inl y) := rfl
theorem XIglidepathlaw02_LineApart_0b (y : Unit) : Iglidepathlaw02_LineApart_0 (xe (Xglidepathlaw02_LineApart_0b y)) = (Sum.inr y) := rfl
theorem XIglidepathlaw02_LineApart_0 (y : Yglidepathlaw02_LineApart_0) : Iglidepathlaw02_LineApart_0 (xe (XLglidepathlaw02_LineApart_0.fn y)) = y := (match y with | .inl y => XIglidepathlaw02_LineApart_0a y | .inr y => XIglidepathlaw02_LineApart_0b y)
noncomputable abbrev Lglidepathlaw02_LineApart_0 : Q → Option Yglidepathlaw02_LineApart_0 := lpO env a6.body 0 XLglidepathlaw02_LineApart_0
noncomputable abbrev Rglidepathlaw02_LineApart_0 : Q → Option (Ext × S) := lpR env a6.body 0
theorem Lglidepathlaw02_LineApart_0a_of {s : Q} {y : Nat × List PV × Int × Nat × List PV × Int × Int × Int} (h : Rglidepathlaw02_LineApart_0 s = exO (Xglidepathlaw02_LineApart_0a y)) : Lglidepathlaw02_LineApart_0 s = some (Sum.inl y) := lpO_of Iglidepathlaw02_LineApart_0 XIglidepathlaw02_LineApart_0 (y := (Sum.inl y)) h
theorem Lglidepathlaw02_LineApart_0b_of {s : Q} {y : Unit} (h : Rglidepathlaw02_LineApart_0 s = exO (Xglidepathlaw02_LineApart_0b y)) : Lglidepathlaw02_LineApart_0 s = some (Sum.inr y) := lpO_of Iglidepathlaw02_LineApart_0 XIglidepathlaw02_LineApart_0 (y := (Sum.inr y)) h
def Tglidepathlaw02_LineApart_2a (n0 : Nat) (c1 : List PV) (n2 : Nat) (c3 : List PV) (n4 : Nat) (c5 : List PV) (i6 : Int) (i7 : Int) (i8 : Int) : Q := ⟨(tm 175 [(0, (AV.p (PV.list n0 c1))), (7, (AV.p (PV.list n2 c3))), (12, (AV.loc 12 0)), (13, (AV.p (PV.list n4 c5))), (15, (AV.p (PV.int IntKind.i64 i6)))]), (mm 175 [(12, (Bk.pcs true [(PV.int IntKind.i64 i7), (PV.int IntKind.i64 i8)]))])⟩
def Xglidepathlaw02_LineApart_2a (y : Int × Int) : Ext × Q := (Ext.normal, ⟨(tm 175 []), (mm 175 [(12, (Bk.pcs true [(PV.int IntKind.i64 y.1), (PV.int IntKind.i64 y.2)]))])⟩)
def Iglidepathlaw02_LineApart_2a (q : Ext × S) : Int × Int := ((pP_int1 (hdP (pB_pcs1 (avM q.2 12)))), (pP_int1 (hdP (List.tail (pB_pcs1 (avM q.2 12))))))
def Xglidepathlaw02_LineApart_2b (y : Unit) : Ext × Q := (Ext.ret, ⟨(tm 175 [(6, (AV.p (PV.bool false)))]), (mm 175 [])⟩)
def Iglidepathlaw02_LineApart_2b (q : Ext × S) : Unit := ()
abbrev Yglidepathlaw02_LineApart_2 : Type := (Int × Int) ⊕ ((Unit))
def XLglidepathlaw02_LineApart_2 : XL Yglidepathlaw02_LineApart_2 := .more Xglidepathlaw02_LineApart_2a (.one Xglidepathlaw02_LineApart_2b)
def Iglidepathlaw02_LineApart_2 (q : Ext × S) : Yglidepathlaw02_LineApart_2 := bif (cE q.1 == 0) then (Sum.inl (Iglidepathlaw02_LineApart_2a q)) else (Sum.inr (Iglidepathlaw02_LineApart_2b q))
theorem XIglidepathlaw02_LineApart_2a (y : Int × Int) : Iglidepathlaw02_LineApart_2 (xe (Xglidepathlaw02_LineApart_2a y)) = (Sum.inl y) := rfl
theorem XIglidepathlaw02_LineApart_2b (y : Unit) : Iglidepathlaw02_LineApart_2 (xe (Xglidepathlaw02_LineApart_2b y)) = (Sum.inr y) := rfl
theorem XIglidepathlaw02_LineApart_2 (y : Yglidepathlaw02_LineApart_2) : Iglidepathlaw02_LineApart_2 (xe (XLglidepathlaw02_LineApart_2.fn y)) = y := (match y with | .inl y => XIglidepathlaw02_LineApart_2a y | .inr y => XIglidepathlaw02_LineApart_2b y)
noncomputable abbrev Lglidepathlaw02_LineApart_2 : Q → Option Yglidepathlaw02_LineApart_2 := lpO env a6.body 2 XLglidepathlaw02_LineApart_2
noncomputable abbrev Rglidepathlaw02_LineApart_2 : Q → Option (Ext × S) := lpR env a6.body 2
theorem Lglidepathlaw02_LineApart_2a_of {s : Q} {y : Int × Int} (h : Rglidepathlaw02_LineApart_2 s = exO (Xglidepathlaw02_LineApart_2a y)) : Lglidepathlaw02_LineApart_2 s = some (Sum.inl y) := lpO_of Iglidepathlaw02_LineApart_2 XIglidepathlaw02_LineApart_2 (y := (Sum.inl y)) h
theorem Lglidepathlaw02_LineApart_2b_of {s : Q} {y : Unit} (h : Rglidepathlaw02_LineApart_2 s = exO (Xglidepathlaw02_LineApart_2b y)) : Lglidepathlaw02_LineApart_2 s = some (Sum.inr y) := lpO_of Iglidepathlaw02_LineApart_2 XIglidepathlaw02_LineApart_2 (y := (Sum.inr y)) h
def Tglidepathlaw02_LineApart_1000080a (n0 : Nat) (c1 : List PV) (i2 : Int) (i3 : Int) (i4 : Int) : Q := ⟨(tm 175 [(0, (AV.p (PV.list n0 c1))), (2, (AV.p (PV.int IntKind.i64 i2))), (4, (AV.loc 4 0))]), (mm 175 [(4, (Bk.pcs true [(PV.int IntKind.i64 i3), (PV.int IntKind.i64 i4)]))])⟩
def Xglidepathlaw02_LineApart_1000080a (y : Unit) : Ext × Q := (Ext.ret, ⟨(tm 175 [(6, (AV.p (PV.bool true)))]), (mm 175 [])⟩)
def Iglidepathlaw02_LineApart_1000080a (q : Ext × S) : Unit := ()
def Xglidepathlaw02_LineApart_1000080b (y : Nat × List PV × Int × Int × Int) : Ext × Q := (Ext.normal, ⟨(tm 175 [(0, (AV.p (PV.list y.1 y.2.1))), (2, (AV.p (PV.int IntKind.i64 y.2.2.1))), (4, (AV.loc 4 0))]), (mm 175 [(4, (Bk.pcs true [(PV.int IntKind.i64 y.2.2.2.1), (PV.int IntKind.i64 y.2.2.2.2)]))])⟩)
def Iglidepathlaw02_LineApart_1000080b (q : Ext × S) : Nat × List PV × Int × Int × Int := ((pP_list0 (pA_p (avT q.2 0))), (pP_list1 (pA_p (avT q.2 0))), (pP_int1 (pA_p (avT q.2 2))), (pP_int1 (hdP (pB_pcs1 (avM q.2 4)))), (pP_int1 (hdP (List.tail (pB_pcs1 (avM q.2 4))))))
abbrev Yglidepathlaw02_LineApart_1000080 : Type := (Unit) ⊕ ((Nat × List PV × Int × Int × Int))
def XLglidepathlaw02_LineApart_1000080 : XL Yglidepathlaw02_LineApart_1000080 := .more Xglidepathlaw02_LineApart_1000080a (.one Xglidepathlaw02_LineApart_1000080b)
def Iglidepathlaw02_LineApart_1000080 (q : Ext × S) : Yglidepathlaw02_LineApart_1000080 := bif (cE q.1 == 2) then (Sum.inl (Iglidepathlaw02_LineApart_1000080a q)) else (Sum.inr (Iglidepathlaw02_LineApart_1000080b q))
theorem XIglidepathlaw02_LineApart_1000080a (y : Unit) : Iglidepathlaw02_LineApart_1000080 (xe (Xglidepathlaw02_LineApart_1000080a y)) = (Sum.inl y) := rfl
theorem XIglidepathlaw02_LineApart_1000080b (y : Nat × List PV × Int × Int × Int) : Iglidepathlaw02_LineApart_1000080 (xe (Xglidepathlaw02_LineApart_1000080b y)) = (Sum.inr y) := rfl
theorem XIglidepathlaw02_LineApart_1000080 (y : Yglidepathlaw02_LineApart_1000080) : Iglidepathlaw02_LineApart_1000080 (xe (XLglidepathlaw02_LineApart_1000080.fn y)) = y := (match y with | .inl y => XIglidepathlaw02_LineApart_1000080a y | .inr y => XIglidepathlaw02_LineApart_1000080b y)
noncomputable abbrev Lglidepathlaw02_LineApart_1000080 : Q → Option Yglidepathlaw02_LineApart_1000080 := lpO env a6.body 1000080 XLglidepathlaw02_LineApart_1000080
noncomputable abbrev Rglidepathlaw02_LineApart_1000080 : Q → Option (Ext × S) := lpR env a6.body 1000080
theorem Lglidepathlaw02_LineApart_1000080a_of {s : Q} {y : Unit} (h : Rglidepathlaw02_LineApart_1000080 s = exO (Xglidepathlaw02_LineApart_1000080a y)) : Lglidepathlaw02_LineApart_1000080 s = some (Sum.inl y) := lpO_of Iglidepathlaw02_LineApart_1000080 XIglidepathlaw02_LineApart_1000080 (y := (Sum.inl y)) h
theorem Lglidepathlaw02_LineApart_1000080b_of {s : Q} {y : Nat × List PV × Int × Int × Int} (h : Rglidepathlaw02_LineApart_1000080 s = exO (Xglidepathlaw02_LineApart_1000080b y)) : Lglidepathlaw02_LineApart_1000080 s = some (Sum.inr y) := lpO_of Iglidepathlaw02_LineApart_1000080 XIglidepathlaw02_LineApart_1000080 (y := (Sum.inr y)) h
def Tglidepathlaw02_LineApart_1000069a (n0 : Nat) (c1 : List PV) (i2 : Int) (n3 : Nat) (c4 : List PV) (i5 : Int) (i6 : Int) (i7 : Int) (i8 : Int) (i9 : Int) : Q := ⟨(tm 175 [(0, (AV.p (PV.list n0 c1))), (2, (AV.p (PV.int IntKind.i64 i2))), (4, (AV.loc 4 0)), (7, (AV.p (PV.list n3 c4))), (8, (AV.p (PV.int IntKind.i64 i5))), (9, (AV.p (PV.int IntKind.i64 i6))), (10, (AV.p (PV.int IntKind.i64 i7)))]), (mm 175 [(4, (Bk.pcs true [(PV.int IntKind.i64 i8), (PV.int IntKind.i64 i9)]))])⟩
def Xglidepathlaw02_LineApart_1000069a (y : Unit) : Ext × Q := (Ext.ret, ⟨(tm 175 [(6, (AV.p (PV.bool false)))]), (mm 175 [])⟩)
def Iglidepathlaw02_LineApart_1000069a (q : Ext × S) : Unit := ()
def Xglidepathlaw02_LineApart_1000069b (y : Nat × List PV × Int × Nat × List PV × Int × Int × Int) : Ext × Q := (Ext.normal, ⟨(tm 175 [(0, (AV.p (PV.list y.1 y.2.1))), (2, (AV.p (PV.int IntKind.i64 y.2.2.1))), (4, (AV.loc 4 0)), (7, (AV.p (PV.list y.2.2.2.1 y.2.2.2.2.1))), (9, (AV.p (PV.int IntKind.i64 y.2.2.2.2.2.1)))]), (mm 175 [(4, (Bk.pcs true [(PV.int IntKind.i64 y.2.2.2.2.2.2.1), (PV.int IntKind.i64 y.2.2.2.2.2.2.2)]))])⟩)
def Iglidepathlaw02_LineApart_1000069b (q : Ext × S) : Nat × List PV × Int × Nat × List PV × Int × Int × Int := ((pP_list0 (pA_p (avT q.2 0))), (pP_list1 (pA_p (avT q.2 0))), (pP_int1 (pA_p (avT q.2 2))), (pP_list0 (pA_p (avT q.2 7))), (pP_list1 (pA_p (avT q.2 7))), (pP_int1 (pA_p (avT q.2 9))), (pP_int1 (hdP (pB_pcs1 (avM q.2 4)))), (pP_int1 (hdP (List.tail (pB_pcs1 (avM q.2 4))))))
abbrev Yglidepathlaw02_LineApart_1000069 : Type := (Unit) ⊕ ((Nat × List PV × Int × Nat × List PV × Int × Int × Int))
def XLglidepathlaw02_LineApart_1000069 : XL Yglidepathlaw02_LineApart_1000069 := .more Xglidepathlaw02_LineApart_1000069a (.one Xglidepathlaw02_LineApart_1000069b)
def Iglidepathlaw02_LineApart_1000069 (q : Ext × S) : Yglidepathlaw02_LineApart_1000069 := bif (cE q.1 == 2) then (Sum.inl (Iglidepathlaw02_LineApart_1000069a q)) else (Sum.inr (Iglidepathlaw02_LineApart_1000069b q))
theorem XIglidepathlaw02_LineApart_1000069a (y : Unit) : Iglidepathlaw02_LineApart_1000069 (xe (Xglidepathlaw02_LineApart_1000069a y)) = (Sum.inl y) := rfl
theorem XIglidepathlaw02_LineApart_1000069b (y : Nat × List PV × Int × Nat × List PV × Int × Int × Int) : Iglidepathlaw02_LineApart_1000069 (xe (Xglidepathlaw02_LineApart_1000069b y)) = (Sum.inr y) := rfl
theorem XIglidepathlaw02_LineApart_1000069 (y : Yglidepathlaw02_LineApart_1000069) : Iglidepathlaw02_LineApart_1000069 (xe (XLglidepathlaw02_LineApart_1000069.fn y)) = y := (match y with | .inl y => XIglidepathlaw02_LineApart_1000069a y | .inr y => XIglidepathlaw02_LineApart_1000069b y)
noncomputable abbrev Lglidepathlaw02_LineApart_1000069 : Q → Option Yglidepathlaw02_LineApart_1000069 := lpO env a6.body 1000069 XLglidepathlaw02_LineApart_1000069
noncomputable abbrev Rglidepathlaw02_LineApart_1000069 : Q → Option (Ext × S) := lpR env a6.body 1000069
theorem Lglidepathlaw02_LineApart_1000069a_of {s : Q} {y : Unit} (h : Rglidepathlaw02_LineApart_1000069 s = exO (Xglidepathlaw02_LineApart_1000069a y)) : Lglidepathlaw02_LineApart_1000069 s = some (Sum.inl y) := lpO_of Iglidepathlaw02_LineApart_1000069 XIglidepathlaw02_LineApart_1000069 (y := (Sum.inl y)) h
theorem Lglidepathlaw02_LineApart_1000069b_of {s : Q} {y : Nat × List PV × Int × Nat × List PV × Int × Int × Int} (h : Rglidepathlaw02_LineApart_1000069 s = exO (Xglidepathlaw02_LineApart_1000069b y)) : Lglidepathlaw02_LineApart_1000069 s = some (Sum.inr y) := lpO_of Iglidepathlaw02_LineApart_1000069 XIglidepathlaw02_LineApart_1000069 (y := (Sum.inr y)) h
def Tglidepathlaw02_LineApart_1000052a (n0 : Nat) (c1 : List PV) (i2 : Int) (n3 : Nat) (c4 : List PV) (i5 : Int) (i6 : Int) (i7 : Int) (i8 : Int) : Q := ⟨(tm 175 [(0, (AV.p (PV.list n0 c1))), (2, (AV.p (PV.int IntKind.i64 i2))), (4, (AV.loc 4 0)), (7, (AV.p (PV.list n3 c4))), (9, (AV.p (PV.int IntKind.i64 i5))), (11, (AV.p (PV.int IntKind.i64 i6)))]), (mm 175 [(4, (Bk.pcs true [(PV.int IntKind.i64 i7), (PV.int IntKind.i64 i8)]))])⟩
def Xglidepathlaw02_LineApart_1000052a (y : Unit) : Ext × Q := (Ext.ret, ⟨(tm 175 [(6, (AV.p (PV.bool false)))]), (mm 175 [])⟩)
def Iglidepathlaw02_LineApart_1000052a (q : Ext × S) : Unit := ()
def Xglidepathlaw02_LineApart_1000052b (y : Nat × List PV × Int × Nat × List PV × Int × Int × Int × Int) : Ext × Q := (Ext.normal, ⟨(tm 175 [(0, (AV.p (PV.list y.1 y.2.1))), (2, (AV.p (PV.int IntKind.i64 y.2.2.1))), (4, (AV.loc 4 0)), (7, (AV.p (PV.list y.2.2.2.1 y.2.2.2.2.1))), (9, (AV.p (PV.int IntKind.i64 y.2.2.2.2.2.1))), (11, (AV.p (PV.int IntKind.i64 y.2.2.2.2.2.2.1)))]), (mm 175 [(4, (Bk.pcs true [(PV.int IntKind.i64 y.2.2.2.2.2.2.2.1), (PV.int IntKind.i64 y.2.2.2.2.2.2.2.2)]))])⟩)
def Iglidepathlaw02_LineApart_1000052b (q : Ext × S) : Nat × List PV × Int × Nat × List PV × Int × Int × Int × Int := ((pP_list0 (pA_p (avT q.2 0))), (pP_list1 (pA_p (avT q.2 0))), (pP_int1 (pA_p (avT q.2 2))), (pP_list0 (pA_p (avT q.2 7))), (pP_list1 (pA_p (avT q.2 7))), (pP_int1 (pA_p (avT q.2 9))), (pP_int1 (pA_p (avT q.2 11))), (pP_int1 (hdP (pB_pcs1 (avM q.2 4)))), (pP_int1 (hdP (List.tail (pB_pcs1 (avM q.2 4))))))
abbrev Yglidepathlaw02_LineApart_1000052 : Type := (Unit) ⊕ ((Nat × List PV × Int × Nat × List PV × Int × Int × Int × Int))
def XLglidepathlaw02_LineApart_1000052 : XL Yglidepathlaw02_LineApart_1000052 := .more Xglidepathlaw02_LineApart_1000052a (.one Xglidepathlaw02_LineApart_1000052b)
def Iglidepathlaw02_LineApart_1000052 (q : Ext × S) : Yglidepathlaw02_LineApart_1000052 := bif (cE q.1 == 2) then (Sum.inl (Iglidepathlaw02_LineApart_1000052a q)) else (Sum.inr (Iglidepathlaw02_LineApart_1000052b q))
theorem XIglidepathlaw02_LineApart_1000052a (y : Unit) : Iglidepathlaw02_LineApart_1000052 (xe (Xglidepathlaw02_LineApart_1000052a y)) = (Sum.inl y) := rfl
theorem XIglidepathlaw02_LineApart_1000052b (y : Nat × List PV × Int × Nat × List PV × Int × Int × Int × Int) : Iglidepathlaw02_LineApart_1000052 (xe (Xglidepathlaw02_LineApart_1000052b y)) = (Sum.inr y) := rfl
theorem XIglidepathlaw02_LineApart_1000052 (y : Yglidepathlaw02_LineApart_1000052) : Iglidepathlaw02_LineApart_1000052 (xe (XLglidepathlaw02_LineApart_1000052.fn y)) = y := (match y with | .inl y => XIglidepathlaw02_LineApart_1000052a y | .inr y => XIglidepathlaw02_LineApart_1000052b y)
noncomputable abbrev Lglidepathlaw02_LineApart_1000052 : Q → Option Yglidepathlaw02_LineApart_1000052 := lpO env a6.body 1000052 XLglidepathlaw02_LineApart_1000052
noncomputable abbrev Rglidepathlaw02_LineApart_1000052 : Q → Option (Ext × S) := lpR env a6.body 1000052
theorem Lglidepathlaw02_LineApart_1000052a_of {s : Q} {y : Unit} (h : Rglidepathlaw02_LineApart_1000052 s = exO (Xglidepathlaw02_LineApart_1000052a y)) : Lglidepathlaw02_LineApart_1000052 s = some (Sum.inl y) := lpO_of Iglidepathlaw02_LineApart_1000052 XIglidepathlaw02_LineApart_1000052 (y := (Sum.inl y)) h
theorem Lglidepathlaw02_LineApart_1000052b_of {s : Q} {y : Nat × List PV × Int × Nat × List PV × Int × Int × Int × Int} (h : Rglidepathlaw02_LineApart_1000052 s = exO (Xglidepathlaw02_LineApart_1000052b y)) : Lglidepathlaw02_LineApart_1000052 s = some (Sum.inr y) := lpO_of Iglidepathlaw02_LineApart_1000052 XIglidepathlaw02_LineApart_1000052 (y := (Sum.inr y)) h
def Tglidepathlaw02_LineApart_1000009a (n0 : Nat) (c1 : List PV) (n2 : Nat) (c3 : List PV) (n4 : Nat) (c5 : List PV) (i6 : Int) (i7 : Int) (i8 : Int) : Q := ⟨(tm 175 [(0, (AV.p (PV.list n0 c1))), (7, (AV.p (PV.list n2 c3))), (12, (AV.loc 12 0)), (13, (AV.p (PV.list n4 c5))), (15, (AV.p (PV.int IntKind.i64 i6)))]), (mm 175 [(12, (Bk.pcs true [(PV.int IntKind.i64 i7), (PV.int IntKind.i64 i8)]))])⟩
def Xglidepathlaw02_LineApart_1000009a (y : Nat × List PV × Nat × List PV × Nat × List PV × Int × Int × Int) : Ext × Q := (Ext.normal, ⟨(tm 175 [(0, (AV.p (PV.list y.1 y.2.1))), (7, (AV.p (PV.list y.2.2.1 y.2.2.2.1))), (12, (AV.loc 12 0)), (13, (AV.p (PV.list y.2.2.2.2.1 y.2.2.2.2.2.1))), (15, (AV.p (PV.int IntKind.i64 y.2.2.2.2.2.2.1)))]), (mm 175 [(12, (Bk.pcs true [(PV.int IntKind.i64 y.2.2.2.2.2.2.2.1), (PV.int IntKind.i64 y.2.2.2.2.2.2.2.2)]))])⟩)
def Iglidepathlaw02_LineApart_1000009a (q : Ext × S) : Nat × List PV × Nat × List PV × Nat × List PV × Int × Int × Int := ((pP_list0 (pA_p (avT q.2 0))), (pP_list1 (pA_p (avT q.2 0))), (pP_list0 (pA_p (avT q.2 7))), (pP_list1 (pA_p (avT q.2 7))), (pP_list0 (pA_p (avT q.2 13))), (pP_list1 (pA_p (avT q.2 13))), (pP_int1 (pA_p (avT q.2 15))), (pP_int1 (hdP (pB_pcs1 (avM q.2 12)))), (pP_int1 (hdP (List.tail (pB_pcs1 (avM q.2 12))))))
def Xglidepathlaw02_LineApart_1000009b (y : Unit) : Ext × Q := (Ext.ret, ⟨(tm 175 [(6, (AV.p (PV.bool false)))]), (mm 175 [])⟩)
def Iglidepathlaw02_LineApart_1000009b (q : Ext × S) : Unit := ()
abbrev Yglidepathlaw02_LineApart_1000009 : Type := (Nat × List PV × Nat × List PV × Nat × List PV × Int × Int × Int) ⊕ ((Unit))
def XLglidepathlaw02_LineApart_1000009 : XL Yglidepathlaw02_LineApart_1000009 := .more Xglidepathlaw02_LineApart_1000009a (.one Xglidepathlaw02_LineApart_1000009b)
def Iglidepathlaw02_LineApart_1000009 (q : Ext × S) : Yglidepathlaw02_LineApart_1000009 := bif (cE q.1 == 0) then (Sum.inl (Iglidepathlaw02_LineApart_1000009a q)) else (Sum.inr (Iglidepathlaw02_LineApart_1000009b q))
theorem XIglidepathlaw02_LineApart_1000009a (y : Nat × List PV × Nat × List PV × Nat × List PV × Int × Int × Int) : Iglidepathlaw02_LineApart_1000009 (xe (Xglidepathlaw02_LineApart_1000009a y)) = (Sum.inl y) := rfl
theorem XIglidepathlaw02_LineApart_1000009b (y : Unit) : Iglidepathlaw02_LineApart_1000009 (xe (Xglidepathlaw02_LineApart_1000009b y)) = (Sum.inr y) := rfl
theorem XIglidepathlaw02_LineApart_1000009 (y : Yglidepathlaw02_LineApart_1000009) : Iglidepathlaw02_LineApart_1000009 (xe (XLglidepathlaw02_LineApart_1000009.fn y)) = y := (match y with | .inl y => XIglidepathlaw02_LineApart_1000009a y | .inr y => XIglidepathlaw02_LineApart_1000009b y)
noncomputable abbrev Lglidepathlaw02_LineApart_1000009 : Q → Option Yglidepathlaw02_LineApart_1000009 := lpO env a6.body 1000009 XLglidepathlaw02_LineApart_1000009
noncomputable abbrev Rglidepathlaw02_LineApart_1000009 : Q → Option (Ext × S) := lpR env a6.body 1000009
theorem Lglidepathlaw02_LineApart_1000009a_of {s : Q} {y : Nat × List PV × Nat × List PV × Nat × List PV × Int × Int × Int} (h : Rglidepathlaw02_LineApart_1000009 s = exO (Xglidepathlaw02_LineApart_1000009a y)) : Lglidepathlaw02_LineApart_1000009 s = some (Sum.inl y) := lpO_of Iglidepathlaw02_LineApart_1000009 XIglidepathlaw02_LineApart_1000009 (y := (Sum.inl y)) h
theorem Lglidepathlaw02_LineApart_1000009b_of {s : Q} {y : Unit} (h : Rglidepathlaw02_LineApart_1000009 s = exO (Xglidepathlaw02_LineApart_1000009b y)) : Lglidepathlaw02_LineApart_1000009 s = some (Sum.inr y) := lpO_of Iglidepathlaw02_LineApart_1000009 XIglidepathlaw02_LineApart_1000009 (y := (Sum.inr y)) h
theorem Uglidepathlaw02_LineApart : uniq ((blocksOf a6.body).map (·.1)) = true := by kernel_rfl
def Bglidepathlaw02_LineApart_0a (F : FnT) (N : Q → Option (Ext × S)) (E : Ext × Q → Option (Ext × S)) (L0 : Q → Option Yglidepathlaw02_LineApart_0) (L2 : Q → Option Yglidepathlaw02_LineApart_2) (L1000080 : Q → Option Yglidepathlaw02_LineApart_1000080) (L1000069 : Q → Option Yglidepathlaw02_LineApart_1000069) (L1000052 : Q → Option Yglidepathlaw02_LineApart_1000052) (L1000009 : Q → Option Yglidepathlaw02_LineApart_1000009) (n0 : Nat) (c1 : List PV) (i2 : Int) (n3 : Nat) (c4 : List PV) (i5 : Int) (i6 : Int) (i7 : Int) (i8 : Int) : Option (Ext × S) :=
  bif (decide (i6 < (n3 : Int))) then
    bindO (L1000052 (Tglidepathlaw02_LineApart_1000052a n0 c1 i2 n3 c4 i5 i6 i7 i8)) fun z =>
    Sum.elim (fun y0 =>
      E (Xglidepathlaw02_LineApart_0b ())) (fun y1 =>
      N (Tglidepathlaw02_LineApart_0a y1.1 y1.2.1 y1.2.2.1 y1.2.2.2.1 y1.2.2.2.2.1 y1.2.2.2.2.2.1 (w64 (y1.2.2.2.2.2.2.1 + (1 : Int))) y1.2.2.2.2.2.2.2.1 y1.2.2.2.2.2.2.2.2)) z
  else E (Xglidepathlaw02_LineApart_0a (n0, c1, i2, n3, c4, i5, i7, i8))
theorem Bglidepathlaw02_LineApart_0a_eq (F : FnT) (N : Q → Option (Ext × S)) (E : Ext × Q → Option (Ext × S)) (L0 : Q → Option Yglidepathlaw02_LineApart_0) (L2 : Q → Option Yglidepathlaw02_LineApart_2) (L1000080 : Q → Option Yglidepathlaw02_LineApart_1000080) (L1000069 : Q → Option Yglidepathlaw02_LineApart_1000069) (L1000052 : Q → Option Yglidepathlaw02_LineApart_1000052) (L1000009 : Q → Option Yglidepathlaw02_LineApart_1000009) (n0 : Nat) (c1 : List PV) (i2 : Int) (n3 : Nat) (c4 : List PV) (i5 : Int) (i6 : Int) (i7 : Int) (i8 : Int) : semB (callP F Eglidepathlaw02_LineApart 20) s6 (loopT [⟨0, Yglidepathlaw02_LineApart_0, L0, XLglidepathlaw02_LineApart_0⟩, ⟨2, Yglidepathlaw02_LineApart_2, L2, XLglidepathlaw02_LineApart_2⟩, ⟨1000080, Yglidepathlaw02_LineApart_1000080, L1000080, XLglidepathlaw02_LineApart_1000080⟩, ⟨1000069, Yglidepathlaw02_LineApart_1000069, L1000069, XLglidepathlaw02_LineApart_1000069⟩, ⟨1000052, Yglidepathlaw02_LineApart_1000052, L1000052, XLglidepathlaw02_LineApart_1000052⟩, ⟨1000009, Yglidepathlaw02_LineApart_1000009, L1000009, XLglidepathlaw02_LineApart_1000009⟩]) 400 (blkIn a6.body 0) N E (Tglidepathlaw02_LineApart_0a n0 c1 i2 n3 c4 i5 i6 i7 i8) = Bglidepathlaw02_LineApart_0a F N E L0 L2 L1000080 L1000069 L1000052 L1000009 n0 c1 i2 n3 c4 i5 i6 i7 i8 := by kernel_rfl
theorem Rglidepathlaw02_LineApart_0a_of  (n0 : Nat) (c1 : List PV) (i2 : Int) (n3 : Nat) (c4 : List PV) (i5 : Int) (i6 : Int) (i7 : Int) (i8 : Int) {r : Ext × S} (h : Bglidepathlaw02_LineApart_0a (Fn env) Rglidepathlaw02_LineApart_0 exO Lglidepathlaw02_LineApart_0 Lglidepathlaw02_LineApart_2 Lglidepathlaw02_LineApart_1000080 Lglidepathlaw02_LineApart_1000069 Lglidepathlaw02_LineApart_1000052 Lglidepathlaw02_LineApart_1000009 n0 c1 i2 n3 c4 i5 i6 i7 i8 = some r) : Rglidepathlaw02_LineApart_0 (Tglidepathlaw02_LineApart_0a n0 c1 i2 n3 c4 i5 i6 i7 i8) = some r :=
  lp_of Eglidepathlaw02_LineApart_ok (by kernel_rfl) (lo_cons (lpO_ok Uglidepathlaw02_LineApart) (lo_cons (lpO_ok Uglidepathlaw02_LineApart) (lo_cons (lpO_ok Uglidepathlaw02_LineApart) (lo_cons (lpO_ok Uglidepathlaw02_LineApart) (lo_cons (lpO_ok Uglidepathlaw02_LineApart) (lo_cons (lpO_ok Uglidepathlaw02_LineApart) lo_nil)))))) (by kernel_rfl) ((Bglidepathlaw02_LineApart_0a_eq _ _ _ _ _ _ _ _ _ _ _ _ _ _ _ _ _ _).trans h)
def Bglidepathlaw02_LineApart_2a (F : FnT) (N : Q → Option (Ext × S)) (E : Ext × Q → Option (Ext × S)) (L0 : Q → Option Yglidepathlaw02_LineApart_0) (L2 : Q → Option Yglidepathlaw02_LineApart_2) (L1000080 : Q → Option Yglidepathlaw02_LineApart_1000080) (L1000069 : Q → Option Yglidepathlaw02_LineApart_1000069) (L1000052 : Q → Option Yglidepathlaw02_LineApart_1000052) (L1000009 : Q → Option Yglidepathlaw02_LineApart_1000009) (n0 : Nat) (c1 : List PV) (n2 : Nat) (c3 : List PV) (n4 : Nat) (c5 : List PV) (i6 : Int) (i7 : Int) (i8 : Int) : Option (Ext × S) :=
  bif (decide (i6 < (n0 : Int))) then
    bindO (L1000009 (Tglidepathlaw02_LineApart_1000009a n0 c1 n2 c3 n4 c5 i6 i7 i8)) fun z =>
    Sum.elim (fun y0 =>
      N (Tglidepathlaw02_LineApart_2a y0.1 y0.2.1 y0.2.2.1 y0.2.2.2.1 y0.2.2.2.2.1 y0.2.2.2.2.2.1 (w64 (y0.2.2.2.2.2.2.1 + (1 : Int))) y0.2.2.2.2.2.2.2.1 y0.2.2.2.2.2.2.2.2)) (fun y1 =>
      E (Xglidepathlaw02_LineApart_2b ())) z
  else E (Xglidepathlaw02_LineApart_2a (i7, i8))
theorem Bglidepathlaw02_LineApart_2a_eq (F : FnT) (N : Q → Option (Ext × S)) (E : Ext × Q → Option (Ext × S)) (L0 : Q → Option Yglidepathlaw02_LineApart_0) (L2 : Q → Option Yglidepathlaw02_LineApart_2) (L1000080 : Q → Option Yglidepathlaw02_LineApart_1000080) (L1000069 : Q → Option Yglidepathlaw02_LineApart_1000069) (L1000052 : Q → Option Yglidepathlaw02_LineApart_1000052) (L1000009 : Q → Option Yglidepathlaw02_LineApart_1000009) (n0 : Nat) (c1 : List PV) (n2 : Nat) (c3 : List PV) (n4 : Nat) (c5 : List PV) (i6 : Int) (i7 : Int) (i8 : Int) : semB (callP F Eglidepathlaw02_LineApart 20) s6 (loopT [⟨0, Yglidepathlaw02_LineApart_0, L0, XLglidepathlaw02_LineApart_0⟩, ⟨2, Yglidepathlaw02_LineApart_2, L2, XLglidepathlaw02_LineApart_2⟩, ⟨1000080, Yglidepathlaw02_LineApart_1000080, L1000080, XLglidepathlaw02_LineApart_1000080⟩, ⟨1000069, Yglidepathlaw02_LineApart_1000069, L1000069, XLglidepathlaw02_LineApart_1000069⟩, ⟨1000052, Yglidepathlaw02_LineApart_1000052, L1000052, XLglidepathlaw02_LineApart_1000052⟩, ⟨1000009, Yglidepathlaw02_LineApart_1000009, L1000009, XLglidepathlaw02_LineApart_1000009⟩]) 400 (blkIn a6.body 2) N E (Tglidepathlaw02_LineApart_2a n0 c1 n2 c3 n4 c5 i6 i7 i8) = Bglidepathlaw02_LineApart_2a F N E L0 L2 L1000080 L1000069 L1000052 L1000009 n0 c1 n2 c3 n4 c5 i6 i7 i8 := by kernel_rfl
theorem Rglidepathlaw02_LineApart_2a_of  (n0 : Nat) (c1 : List PV) (n2 : Nat) (c3 : List PV) (n4 : Nat) (c5 : List PV) (i6 : Int) (i7 : Int) (i8 : Int) {r : Ext × S} (h : Bglidepathlaw02_LineApart_2a (Fn env) Rglidepathlaw02_LineApart_2 exO Lglidepathlaw02_LineApart_0 Lglidepathlaw02_LineApart_2 Lglidepathlaw02_LineApart_1000080 Lglidepathlaw02_LineApart_1000069 Lglidepathlaw02_LineApart_1000052 Lglidepathlaw02_LineApart_1000009 n0 c1 n2 c3 n4 c5 i6 i7 i8 = some r) : Rglidepathlaw02_LineApart_2 (Tglidepathlaw02_LineApart_2a n0 c1 n2 c3 n4 c5 i6 i7 i8) = some r :=
  lp_of Eglidepathlaw02_LineApart_ok (by kernel_rfl) (lo_cons (lpO_ok Uglidepathlaw02_LineApart) (lo_cons (lpO_ok Uglidepathlaw02_LineApart) (lo_cons (lpO_ok Uglidepathlaw02_LineApart) (lo_cons (lpO_ok Uglidepathlaw02_LineApart) (lo_cons (lpO_ok Uglidepathlaw02_LineApart) (lo_cons (lpO_ok Uglidepathlaw02_LineApart) lo_nil)))))) (by kernel_rfl) ((Bglidepathlaw02_LineApart_2a_eq _ _ _ _ _ _ _ _ _ _ _ _ _ _ _ _ _ _).trans h)
def Bglidepathlaw02_LineApart_1000080a (F : FnT) (N : Q → Option (Ext × S)) (E : Ext × Q → Option (Ext × S)) (L0 : Q → Option Yglidepathlaw02_LineApart_0) (L2 : Q → Option Yglidepathlaw02_LineApart_2) (L1000080 : Q → Option Yglidepathlaw02_LineApart_1000080) (L1000069 : Q → Option Yglidepathlaw02_LineApart_1000069) (L1000052 : Q → Option Yglidepathlaw02_LineApart_1000052) (L1000009 : Q → Option Yglidepathlaw02_LineApart_1000009) (n0 : Nat) (c1 : List PV) (i2 : Int) (i3 : Int) (i4 : Int) : Option (Ext × S) :=
  bindO (F 13 (RSh.one (CK.int IntKind.i64)) [(PV.list n0 c1)]) fun (y0 : (Int)) =>
  bif (y0 != (0 : Int)) then
    E (Xglidepathlaw02_LineApart_1000080a ())
  else bindO (F 29 (RSh.one (CK.int IntKind.i64)) [(PV.agg [(PV.int IntKind.i64 i3), (PV.int IntKind.i64 i4)])]) fun (y1 : (Int)) =>
  bif (y1 != (0 : Int)) then
    E (Xglidepathlaw02_LineApart_1000080a ())
  else bindO (F 14 (RSh.one CK.bool) [(PV.int IntKind.i64 i2), (PV.int IntKind.i64 (0 : Int)), (PV.int IntKind.i64 (100 : Int))]) fun (y2 : (Bool)) =>
  bif y2 then
    E (Xglidepathlaw02_LineApart_1000080b (n0, c1, i2, i3, i4))
  else E (Xglidepathlaw02_LineApart_1000080a ())
theorem Bglidepathlaw02_LineApart_1000080a_eq (F : FnT) (N : Q → Option (Ext × S)) (E : Ext × Q → Option (Ext × S)) (L0 : Q → Option Yglidepathlaw02_LineApart_0) (L2 : Q → Option Yglidepathlaw02_LineApart_2) (L1000080 : Q → Option Yglidepathlaw02_LineApart_1000080) (L1000069 : Q → Option Yglidepathlaw02_LineApart_1000069) (L1000052 : Q → Option Yglidepathlaw02_LineApart_1000052) (L1000009 : Q → Option Yglidepathlaw02_LineApart_1000009) (n0 : Nat) (c1 : List PV) (i2 : Int) (i3 : Int) (i4 : Int) : semN (callP F Eglidepathlaw02_LineApart 20) s6 (loopT [⟨0, Yglidepathlaw02_LineApart_0, L0, XLglidepathlaw02_LineApart_0⟩, ⟨2, Yglidepathlaw02_LineApart_2, L2, XLglidepathlaw02_LineApart_2⟩, ⟨1000080, Yglidepathlaw02_LineApart_1000080, L1000080, XLglidepathlaw02_LineApart_1000080⟩, ⟨1000069, Yglidepathlaw02_LineApart_1000069, L1000069, XLglidepathlaw02_LineApart_1000069⟩, ⟨1000052, Yglidepathlaw02_LineApart_1000052, L1000052, XLglidepathlaw02_LineApart_1000052⟩, ⟨1000009, Yglidepathlaw02_LineApart_1000009, L1000009, XLglidepathlaw02_LineApart_1000009⟩]) 400 (blkIn a6.body 1000080) E (Tglidepathlaw02_LineApart_1000080a n0 c1 i2 i3 i4) = Bglidepathlaw02_LineApart_1000080a F N E L0 L2 L1000080 L1000069 L1000052 L1000009 n0 c1 i2 i3 i4 := by kernel_rfl
theorem Rglidepathlaw02_LineApart_1000080a_of  (n0 : Nat) (c1 : List PV) (i2 : Int) (i3 : Int) (i4 : Int) {r : Ext × S} (h : Bglidepathlaw02_LineApart_1000080a (Fn env) Rglidepathlaw02_LineApart_1000080 exO Lglidepathlaw02_LineApart_0 Lglidepathlaw02_LineApart_2 Lglidepathlaw02_LineApart_1000080 Lglidepathlaw02_LineApart_1000069 Lglidepathlaw02_LineApart_1000052 Lglidepathlaw02_LineApart_1000009 n0 c1 i2 i3 i4 = some r) : Rglidepathlaw02_LineApart_1000080 (Tglidepathlaw02_LineApart_1000080a n0 c1 i2 i3 i4) = some r :=
  nd_of Eglidepathlaw02_LineApart_ok (by kernel_rfl) (lo_cons (lpO_ok Uglidepathlaw02_LineApart) (lo_cons (lpO_ok Uglidepathlaw02_LineApart) (lo_cons (lpO_ok Uglidepathlaw02_LineApart) (lo_cons (lpO_ok Uglidepathlaw02_LineApart) (lo_cons (lpO_ok Uglidepathlaw02_LineApart) (lo_cons (lpO_ok Uglidepathlaw02_LineApart) lo_nil)))))) (by kernel_rfl) ((Bglidepathlaw02_LineApart_1000080a_eq _ Rglidepathlaw02_LineApart_1000080 _ _ _ _ _ _ _ _ _ _ _ _).trans h)
def Bglidepathlaw02_LineApart_1000069a (F : FnT) (N : Q → Option (Ext × S)) (E : Ext × Q → Option (Ext × S)) (L0 : Q → Option Yglidepathlaw02_LineApart_0) (L2 : Q → Option Yglidepathlaw02_LineApart_2) (L1000080 : Q → Option Yglidepathlaw02_LineApart_1000080) (L1000069 : Q → Option Yglidepathlaw02_LineApart_1000069) (L1000052 : Q → Option Yglidepathlaw02_LineApart_1000052) (L1000009 : Q → Option Yglidepathlaw02_LineApart_1000009) (n0 : Nat) (c1 : List PV) (i2 : Int) (n3 : Nat) (c4 : List PV) (i5 : Int) (i6 : Int) (i7 : Int) (i8 : Int) (i9 : Int) : Option (Ext × S) :=
  bif (i5 != (0 : Int)) then
    E (Xglidepathlaw02_LineApart_1000069a ())
  else bif (i7 != (0 : Int)) then
    E (Xglidepathlaw02_LineApart_1000069a ())
  else bindO (F 14 (RSh.one CK.bool) [(PV.int IntKind.i64 i6), (PV.int IntKind.i64 (0 : Int)), (PV.int IntKind.i64 (w64 ((n0 : Int) - (1 : Int))))]) fun (y0 : (Bool)) =>
  bif y0 then
    bif (decide ((n3 : Int) > (n0 : Int))) then
      E (Xglidepathlaw02_LineApart_1000069a ())
    else E (Xglidepathlaw02_LineApart_1000069b (n0, c1, i2, n3, c4, i6, i8, i9))
  else E (Xglidepathlaw02_LineApart_1000069a ())
theorem Bglidepathlaw02_LineApart_1000069a_eq (F : FnT) (N : Q → Option (Ext × S)) (E : Ext × Q → Option (Ext × S)) (L0 : Q → Option Yglidepathlaw02_LineApart_0) (L2 : Q → Option Yglidepathlaw02_LineApart_2) (L1000080 : Q → Option Yglidepathlaw02_LineApart_1000080) (L1000069 : Q → Option Yglidepathlaw02_LineApart_1000069) (L1000052 : Q → Option Yglidepathlaw02_LineApart_1000052) (L1000009 : Q → Option Yglidepathlaw02_LineApart_1000009) (n0 : Nat) (c1 : List PV) (i2 : Int) (n3 : Nat) (c4 : List PV) (i5 : Int) (i6 : Int) (i7 : Int) (i8 : Int) (i9 : Int) : semN (callP F Eglidepathlaw02_LineApart 20) s6 (loopT [⟨0, Yglidepathlaw02_LineApart_0, L0, XLglidepathlaw02_LineApart_0⟩, ⟨2, Yglidepathlaw02_LineApart_2, L2, XLglidepathlaw02_LineApart_2⟩, ⟨1000080, Yglidepathlaw02_LineApart_1000080, L1000080, XLglidepathlaw02_LineApart_1000080⟩, ⟨1000069, Yglidepathlaw02_LineApart_1000069, L1000069, XLglidepathlaw02_LineApart_1000069⟩, ⟨1000052, Yglidepathlaw02_LineApart_1000052, L1000052, XLglidepathlaw02_LineApart_1000052⟩, ⟨1000009, Yglidepathlaw02_LineApart_1000009, L1000009, XLglidepathlaw02_LineApart_1000009⟩]) 400 (blkIn a6.body 1000069) E (Tglidepathlaw02_LineApart_1000069a n0 c1 i2 n3 c4 i5 i6 i7 i8 i9) = Bglidepathlaw02_LineApart_1000069a F N E L0 L2 L1000080 L1000069 L1000052 L1000009 n0 c1 i2 n3 c4 i5 i6 i7 i8 i9 := by kernel_rfl
theorem Rglidepathlaw02_LineApart_1000069a_of  (n0 : Nat) (c1 : List PV) (i2 : Int) (n3 : Nat) (c4 : List PV) (i5 : Int) (i6 : Int) (i7 : Int) (i8 : Int) (i9 : Int) {r : Ext × S} (h : Bglidepathlaw02_LineApart_1000069a (Fn env) Rglidepathlaw02_LineApart_1000069 exO Lglidepathlaw02_LineApart_0 Lglidepathlaw02_LineApart_2 Lglidepathlaw02_LineApart_1000080 Lglidepathlaw02_LineApart_1000069 Lglidepathlaw02_LineApart_1000052 Lglidepathlaw02_LineApart_1000009 n0 c1 i2 n3 c4 i5 i6 i7 i8 i9 = some r) : Rglidepathlaw02_LineApart_1000069 (Tglidepathlaw02_LineApart_1000069a n0 c1 i2 n3 c4 i5 i6 i7 i8 i9) = some r :=
  nd_of Eglidepathlaw02_LineApart_ok (by kernel_rfl) (lo_cons (lpO_ok Uglidepathlaw02_LineApart) (lo_cons (lpO_ok Uglidepathlaw02_LineApart) (lo_cons (lpO_ok Uglidepathlaw02_LineApart) (lo_cons (lpO_ok Uglidepathlaw02_LineApart) (lo_cons (lpO_ok Uglidepathlaw02_LineApart) (lo_cons (lpO_ok Uglidepathlaw02_LineApart) lo_nil)))))) (by kernel_rfl) ((Bglidepathlaw02_LineApart_1000069a_eq _ Rglidepathlaw02_LineApart_1000069 _ _ _ _ _ _ _ _ _ _ _ _ _ _ _ _ _).trans h)
def Bglidepathlaw02_LineApart_1000052a (F : FnT) (N : Q → Option (Ext × S)) (E : Ext × Q → Option (Ext × S)) (L0 : Q → Option Yglidepathlaw02_LineApart_0) (L2 : Q → Option Yglidepathlaw02_LineApart_2) (L1000080 : Q → Option Yglidepathlaw02_LineApart_1000080) (L1000069 : Q → Option Yglidepathlaw02_LineApart_1000069) (L1000052 : Q → Option Yglidepathlaw02_LineApart_1000052) (L1000009 : Q → Option Yglidepathlaw02_LineApart_1000009) (n0 : Nat) (c1 : List PV) (i2 : Int) (n3 : Nat) (c4 : List PV) (i5 : Int) (i6 : Int) (i7 : Int) (i8 : Int) : Option (Ext × S) :=
  bif (decide (((0 : Int) ≤ i6) ∧ (i6 < (n3 : Int)))) then
    bindO (intC IntKind.i64 (c4[((Int.toNat i6) * 1)]?)) fun x0 =>
    bindO (F 14 (RSh.one CK.bool) [(PV.int IntKind.i64 x0), (PV.int IntKind.i64 (0 : Int)), (PV.int IntKind.i64 (w64 ((n0 : Int) - (1 : Int))))]) fun (y1 : (Bool)) =>
    bif y1 then
      bif (decide (((0 : Int) ≤ i6) ∧ (i6 < (n3 : Int)))) then
        bindO (intC IntKind.i64 (c4[((Int.toNat i6) * 1)]?)) fun x2 =>
        bif (decide (((0 : Int) ≤ x2) ∧ (x2 < (n0 : Int)))) then
          bindO (intC IntKind.i64 (c1[((Int.toNat x2) * 1)]?)) fun x3 =>
          bif (decide (x3 < i7)) then
            E (Xglidepathlaw02_LineApart_1000052a ())
          else bif (decide (i6 > (0 : Int))) then
            bif (decide (((0 : Int) ≤ i6) ∧ (i6 < (n3 : Int)))) then
              bindO (intC IntKind.i64 (c4[((Int.toNat i6) * 1)]?)) fun x4 =>
              bif (decide (((0 : Int) ≤ (w64 (i6 - (1 : Int)))) ∧ ((w64 (i6 - (1 : Int))) < (n3 : Int)))) then
                bindO (intC IntKind.i64 (c4[((Int.toNat (w64 (i6 - (1 : Int)))) * 1)]?)) fun x5 =>
                bif (decide (x4 ≤ x5)) then
                  E (Xglidepathlaw02_LineApart_1000052a ())
                else bif (decide (((0 : Int) ≤ i6) ∧ (i6 < (n3 : Int)))) then
                  bindO (intC IntKind.i64 (c4[((Int.toNat i6) * 1)]?)) fun x6 =>
                  bif (decide (((0 : Int) ≤ (w64 (i6 - (1 : Int)))) ∧ ((w64 (i6 - (1 : Int))) < (n3 : Int)))) then
                    bindO (intC IntKind.i64 (c4[((Int.toNat (w64 (i6 - (1 : Int)))) * 1)]?)) fun x7 =>
                    bif (decide ((w64 (x6 - x7)) ≤ i8)) then
                      E (Xglidepathlaw02_LineApart_1000052a ())
                    else E (Xglidepathlaw02_LineApart_1000052b (n0, c1, i2, n3, c4, i5, i6, i7, i8))
                  else none
                else none
              else none
            else none
          else E (Xglidepathlaw02_LineApart_1000052b (n0, c1, i2, n3, c4, i5, i6, i7, i8))
        else none
      else none
    else E (Xglidepathlaw02_LineApart_1000052a ())
  else none
theorem Bglidepathlaw02_LineApart_1000052a_eq (F : FnT) (N : Q → Option (Ext × S)) (E : Ext × Q → Option (Ext × S)) (L0 : Q → Option Yglidepathlaw02_LineApart_0) (L2 : Q → Option Yglidepathlaw02_LineApart_2) (L1000080 : Q → Option Yglidepathlaw02_LineApart_1000080) (L1000069 : Q → Option Yglidepathlaw02_LineApart_1000069) (L1000052 : Q → Option Yglidepathlaw02_LineApart_1000052) (L1000009 : Q → Option Yglidepathlaw02_LineApart_1000009) (n0 : Nat) (c1 : List PV) (i2 : Int) (n3 : Nat) (c4 : List PV) (i5 : Int) (i6 : Int) (i7 : Int) (i8 : Int) : semN (callP F Eglidepathlaw02_LineApart 20) s6 (loopT [⟨0, Yglidepathlaw02_LineApart_0, L0, XLglidepathlaw02_LineApart_0⟩, ⟨2, Yglidepathlaw02_LineApart_2, L2, XLglidepathlaw02_LineApart_2⟩, ⟨1000080, Yglidepathlaw02_LineApart_1000080, L1000080, XLglidepathlaw02_LineApart_1000080⟩, ⟨1000069, Yglidepathlaw02_LineApart_1000069, L1000069, XLglidepathlaw02_LineApart_1000069⟩, ⟨1000052, Yglidepathlaw02_LineApart_1000052, L1000052, XLglidepathlaw02_LineApart_1000052⟩, ⟨1000009, Yglidepathlaw02_LineApart_1000009, L1000009, XLglidepathlaw02_LineApart_1000009⟩]) 400 (blkIn a6.body 1000052) E (Tglidepathlaw02_LineApart_1000052a n0 c1 i2 n3 c4 i5 i6 i7 i8) = Bglidepathlaw02_LineApart_1000052a F N E L0 L2 L1000080 L1000069 L1000052 L1000009 n0 c1 i2 n3 c4 i5 i6 i7 i8 := by kernel_rfl
theorem Rglidepathlaw02_LineApart_1000052a_of  (n0 : Nat) (c1 : List PV) (i2 : Int) (n3 : Nat) (c4 : List PV) (i5 : Int) (i6 : Int) (i7 : Int) (i8 : Int) {r : Ext × S} (h : Bglidepathlaw02_LineApart_1000052a (Fn env) Rglidepathlaw02_LineApart_1000052 exO Lglidepathlaw02_LineApart_0 Lglidepathlaw02_LineApart_2 Lglidepathlaw02_LineApart_1000080 Lglidepathlaw02_LineApart_1000069 Lglidepathlaw02_LineApart_1000052 Lglidepathlaw02_LineApart_1000009 n0 c1 i2 n3 c4 i5 i6 i7 i8 = some r) : Rglidepathlaw02_LineApart_1000052 (Tglidepathlaw02_LineApart_1000052a n0 c1 i2 n3 c4 i5 i6 i7 i8) = some r :=
  nd_of Eglidepathlaw02_LineApart_ok (by kernel_rfl) (lo_cons (lpO_ok Uglidepathlaw02_LineApart) (lo_cons (lpO_ok Uglidepathlaw02_LineApart) (lo_cons (lpO_ok Uglidepathlaw02_LineApart) (lo_cons (lpO_ok Uglidepathlaw02_LineApart) (lo_cons (lpO_ok Uglidepathlaw02_LineApart) (lo_cons (lpO_ok Uglidepathlaw02_LineApart) lo_nil)))))) (by kernel_rfl) ((Bglidepathlaw02_LineApart_1000052a_eq _ Rglidepathlaw02_LineApart_1000052 _ _ _ _ _ _ _ _ _ _ _ _ _ _ _ _).trans h)
def Bglidepathlaw02_LineApart_1000009a (F : FnT) (N : Q → Option (Ext × S)) (E : Ext × Q → Option (Ext × S)) (L0 : Q → Option Yglidepathlaw02_LineApart_0) (L2 : Q → Option Yglidepathlaw02_LineApart_2) (L1000080 : Q → Option Yglidepathlaw02_LineApart_1000080) (L1000069 : Q → Option Yglidepathlaw02_LineApart_1000069) (L1000052 : Q → Option Yglidepathlaw02_LineApart_1000052) (L1000009 : Q → Option Yglidepathlaw02_LineApart_1000009) (n0 : Nat) (c1 : List PV) (n2 : Nat) (c3 : List PV) (n4 : Nat) (c5 : List PV) (i6 : Int) (i7 : Int) (i8 : Int) : Option (Ext × S) :=
  bindO (F 33 (RSh.one CK.bool) [(PV.list n4 c5), (PV.int IntKind.i64 i6)]) fun (y0 : (Bool)) =>
  bif y0 then
    bindO (F 33 (RSh.one CK.bool) [(PV.list n2 c3), (PV.int IntKind.i64 i6)]) fun (y1 : (Bool)) =>
    bif y1 then
      bif (decide (((0 : Int) ≤ i6) ∧ (i6 < (n0 : Int)))) then
        bindO (intC IntKind.i64 (c1[((Int.toNat i6) * 1)]?)) fun x2 =>
        bif (decide (x2 ≥ i7)) then
          E (Xglidepathlaw02_LineApart_1000009a (n0, c1, n2, c3, n4, c5, i6, i7, i8))
        else E (Xglidepathlaw02_LineApart_1000009b ())
      else none
    else E (Xglidepathlaw02_LineApart_1000009b ())
  else bindO (F 33 (RSh.one CK.bool) [(PV.list n2 c3), (PV.int IntKind.i64 i6)]) fun (y3 : (Bool)) =>
  bif y3 then
    bif (decide (((0 : Int) ≤ i6) ∧ (i6 < (n0 : Int)))) then
      bindO (intC IntKind.i64 (c1[((Int.toNat i6) * 1)]?)) fun x4 =>
      bif (decide (x4 ≥ i7)) then
        E (Xglidepathlaw02_LineApart_1000009b ())
      else E (Xglidepathlaw02_LineApart_1000009a (n0, c1, n2, c3, n4, c5, i6, i7, i8))
    else none
  else E (Xglidepathlaw02_LineApart_1000009a (n0, c1, n2, c3, n4, c5, i6, i7, i8))
theorem Bglidepathlaw02_LineApart_1000009a_eq (F : FnT) (N : Q → Option (Ext × S)) (E : Ext × Q → Option (Ext × S)) (L0 : Q → Option Yglidepathlaw02_LineApart_0) (L2 : Q → Option Yglidepathlaw02_LineApart_2) (L1000080 : Q → Option Yglidepathlaw02_LineApart_1000080) (L1000069 : Q → Option Yglidepathlaw02_LineApart_1000069) (L1000052 : Q → Option Yglidepathlaw02_LineApart_1000052) (L1000009 : Q → Option Yglidepathlaw02_LineApart_1000009) (n0 : Nat) (c1 : List PV) (n2 : Nat) (c3 : List PV) (n4 : Nat) (c5 : List PV) (i6 : Int) (i7 : Int) (i8 : Int) : semN (callP F Eglidepathlaw02_LineApart 20) s6 (loopT [⟨0, Yglidepathlaw02_LineApart_0, L0, XLglidepathlaw02_LineApart_0⟩, ⟨2, Yglidepathlaw02_LineApart_2, L2, XLglidepathlaw02_LineApart_2⟩, ⟨1000080, Yglidepathlaw02_LineApart_1000080, L1000080, XLglidepathlaw02_LineApart_1000080⟩, ⟨1000069, Yglidepathlaw02_LineApart_1000069, L1000069, XLglidepathlaw02_LineApart_1000069⟩, ⟨1000052, Yglidepathlaw02_LineApart_1000052, L1000052, XLglidepathlaw02_LineApart_1000052⟩, ⟨1000009, Yglidepathlaw02_LineApart_1000009, L1000009, XLglidepathlaw02_LineApart_1000009⟩]) 400 (blkIn a6.body 1000009) E (Tglidepathlaw02_LineApart_1000009a n0 c1 n2 c3 n4 c5 i6 i7 i8) = Bglidepathlaw02_LineApart_1000009a F N E L0 L2 L1000080 L1000069 L1000052 L1000009 n0 c1 n2 c3 n4 c5 i6 i7 i8 := by kernel_rfl
theorem Rglidepathlaw02_LineApart_1000009a_of  (n0 : Nat) (c1 : List PV) (n2 : Nat) (c3 : List PV) (n4 : Nat) (c5 : List PV) (i6 : Int) (i7 : Int) (i8 : Int) {r : Ext × S} (h : Bglidepathlaw02_LineApart_1000009a (Fn env) Rglidepathlaw02_LineApart_1000009 exO Lglidepathlaw02_LineApart_0 Lglidepathlaw02_LineApart_2 Lglidepathlaw02_LineApart_1000080 Lglidepathlaw02_LineApart_1000069 Lglidepathlaw02_LineApart_1000052 Lglidepathlaw02_LineApart_1000009 n0 c1 n2 c3 n4 c5 i6 i7 i8 = some r) : Rglidepathlaw02_LineApart_1000009 (Tglidepathlaw02_LineApart_1000009a n0 c1 n2 c3 n4 c5 i6 i7 i8) = some r :=
  nd_of Eglidepathlaw02_LineApart_ok (by kernel_rfl) (lo_cons (lpO_ok Uglidepathlaw02_LineApart) (lo_cons (lpO_ok Uglidepathlaw02_LineApart) (lo_cons (lpO_ok Uglidepathlaw02_LineApart) (lo_cons (lpO_ok Uglidepathlaw02_LineApart) (lo_cons (lpO_ok Uglidepathlaw02_LineApart) (lo_cons (lpO_ok Uglidepathlaw02_LineApart) lo_nil)))))) (by kernel_rfl) ((Bglidepathlaw02_LineApart_1000009a_eq _ Rglidepathlaw02_LineApart_1000009 _ _ _ _ _ _ _ _ _ _ _ _ _ _ _ _).trans h)
def tglidepathlaw02_LineApart (F : FnT) (L0 : Q → Option Yglidepathlaw02_LineApart_0) (L2 : Q → Option Yglidepathlaw02_LineApart_2) (L1000080 : Q → Option Yglidepathlaw02_LineApart_1000080) (L1000069 : Q → Option Yglidepathlaw02_LineApart_1000069) (L1000052 : Q → Option Yglidepathlaw02_LineApart_1000052) (L1000009 : Q → Option Yglidepathlaw02_LineApart_1000009) (p0n : Nat) (p0c : List PV) (p1_0 : Int) (p1_1 : Int) (p2 : Int) : Option (Bool) :=
  bindO (F 8 (RSh.one CK.bool) []) fun (y0 : (Bool)) =>
  bif y0 then
    bindO (L1000080 (Tglidepathlaw02_LineApart_1000080a p0n p0c p2 p1_0 p1_1)) fun z =>
    Sum.elim (fun y1 =>
      some true) (fun y2 =>
      bindO (F 11 (RSh.one CK.list) [(PV.list y2.1 y2.2.1)]) fun (y3 : ((Nat) × (List PV))) =>
      bindO (F 27 (RSh.tup [(Prod.mk false [CK.list]), (Prod.mk false [(CK.int IntKind.i64)])]) [(PV.list y3.1 y3.2), (PV.agg [(PV.int IntKind.i64 y2.2.2.2.1), (PV.int IntKind.i64 y2.2.2.2.2)])]) fun (y4 : (((Nat) × (List PV)) × (Int))) =>
      bindO (F 11 (RSh.one CK.list) [(PV.list y2.1 y2.2.1)]) fun (y5 : ((Nat) × (List PV))) =>
      bindO (F 19 (RSh.tup [(Prod.mk false [(CK.int IntKind.i64)]), (Prod.mk false [(CK.int IntKind.i64)])]) [(PV.list y5.1 y5.2)]) fun (y6 : ((Int) × (Int))) =>
      bindO (L1000069 (Tglidepathlaw02_LineApart_1000069a y2.1 y2.2.1 y2.2.2.1 y4.1.1 y4.1.2 y4.2 y6.1 y6.2 y2.2.2.2.1 y2.2.2.2.2)) fun z =>
      Sum.elim (fun y7 =>
        some false) (fun y8 =>
        bindO (L0 (Tglidepathlaw02_LineApart_0a y8.1 y8.2.1 y8.2.2.1 y8.2.2.2.1 y8.2.2.2.2.1 y8.2.2.2.2.2.1 (0 : Int) y8.2.2.2.2.2.2.1 y8.2.2.2.2.2.2.2)) fun z =>
        Sum.elim (fun y9 =>
          bindO (F 33 (RSh.one CK.bool) [(PV.list y9.2.2.2.1 y9.2.2.2.2.1), (PV.int IntKind.i64 y9.2.2.2.2.2.1)]) fun (y10 : (Bool)) =>
          bif y10 then
            bif (decide (((0 : Int) ≤ y9.2.2.2.2.2.1) ∧ (y9.2.2.2.2.2.1 < (y9.1 : Int)))) then
              bindO (intC IntKind.i64 (y9.2.1[((Int.toNat y9.2.2.2.2.2.1) * 1)]?)) fun x11 =>
              bif (decide (x11 ≥ y9.2.2.2.2.2.2.1)) then
                bindO (F 29 (RSh.one (CK.int IntKind.i64)) [(PV.agg [(PV.int IntKind.i64 (w64 (y9.2.2.2.2.2.2.1 + y9.2.2.1))), (PV.int IntKind.i64 y9.2.2.2.2.2.2.2)])]) fun (y12 : (Int)) =>
                bif (y12 != (0 : Int)) then
                  some true
                else bindO (F 11 (RSh.one CK.list) [(PV.list y9.1 y9.2.1)]) fun (y13 : ((Nat) × (List PV))) =>
                bindO (F 27 (RSh.tup [(Prod.mk false [CK.list]), (Prod.mk false [(CK.int IntKind.i64)])]) [(PV.list y13.1 y13.2), (PV.agg [(PV.int IntKind.i64 (w64 (y9.2.2.2.2.2.2.1 + y9.2.2.1))), (PV.int IntKind.i64 y9.2.2.2.2.2.2.2)])]) fun (y14 : (((Nat) × (List PV)) × (Int))) =>
                bif (y14.2 != (0 : Int)) then
                  some false
                else bindO (L2 (Tglidepathlaw02_LineApart_2a y9.1 y9.2.1 y9.2.2.2.1 y9.2.2.2.2.1 y14.1.1 y14.1.2 (0 : Int) (w64 (y9.2.2.2.2.2.2.1 + y9.2.2.1)) y9.2.2.2.2.2.2.2)) fun z =>
                Sum.elim (fun y15 =>
                  some true) (fun y16 =>
                  some false) z
              else some false
            else none
          else bif (decide (((0 : Int) ≤ y9.2.2.2.2.2.1) ∧ (y9.2.2.2.2.2.1 < (y9.1 : Int)))) then
            bindO (intC IntKind.i64 (y9.2.1[((Int.toNat y9.2.2.2.2.2.1) * 1)]?)) fun x17 =>
            bif (decide (x17 ≥ y9.2.2.2.2.2.2.1)) then
              some false
            else bindO (F 29 (RSh.one (CK.int IntKind.i64)) [(PV.agg [(PV.int IntKind.i64 (w64 (y9.2.2.2.2.2.2.1 + y9.2.2.1))), (PV.int IntKind.i64 y9.2.2.2.2.2.2.2)])]) fun (y18 : (Int)) =>
            bif (y18 != (0 : Int)) then
              some true
            else bindO (F 11 (RSh.one CK.list) [(PV.list y9.1 y9.2.1)]) fun (y19 : ((Nat) × (List PV))) =>
            bindO (F 27 (RSh.tup [(Prod.mk false [CK.list]), (Prod.mk false [(CK.int IntKind.i64)])]) [(PV.list y19.1 y19.2), (PV.agg [(PV.int IntKind.i64 (w64 (y9.2.2.2.2.2.2.1 + y9.2.2.1))), (PV.int IntKind.i64 y9.2.2.2.2.2.2.2)])]) fun (y20 : (((Nat) × (List PV)) × (Int))) =>
            bif (y20.2 != (0 : Int)) then
              some false
            else bindO (L2 (Tglidepathlaw02_LineApart_2a y9.1 y9.2.1 y9.2.2.2.1 y9.2.2.2.2.1 y20.1.1 y20.1.2 (0 : Int) (w64 (y9.2.2.2.2.2.2.1 + y9.2.2.1)) y9.2.2.2.2.2.2.2)) fun z =>
            Sum.elim (fun y21 =>
              some true) (fun y22 =>
              some false) z
          else none) (fun y23 =>
          some false) z) z) z
  else some false
theorem tglidepathlaw02_LineApart_eq (F : FnT) (L0 : Q → Option Yglidepathlaw02_LineApart_0) (L2 : Q → Option Yglidepathlaw02_LineApart_2) (L1000080 : Q → Option Yglidepathlaw02_LineApart_1000080) (L1000069 : Q → Option Yglidepathlaw02_LineApart_1000069) (L1000052 : Q → Option Yglidepathlaw02_LineApart_1000052) (L1000009 : Q → Option Yglidepathlaw02_LineApart_1000009) (p0n : Nat) (p0c : List PV) (p1_0 : Int) (p1_1 : Int) (p2 : Int) : semF (callP F Eglidepathlaw02_LineApart 20) s6 (loopT [⟨0, Yglidepathlaw02_LineApart_0, L0, XLglidepathlaw02_LineApart_0⟩, ⟨2, Yglidepathlaw02_LineApart_2, L2, XLglidepathlaw02_LineApart_2⟩, ⟨1000080, Yglidepathlaw02_LineApart_1000080, L1000080, XLglidepathlaw02_LineApart_1000080⟩, ⟨1000069, Yglidepathlaw02_LineApart_1000069, L1000069, XLglidepathlaw02_LineApart_1000069⟩, ⟨1000052, Yglidepathlaw02_LineApart_1000052, L1000052, XLglidepathlaw02_LineApart_1000052⟩, ⟨1000009, Yglidepathlaw02_LineApart_1000009, L1000009, XLglidepathlaw02_LineApart_1000009⟩]) 400 a6 [PV.list p0n p0c, PV.agg [PV.int IntKind.i64 p1_0, PV.int IntKind.i64 p1_1], PV.int IntKind.i64 p2] (fun rv => decR (RSh.one CK.bool) rv.pv) = tglidepathlaw02_LineApart F L0 L2 L1000080 L1000069 L1000052 L1000009 p0n p0c p1_0 p1_1 p2 := by kernel_rfl
noncomputable abbrev Fglidepathlaw02_LineApart (args : List PV) := Fn env 6 (RSh.one CK.bool) args
theorem Fglidepathlaw02_LineApart_of  (p0n : Nat) (p0c : List PV) (p1_0 : Int) (p1_1 : Int) (p2 : Int) {res : (Bool)} (h : tglidepathlaw02_LineApart (Fn env) Lglidepathlaw02_LineApart_0 Lglidepathlaw02_LineApart_2 Lglidepathlaw02_LineApart_1000080 Lglidepathlaw02_LineApart_1000069 Lglidepathlaw02_LineApart_1000052 Lglidepathlaw02_LineApart_1000009 p0n p0c p1_0 p1_1 p2 = some res) : Fglidepathlaw02_LineApart [PV.list p0n p0c, PV.agg [PV.int IntKind.i64 p1_0, PV.int IntKind.i64 p1_1], PV.int IntKind.i64 p2] = some res :=
  fn_of Eglidepathlaw02_LineApart_ok rfl rfl (lo_cons (lpO_ok Uglidepathlaw02_LineApart) (lo_cons (lpO_ok Uglidepathlaw02_LineApart) (lo_cons (lpO_ok Uglidepathlaw02_LineApart) (lo_cons (lpO_ok Uglidepathlaw02_LineApart) (lo_cons (lpO_ok Uglidepathlaw02_LineApart) (lo_cons (lpO_ok Uglidepathlaw02_LineApart) lo_nil)))))) ((tglidepathlaw02_LineApart_eq _ _ _ _ _ _ _ _ _ _ _ _).trans h)

end Gv
