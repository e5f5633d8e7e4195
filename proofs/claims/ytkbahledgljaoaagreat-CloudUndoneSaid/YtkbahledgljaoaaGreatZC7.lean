/- What the functions do, round by round: ZC7. -/
import Derived.Test.YtkbahledgljaoaaGreatZC6
namespace Gv
open Go
set_option maxRecDepth 100000

/-! ### cU -/

def EcU : List Entry := [.out 8 (RSh.one CK.bool), .out 9 (RSh.one CK.bool), .out 26 (RSh.one (CK.int IntKind.i64)), .out 17 (RSh.one (CK.int IntKind.i64)), .out 18 (RSh.one (CK.int IntKind.i64)), .out 31 (RSh.one CK.bool), .out 11 (RSh.one CK.list), .out 12 (RSh.tup [(Prod.mk false [CK.list]), (Prod.mk false [(CK.int IntKind.i64)])]), .out 23 (RSh.tup [(Prod.mk false [CK.list]), (Prod.mk false [(CK.int IntKind.i64)])]), .out 32 (RSh.one (CK.int IntKind.i64)), .out 33 (RSh.one (CK.int IntKind.i64)), .out 25 (RSh.one CK.list), .out 24 (RSh.tup [(Prod.mk false [CK.list]), (Prod.mk false [(CK.int IntKind.i64)])]), .out 34 (RSh.agg [(CK.int IntKind.i64), (CK.int IntKind.i64)])]
theorem EcU_ok : ∀ e ∈ EcU, EntOK env e := (ent_out (ent_out (ent_out (ent_out (ent_out (ent_out (ent_out (ent_out (ent_out (ent_out (ent_out (ent_out (ent_out (ent_out ent_nil))))))))))))))
def TcU_0a (n0 : Nat) (c1 : List PV) (i2 : Int) (n3 : Nat) (c4 : List PV) (n5 : Nat) (c6 : List PV) (n7 : Nat) (c8 : List PV) (i9 : Int) : Q := ⟨(tm 197 [(0, (AV.p (PV.list n0 c1))), (1, (AV.p (PV.int IntKind.i64 i2))), (7, (AV.p (PV.list n3 c4))), (9, (AV.p (PV.list n5 c6))), (11, (AV.p (PV.list n7 c8))), (13, (AV.p (PV.int IntKind.i64 i9)))]), (mm 197 [])⟩
def XcU_0a (y : Nat × List PV × Int × Nat × List PV) : Ext × Q := (Ext.normal, ⟨(tm 197 [(0, (AV.p (PV.list y.1 y.2.1))), (1, (AV.p (PV.int IntKind.i64 y.2.2.1))), (7, (AV.p (PV.list y.2.2.2.1 y.2.2.2.2)))]), (mm 197 [])⟩)
def IcU_0a (q : Ext × S) : Nat × List PV × Int × Nat × List PV := ((pP_list0 (pA_p (avT q.2 0))), (pP_list1 (pA_p (avT q.2 0))), (pP_int1 (pA_p (avT q.2 1))), (pP_list0 (pA_p (avT q.2 7))), (pP_list1 (pA_p (avT q.2 7))))
def XcU_0b (_y : Unit) : Ext × Q := (Ext.ret, ⟨(tm 197 [(6, (AV.p (PV.bool false)))]), (mm 197 [])⟩)
def IcU_0b (_q : Ext × S) : Unit := ()
abbrev YcU_0 : Type := (Nat × List PV × Int × Nat × List PV) ⊕ ((Unit))
def XLcU_0 : XL YcU_0 := .more XcU_0a (.one XcU_0b)
def IcU_0 (q : Ext × S) : YcU_0 := bif (cE q.1 == 0) then (Sum.inl (IcU_0a q)) else (Sum.inr (IcU_0b q))
theorem XIcU_0a (y : Nat × List PV × Int × Nat × List PV) : IcU_0 (xe (XcU_0a y)) = (Sum.inl y) := rfl
theorem XIcU_0b (y : Unit) : IcU_0 (xe (XcU_0b y)) = (Sum.inr y) := rfl
theorem XIcU_0 (y : YcU_0) : IcU_0 (xe (XLcU_0.fn y)) = y := (match y with | .inl y => XIcU_0a y | .inr y => XIcU_0b y)
noncomputable abbrev LcU_0 : Q → Option YcU_0 := lpO env a5.body 0 XLcU_0
noncomputable abbrev RcU_0 : Q → Option (Ext × S) := lpR env a5.body 0
theorem LcU_0a_of {s : Q} {y : Nat × List PV × Int × Nat × List PV} (h : RcU_0 s = exO (XcU_0a y)) : LcU_0 s = some (Sum.inl y) := lpO_of IcU_0 XIcU_0 (y := (Sum.inl y)) h
theorem LcU_0b_of {s : Q} {y : Unit} (h : RcU_0 s = exO (XcU_0b y)) : LcU_0 s = some (Sum.inr y) := lpO_of IcU_0 XIcU_0 (y := (Sum.inr y)) h
def TcU_2a (n0 : Nat) (c1 : List PV) (i2 : Int) (n3 : Nat) (c4 : List PV) (n5 : Nat) (c6 : List PV) (n7 : Nat) (c8 : List PV) (i9 : Int) (i10 : Int) : Q := ⟨(tm 197 [(0, (AV.p (PV.list n0 c1))), (1, (AV.p (PV.int IntKind.i64 i2))), (7, (AV.p (PV.list n3 c4))), (9, (AV.p (PV.list n5 c6))), (11, (AV.p (PV.list n7 c8))), (13, (AV.p (PV.int IntKind.i64 i9))), (14, (AV.p (PV.int IntKind.i64 i10)))]), (mm 197 [])⟩
def XcU_2a (_y : Unit) : Ext × Q := (Ext.ret, ⟨(tm 197 [(6, (AV.p (PV.bool false)))]), (mm 197 [])⟩)
def IcU_2a (_q : Ext × S) : Unit := ()
def XcU_2b (y : Nat × List PV × Int × Nat × List PV × Nat × List PV × Nat × List PV × Int) : Ext × Q := (Ext.normal, ⟨(tm 197 [(0, (AV.p (PV.list y.1 y.2.1))), (1, (AV.p (PV.int IntKind.i64 y.2.2.1))), (7, (AV.p (PV.list y.2.2.2.1 y.2.2.2.2.1))), (9, (AV.p (PV.list y.2.2.2.2.2.1 y.2.2.2.2.2.2.1))), (11, (AV.p (PV.list y.2.2.2.2.2.2.2.1 y.2.2.2.2.2.2.2.2.1))), (13, (AV.p (PV.int IntKind.i64 y.2.2.2.2.2.2.2.2.2)))]), (mm 197 [])⟩)
def IcU_2b (q : Ext × S) : Nat × List PV × Int × Nat × List PV × Nat × List PV × Nat × List PV × Int := ((pP_list0 (pA_p (avT q.2 0))), (pP_list1 (pA_p (avT q.2 0))), (pP_int1 (pA_p (avT q.2 1))), (pP_list0 (pA_p (avT q.2 7))), (pP_list1 (pA_p (avT q.2 7))), (pP_list0 (pA_p (avT q.2 9))), (pP_list1 (pA_p (avT q.2 9))), (pP_list0 (pA_p (avT q.2 11))), (pP_list1 (pA_p (avT q.2 11))), (pP_int1 (pA_p (avT q.2 13))))
abbrev YcU_2 : Type := (Unit) ⊕ ((Nat × List PV × Int × Nat × List PV × Nat × List PV × Nat × List PV × Int))
def XLcU_2 : XL YcU_2 := .more XcU_2a (.one XcU_2b)
def IcU_2 (q : Ext × S) : YcU_2 := bif (cE q.1 == 2) then (Sum.inl (IcU_2a q)) else (Sum.inr (IcU_2b q))
theorem XIcU_2a (y : Unit) : IcU_2 (xe (XcU_2a y)) = (Sum.inl y) := rfl
theorem XIcU_2b (y : Nat × List PV × Int × Nat × List PV × Nat × List PV × Nat × List PV × Int) : IcU_2 (xe (XcU_2b y)) = (Sum.inr y) := rfl
theorem XIcU_2 (y : YcU_2) : IcU_2 (xe (XLcU_2.fn y)) = y := (match y with | .inl y => XIcU_2a y | .inr y => XIcU_2b y)
noncomputable abbrev LcU_2 : Q → Option YcU_2 := lpO env a5.body 2 XLcU_2
noncomputable abbrev RcU_2 : Q → Option (Ext × S) := lpR env a5.body 2
theorem LcU_2a_of {s : Q} {y : Unit} (h : RcU_2 s = exO (XcU_2a y)) : LcU_2 s = some (Sum.inl y) := lpO_of IcU_2 XIcU_2 (y := (Sum.inl y)) h
theorem LcU_2b_of {s : Q} {y : Nat × List PV × Int × Nat × List PV × Nat × List PV × Nat × List PV × Int} (h : RcU_2 s = exO (XcU_2b y)) : LcU_2 s = some (Sum.inr y) := lpO_of IcU_2 XIcU_2 (y := (Sum.inr y)) h
def TcU_4a (n0 : Nat) (c1 : List PV) (n2 : Nat) (c3 : List PV) (i4 : Int) : Q := ⟨(tm 197 [(0, (AV.p (PV.list n0 c1))), (16, (AV.p (PV.list n2 c3))), (18, (AV.p (PV.int IntKind.i64 i4)))]), (mm 197 [])⟩
def XcU_4a (_y : Unit) : Ext × Q := (Ext.ret, ⟨(tm 197 [(6, (AV.p (PV.bool false)))]), (mm 197 [])⟩)
def IcU_4a (_q : Ext × S) : Unit := ()
def XcU_4b (_y : Unit) : Ext × Q := (Ext.normal, ⟨(tm 197 []), (mm 197 [])⟩)
def IcU_4b (_q : Ext × S) : Unit := ()
abbrev YcU_4 : Type := (Unit) ⊕ ((Unit))
def XLcU_4 : XL YcU_4 := .more XcU_4a (.one XcU_4b)
def IcU_4 (q : Ext × S) : YcU_4 := bif (cE q.1 == 2) then (Sum.inl (IcU_4a q)) else (Sum.inr (IcU_4b q))
theorem XIcU_4a (y : Unit) : IcU_4 (xe (XcU_4a y)) = (Sum.inl y) := rfl
theorem XIcU_4b (y : Unit) : IcU_4 (xe (XcU_4b y)) = (Sum.inr y) := rfl
theorem XIcU_4 (y : YcU_4) : IcU_4 (xe (XLcU_4.fn y)) = y := (match y with | .inl y => XIcU_4a y | .inr y => XIcU_4b y)
noncomputable abbrev LcU_4 : Q → Option YcU_4 := lpO env a5.body 4 XLcU_4
noncomputable abbrev RcU_4 : Q → Option (Ext × S) := lpR env a5.body 4
theorem LcU_4a_of {s : Q} {y : Unit} (h : RcU_4 s = exO (XcU_4a y)) : LcU_4 s = some (Sum.inl y) := lpO_of IcU_4 XIcU_4 (y := (Sum.inl y)) h
theorem LcU_4b_of {s : Q} {y : Unit} (h : RcU_4 s = exO (XcU_4b y)) : LcU_4 s = some (Sum.inr y) := lpO_of IcU_4 XIcU_4 (y := (Sum.inr y)) h
def TcU_1000079a (n0 : Nat) (c1 : List PV) (i2 : Int) (i3 : Int) : Q := ⟨(tm 197 [(0, (AV.p (PV.list n0 c1))), (1, (AV.p (PV.int IntKind.i64 i2))), (2, (AV.p (PV.int IntKind.i64 i3)))]), (mm 197 [])⟩
def XcU_1000079a (_y : Unit) : Ext × Q := (Ext.ret, ⟨(tm 197 [(6, (AV.p (PV.bool true)))]), (mm 197 [])⟩)
def IcU_1000079a (_q : Ext × S) : Unit := ()
def XcU_1000079b (y : Nat × List PV × Int × Int) : Ext × Q := (Ext.normal, ⟨(tm 197 [(0, (AV.p (PV.list y.1 y.2.1))), (1, (AV.p (PV.int IntKind.i64 y.2.2.1))), (2, (AV.p (PV.int IntKind.i64 y.2.2.2)))]), (mm 197 [])⟩)
def IcU_1000079b (q : Ext × S) : Nat × List PV × Int × Int := ((pP_list0 (pA_p (avT q.2 0))), (pP_list1 (pA_p (avT q.2 0))), (pP_int1 (pA_p (avT q.2 1))), (pP_int1 (pA_p (avT q.2 2))))
abbrev YcU_1000079 : Type := (Unit) ⊕ ((Nat × List PV × Int × Int))
def XLcU_1000079 : XL YcU_1000079 := .more XcU_1000079a (.one XcU_1000079b)
def IcU_1000079 (q : Ext × S) : YcU_1000079 := bif (cE q.1 == 2) then (Sum.inl (IcU_1000079a q)) else (Sum.inr (IcU_1000079b q))
theorem XIcU_1000079a (y : Unit) : IcU_1000079 (xe (XcU_1000079a y)) = (Sum.inl y) := rfl
theorem XIcU_1000079b (y : Nat × List PV × Int × Int) : IcU_1000079 (xe (XcU_1000079b y)) = (Sum.inr y) := rfl
theorem XIcU_1000079 (y : YcU_1000079) : IcU_1000079 (xe (XLcU_1000079.fn y)) = y := (match y with | .inl y => XIcU_1000079a y | .inr y => XIcU_1000079b y)
noncomputable abbrev LcU_1000079 : Q → Option YcU_1000079 := lpO env a5.body 1000079 XLcU_1000079
noncomputable abbrev RcU_1000079 : Q → Option (Ext × S) := lpR env a5.body 1000079
theorem LcU_1000079a_of {s : Q} {y : Unit} (h : RcU_1000079 s = exO (XcU_1000079a y)) : LcU_1000079 s = some (Sum.inl y) := lpO_of IcU_1000079 XIcU_1000079 (y := (Sum.inl y)) h
theorem LcU_1000079b_of {s : Q} {y : Nat × List PV × Int × Int} (h : RcU_1000079 s = exO (XcU_1000079b y)) : LcU_1000079 s = some (Sum.inr y) := lpO_of IcU_1000079 XIcU_1000079 (y := (Sum.inr y)) h
def TcU_1000066a (n0 : Nat) (c1 : List PV) (i2 : Int) (n3 : Nat) (c4 : List PV) (i5 : Int) (n6 : Nat) (c7 : List PV) (i8 : Int) (n9 : Nat) (c10 : List PV) (i11 : Int) : Q := ⟨(tm 197 [(0, (AV.p (PV.list n0 c1))), (1, (AV.p (PV.int IntKind.i64 i2))), (7, (AV.p (PV.list n3 c4))), (8, (AV.p (PV.int IntKind.i64 i5))), (9, (AV.p (PV.list n6 c7))), (10, (AV.p (PV.int IntKind.i64 i8))), (11, (AV.p (PV.list n9 c10))), (12, (AV.p (PV.int IntKind.i64 i11)))]), (mm 197 [])⟩
def XcU_1000066a (_y : Unit) : Ext × Q := (Ext.ret, ⟨(tm 197 [(6, (AV.p (PV.bool false)))]), (mm 197 [])⟩)
def IcU_1000066a (_q : Ext × S) : Unit := ()
def XcU_1000066b (y : Nat × List PV × Int × Nat × List PV × Nat × List PV × Nat × List PV) : Ext × Q := (Ext.normal, ⟨(tm 197 [(0, (AV.p (PV.list y.1 y.2.1))), (1, (AV.p (PV.int IntKind.i64 y.2.2.1))), (7, (AV.p (PV.list y.2.2.2.1 y.2.2.2.2.1))), (9, (AV.p (PV.list y.2.2.2.2.2.1 y.2.2.2.2.2.2.1))), (11, (AV.p (PV.list y.2.2.2.2.2.2.2.1 y.2.2.2.2.2.2.2.2)))]), (mm 197 [])⟩)
def IcU_1000066b (q : Ext × S) : Nat × List PV × Int × Nat × List PV × Nat × List PV × Nat × List PV := ((pP_list0 (pA_p (avT q.2 0))), (pP_list1 (pA_p (avT q.2 0))), (pP_int1 (pA_p (avT q.2 1))), (pP_list0 (pA_p (avT q.2 7))), (pP_list1 (pA_p (avT q.2 7))), (pP_list0 (pA_p (avT q.2 9))), (pP_list1 (pA_p (avT q.2 9))), (pP_list0 (pA_p (avT q.2 11))), (pP_list1 (pA_p (avT q.2 11))))
abbrev YcU_1000066 : Type := (Unit) ⊕ ((Nat × List PV × Int × Nat × List PV × Nat × List PV × Nat × List PV))
def XLcU_1000066 : XL YcU_1000066 := .more XcU_1000066a (.one XcU_1000066b)
def IcU_1000066 (q : Ext × S) : YcU_1000066 := bif (cE q.1 == 2) then (Sum.inl (IcU_1000066a q)) else (Sum.inr (IcU_1000066b q))
theorem XIcU_1000066a (y : Unit) : IcU_1000066 (xe (XcU_1000066a y)) = (Sum.inl y) := rfl
theorem XIcU_1000066b (y : Nat × List PV × Int × Nat × List PV × Nat × List PV × Nat × List PV) : IcU_1000066 (xe (XcU_1000066b y)) = (Sum.inr y) := rfl
theorem XIcU_1000066 (y : YcU_1000066) : IcU_1000066 (xe (XLcU_1000066.fn y)) = y := (match y with | .inl y => XIcU_1000066a y | .inr y => XIcU_1000066b y)
noncomputable abbrev LcU_1000066 : Q → Option YcU_1000066 := lpO env a5.body 1000066 XLcU_1000066
noncomputable abbrev RcU_1000066 : Q → Option (Ext × S) := lpR env a5.body 1000066
theorem LcU_1000066a_of {s : Q} {y : Unit} (h : RcU_1000066 s = exO (XcU_1000066a y)) : LcU_1000066 s = some (Sum.inl y) := lpO_of IcU_1000066 XIcU_1000066 (y := (Sum.inl y)) h
theorem LcU_1000066b_of {s : Q} {y : Nat × List PV × Int × Nat × List PV × Nat × List PV × Nat × List PV} (h : RcU_1000066 s = exO (XcU_1000066b y)) : LcU_1000066 s = some (Sum.inr y) := lpO_of IcU_1000066 XIcU_1000066 (y := (Sum.inr y)) h
def TcU_1000038a (n0 : Nat) (c1 : List PV) (i2 : Int) (n3 : Nat) (c4 : List PV) (n5 : Nat) (c6 : List PV) (n7 : Nat) (c8 : List PV) (i9 : Int) (i10 : Int) : Q := ⟨(tm 197 [(0, (AV.p (PV.list n0 c1))), (1, (AV.p (PV.int IntKind.i64 i2))), (7, (AV.p (PV.list n3 c4))), (9, (AV.p (PV.list n5 c6))), (11, (AV.p (PV.list n7 c8))), (13, (AV.p (PV.int IntKind.i64 i9))), (14, (AV.p (PV.int IntKind.i64 i10)))]), (mm 197 [])⟩
def XcU_1000038a (_y : Unit) : Ext × Q := (Ext.ret, ⟨(tm 197 [(6, (AV.p (PV.bool false)))]), (mm 197 [])⟩)
def IcU_1000038a (_q : Ext × S) : Unit := ()
def XcU_1000038b (y : Nat × List PV × Int × Nat × List PV × Nat × List PV × Nat × List PV × Int × Int) : Ext × Q := (Ext.normal, ⟨(tm 197 [(0, (AV.p (PV.list y.1 y.2.1))), (1, (AV.p (PV.int IntKind.i64 y.2.2.1))), (7, (AV.p (PV.list y.2.2.2.1 y.2.2.2.2.1))), (9, (AV.p (PV.list y.2.2.2.2.2.1 y.2.2.2.2.2.2.1))), (11, (AV.p (PV.list y.2.2.2.2.2.2.2.1 y.2.2.2.2.2.2.2.2.1))), (13, (AV.p (PV.int IntKind.i64 y.2.2.2.2.2.2.2.2.2.1))), (14, (AV.p (PV.int IntKind.i64 y.2.2.2.2.2.2.2.2.2.2)))]), (mm 197 [])⟩)
def IcU_1000038b (q : Ext × S) : Nat × List PV × Int × Nat × List PV × Nat × List PV × Nat × List PV × Int × Int := ((pP_list0 (pA_p (avT q.2 0))), (pP_list1 (pA_p (avT q.2 0))), (pP_int1 (pA_p (avT q.2 1))), (pP_list0 (pA_p (avT q.2 7))), (pP_list1 (pA_p (avT q.2 7))), (pP_list0 (pA_p (avT q.2 9))), (pP_list1 (pA_p (avT q.2 9))), (pP_list0 (pA_p (avT q.2 11))), (pP_list1 (pA_p (avT q.2 11))), (pP_int1 (pA_p (avT q.2 13))), (pP_int1 (pA_p (avT q.2 14))))
abbrev YcU_1000038 : Type := (Unit) ⊕ ((Nat × List PV × Int × Nat × List PV × Nat × List PV × Nat × List PV × Int × Int))
def XLcU_1000038 : XL YcU_1000038 := .more XcU_1000038a (.one XcU_1000038b)
def IcU_1000038 (q : Ext × S) : YcU_1000038 := bif (cE q.1 == 2) then (Sum.inl (IcU_1000038a q)) else (Sum.inr (IcU_1000038b q))
theorem XIcU_1000038a (y : Unit) : IcU_1000038 (xe (XcU_1000038a y)) = (Sum.inl y) := rfl
theorem XIcU_1000038b (y : Nat × List PV × Int × Nat × List PV × Nat × List PV × Nat × List PV × Int × Int) : IcU_1000038 (xe (XcU_1000038b y)) = (Sum.inr y) := rfl
theorem XIcU_1000038 (y : YcU_1000038) : IcU_1000038 (xe (XLcU_1000038.fn y)) = y := (match y with | .inl y => XIcU_1000038a y | .inr y => XIcU_1000038b y)
noncomputable abbrev LcU_1000038 : Q → Option YcU_1000038 := lpO env a5.body 1000038 XLcU_1000038
noncomputable abbrev RcU_1000038 : Q → Option (Ext × S) := lpR env a5.body 1000038
theorem LcU_1000038a_of {s : Q} {y : Unit} (h : RcU_1000038 s = exO (XcU_1000038a y)) : LcU_1000038 s = some (Sum.inl y) := lpO_of IcU_1000038 XIcU_1000038 (y := (Sum.inl y)) h
theorem LcU_1000038b_of {s : Q} {y : Nat × List PV × Int × Nat × List PV × Nat × List PV × Nat × List PV × Int × Int} (h : RcU_1000038 s = exO (XcU_1000038b y)) : LcU_1000038 s = some (Sum.inr y) := lpO_of IcU_1000038 XIcU_1000038 (y := (Sum.inr y)) h
def TcU_1000026a (n0 : Nat) (c1 : List PV) (n2 : Nat) (c3 : List PV) (i4 : Int) : Q := ⟨(tm 197 [(0, (AV.p (PV.list n0 c1))), (16, (AV.p (PV.list n2 c3))), (17, (AV.p (PV.int IntKind.i64 i4)))]), (mm 197 [])⟩
def XcU_1000026a (_y : Unit) : Ext × Q := (Ext.ret, ⟨(tm 197 [(6, (AV.p (PV.bool false)))]), (mm 197 [])⟩)
def IcU_1000026a (_q : Ext × S) : Unit := ()
def XcU_1000026b (y : Nat × List PV × Nat × List PV) : Ext × Q := (Ext.normal, ⟨(tm 197 [(0, (AV.p (PV.list y.1 y.2.1))), (16, (AV.p (PV.list y.2.2.1 y.2.2.2)))]), (mm 197 [])⟩)
def IcU_1000026b (q : Ext × S) : Nat × List PV × Nat × List PV := ((pP_list0 (pA_p (avT q.2 0))), (pP_list1 (pA_p (avT q.2 0))), (pP_list0 (pA_p (avT q.2 16))), (pP_list1 (pA_p (avT q.2 16))))
abbrev YcU_1000026 : Type := (Unit) ⊕ ((Nat × List PV × Nat × List PV))
def XLcU_1000026 : XL YcU_1000026 := .more XcU_1000026a (.one XcU_1000026b)
def IcU_1000026 (q : Ext × S) : YcU_1000026 := bif (cE q.1 == 2) then (Sum.inl (IcU_1000026a q)) else (Sum.inr (IcU_1000026b q))
theorem XIcU_1000026a (y : Unit) : IcU_1000026 (xe (XcU_1000026a y)) = (Sum.inl y) := rfl
theorem XIcU_1000026b (y : Nat × List PV × Nat × List PV) : IcU_1000026 (xe (XcU_1000026b y)) = (Sum.inr y) := rfl
theorem XIcU_1000026 (y : YcU_1000026) : IcU_1000026 (xe (XLcU_1000026.fn y)) = y := (match y with | .inl y => XIcU_1000026a y | .inr y => XIcU_1000026b y)
noncomputable abbrev LcU_1000026 : Q → Option YcU_1000026 := lpO env a5.body 1000026 XLcU_1000026
noncomputable abbrev RcU_1000026 : Q → Option (Ext × S) := lpR env a5.body 1000026
theorem LcU_1000026a_of {s : Q} {y : Unit} (h : RcU_1000026 s = exO (XcU_1000026a y)) : LcU_1000026 s = some (Sum.inl y) := lpO_of IcU_1000026 XIcU_1000026 (y := (Sum.inl y)) h
theorem LcU_1000026b_of {s : Q} {y : Nat × List PV × Nat × List PV} (h : RcU_1000026 s = exO (XcU_1000026b y)) : LcU_1000026 s = some (Sum.inr y) := lpO_of IcU_1000026 XIcU_1000026 (y := (Sum.inr y)) h
theorem UcU : uniq ((blocksOf a5.body).map (·.1)) = true := by kernel_rfl
def BcU_0a (_F : FnT) (N : Q → Option (Ext × S)) (E : Ext × Q → Option (Ext × S)) (_L0 : Q → Option YcU_0) (L2 : Q → Option YcU_2) (_L4 : Q → Option YcU_4) (_L1000079 : Q → Option YcU_1000079) (_L1000066 : Q → Option YcU_1000066) (_L1000038 : Q → Option YcU_1000038) (_L1000026 : Q → Option YcU_1000026) (n0 : Nat) (c1 : List PV) (i2 : Int) (n3 : Nat) (c4 : List PV) (n5 : Nat) (c6 : List PV) (n7 : Nat) (c8 : List PV) (i9 : Int) : Option (Ext × S) :=
  bif (decide (i9 < (n0 : Int))) then
    bindO (L2 (TcU_2a n0 c1 i2 n3 c4 n5 c6 n7 c8 i9 (0 : Int))) fun z =>
    Sum.elim (fun _y0 =>
      E (XcU_0b ())) (fun y1 =>
      N (TcU_0a y1.1 y1.2.1 y1.2.2.1 y1.2.2.2.1 y1.2.2.2.2.1 y1.2.2.2.2.2.1 y1.2.2.2.2.2.2.1 y1.2.2.2.2.2.2.2.1 y1.2.2.2.2.2.2.2.2.1 (w64 (y1.2.2.2.2.2.2.2.2.2 + (1 : Int))))) z
  else E (XcU_0a (n0, c1, i2, n3, c4))
theorem BcU_0a_eq (F : FnT) (N : Q → Option (Ext × S)) (E : Ext × Q → Option (Ext × S)) (L0 : Q → Option YcU_0) (L2 : Q → Option YcU_2) (L4 : Q → Option YcU_4) (L1000079 : Q → Option YcU_1000079) (L1000066 : Q → Option YcU_1000066) (L1000038 : Q → Option YcU_1000038) (L1000026 : Q → Option YcU_1000026) (n0 : Nat) (c1 : List PV) (i2 : Int) (n3 : Nat) (c4 : List PV) (n5 : Nat) (c6 : List PV) (n7 : Nat) (c8 : List PV) (i9 : Int) : semB (callP F EcU 20) s5 (loopT [⟨0, YcU_0, L0, XLcU_0⟩, ⟨2, YcU_2, L2, XLcU_2⟩, ⟨4, YcU_4, L4, XLcU_4⟩, ⟨1000079, YcU_1000079, L1000079, XLcU_1000079⟩, ⟨1000066, YcU_1000066, L1000066, XLcU_1000066⟩, ⟨1000038, YcU_1000038, L1000038, XLcU_1000038⟩, ⟨1000026, YcU_1000026, L1000026, XLcU_1000026⟩]) 400 (blkIn a5.body 0) N E (TcU_0a n0 c1 i2 n3 c4 n5 c6 n7 c8 i9) = BcU_0a F N E L0 L2 L4 L1000079 L1000066 L1000038 L1000026 n0 c1 i2 n3 c4 n5 c6 n7 c8 i9 := by kernel_rfl
theorem RcU_0a_of  (n0 : Nat) (c1 : List PV) (i2 : Int) (n3 : Nat) (c4 : List PV) (n5 : Nat) (c6 : List PV) (n7 : Nat) (c8 : List PV) (i9 : Int) {r : Ext × S} (h : BcU_0a (Fn env) RcU_0 exO LcU_0 LcU_2 LcU_4 LcU_1000079 LcU_1000066 LcU_1000038 LcU_1000026 n0 c1 i2 n3 c4 n5 c6 n7 c8 i9 = some r) : RcU_0 (TcU_0a n0 c1 i2 n3 c4 n5 c6 n7 c8 i9) = some r :=
  lp_of EcU_ok (by kernel_rfl) (lo_cons (lpO_ok UcU) (lo_cons (lpO_ok UcU) (lo_cons (lpO_ok UcU) (lo_cons (lpO_ok UcU) (lo_cons (lpO_ok UcU) (lo_cons (lpO_ok UcU) (lo_cons (lpO_ok UcU) lo_nil))))))) (by kernel_rfl) ((BcU_0a_eq _ _ _ _ _ _ _ _ _ _ _ _ _ _ _ _ _ _ _ _).trans h)
def BcU_2a (_F : FnT) (N : Q → Option (Ext × S)) (E : Ext × Q → Option (Ext × S)) (_L0 : Q → Option YcU_0) (_L2 : Q → Option YcU_2) (_L4 : Q → Option YcU_4) (_L1000079 : Q → Option YcU_1000079) (_L1000066 : Q → Option YcU_1000066) (L1000038 : Q → Option YcU_1000038) (_L1000026 : Q → Option YcU_1000026) (n0 : Nat) (c1 : List PV) (i2 : Int) (n3 : Nat) (c4 : List PV) (n5 : Nat) (c6 : List PV) (n7 : Nat) (c8 : List PV) (i9 : Int) (i10 : Int) : Option (Ext × S) :=
  bif (decide (i10 < (4 : Int))) then
    bindO (L1000038 (TcU_1000038a n0 c1 i2 n3 c4 n5 c6 n7 c8 i9 i10)) fun z =>
    Sum.elim (fun _y0 =>
      E (XcU_2a ())) (fun y1 =>
      N (TcU_2a y1.1 y1.2.1 y1.2.2.1 y1.2.2.2.1 y1.2.2.2.2.1 y1.2.2.2.2.2.1 y1.2.2.2.2.2.2.1 y1.2.2.2.2.2.2.2.1 y1.2.2.2.2.2.2.2.2.1 y1.2.2.2.2.2.2.2.2.2.1 (w64 (y1.2.2.2.2.2.2.2.2.2.2 + (1 : Int))))) z
  else E (XcU_2b (n0, c1, i2, n3, c4, n5, c6, n7, c8, i9))
theorem BcU_2a_eq (F : FnT) (N : Q → Option (Ext × S)) (E : Ext × Q → Option (Ext × S)) (L0 : Q → Option YcU_0) (L2 : Q → Option YcU_2) (L4 : Q → Option YcU_4) (L1000079 : Q → Option YcU_1000079) (L1000066 : Q → Option YcU_1000066) (L1000038 : Q → Option YcU_1000038) (L1000026 : Q → Option YcU_1000026) (n0 : Nat) (c1 : List PV) (i2 : Int) (n3 : Nat) (c4 : List PV) (n5 : Nat) (c6 : List PV) (n7 : Nat) (c8 : List PV) (i9 : Int) (i10 : Int) : semB (callP F EcU 20) s5 (loopT [⟨0, YcU_0, L0, XLcU_0⟩, ⟨2, YcU_2, L2, XLcU_2⟩, ⟨4, YcU_4, L4, XLcU_4⟩, ⟨1000079, YcU_1000079, L1000079, XLcU_1000079⟩, ⟨1000066, YcU_1000066, L1000066, XLcU_1000066⟩, ⟨1000038, YcU_1000038, L1000038, XLcU_1000038⟩, ⟨1000026, YcU_1000026, L1000026, XLcU_1000026⟩]) 400 (blkIn a5.body 2) N E (TcU_2a n0 c1 i2 n3 c4 n5 c6 n7 c8 i9 i10) = BcU_2a F N E L0 L2 L4 L1000079 L1000066 L1000038 L1000026 n0 c1 i2 n3 c4 n5 c6 n7 c8 i9 i10 := by kernel_rfl
theorem RcU_2a_of  (n0 : Nat) (c1 : List PV) (i2 : Int) (n3 : Nat) (c4 : List PV) (n5 : Nat) (c6 : List PV) (n7 : Nat) (c8 : List PV) (i9 : Int) (i10 : Int) {r : Ext × S} (h : BcU_2a (Fn env) RcU_2 exO LcU_0 LcU_2 LcU_4 LcU_1000079 LcU_1000066 LcU_1000038 LcU_1000026 n0 c1 i2 n3 c4 n5 c6 n7 c8 i9 i10 = some r) : RcU_2 (TcU_2a n0 c1 i2 n3 c4 n5 c6 n7 c8 i9 i10) = some r :=
  lp_of EcU_ok (by kernel_rfl) (lo_cons (lpO_ok UcU) (lo_cons (lpO_ok UcU) (lo_cons (lpO_ok UcU) (lo_cons (lpO_ok UcU) (lo_cons (lpO_ok UcU) (lo_cons (lpO_ok UcU) (lo_cons (lpO_ok UcU) lo_nil))))))) (by kernel_rfl) ((BcU_2a_eq _ _ _ _ _ _ _ _ _ _ _ _ _ _ _ _ _ _ _ _ _).trans h)
def BcU_4a (F : FnT) (N : Q → Option (Ext × S)) (E : Ext × Q → Option (Ext × S)) (_L0 : Q → Option YcU_0) (_L2 : Q → Option YcU_2) (_L4 : Q → Option YcU_4) (_L1000079 : Q → Option YcU_1000079) (_L1000066 : Q → Option YcU_1000066) (_L1000038 : Q → Option YcU_1000038) (_L1000026 : Q → Option YcU_1000026) (n0 : Nat) (c1 : List PV) (n2 : Nat) (c3 : List PV) (i4 : Int) : Option (Ext × S) :=
  bif (decide (i4 < (n0 : Int))) then
    bif (decide (((0 : Int) ≤ i4) ∧ (i4 < (n2 : Int)))) then
      bindO (intC IntKind.i64 (c3[((Int.toNat i4) * 2)]?)) fun x0 =>
      bindO (intC IntKind.i64 (c3[(((Int.toNat i4) * 2) + 1)]?)) fun x1 =>
      bif (decide (((0 : Int) ≤ i4) ∧ (i4 < (n0 : Int)))) then
        bindO (intC IntKind.i64 (c1[((Int.toNat i4) * 1)]?)) fun x2 =>
        bindO (F 34 (RSh.agg [(CK.int IntKind.i64), (CK.int IntKind.i64)]) [(PV.int IntKind.i64 x2)]) fun (y3 : ((Int) × (Int))) =>
        bif (!((x0 == y3.1) && ((x1 == y3.2) && true))) then
          E (XcU_4a ())
        else N (TcU_4a n0 c1 n2 c3 (w64 (i4 + (1 : Int))))
      else none
    else none
  else E (XcU_4b ())
theorem BcU_4a_eq (F : FnT) (N : Q → Option (Ext × S)) (E : Ext × Q → Option (Ext × S)) (L0 : Q → Option YcU_0) (L2 : Q → Option YcU_2) (L4 : Q → Option YcU_4) (L1000079 : Q → Option YcU_1000079) (L1000066 : Q → Option YcU_1000066) (L1000038 : Q → Option YcU_1000038) (L1000026 : Q → Option YcU_1000026) (n0 : Nat) (c1 : List PV) (n2 : Nat) (c3 : List PV) (i4 : Int) : semB (callP F EcU 20) s5 (loopT [⟨0, YcU_0, L0, XLcU_0⟩, ⟨2, YcU_2, L2, XLcU_2⟩, ⟨4, YcU_4, L4, XLcU_4⟩, ⟨1000079, YcU_1000079, L1000079, XLcU_1000079⟩, ⟨1000066, YcU_1000066, L1000066, XLcU_1000066⟩, ⟨1000038, YcU_1000038, L1000038, XLcU_1000038⟩, ⟨1000026, YcU_1000026, L1000026, XLcU_1000026⟩]) 400 (blkIn a5.body 4) N E (TcU_4a n0 c1 n2 c3 i4) = BcU_4a F N E L0 L2 L4 L1000079 L1000066 L1000038 L1000026 n0 c1 n2 c3 i4 := by kernel_rfl
theorem RcU_4a_of  (n0 : Nat) (c1 : List PV) (n2 : Nat) (c3 : List PV) (i4 : Int) {r : Ext × S} (h : BcU_4a (Fn env) RcU_4 exO LcU_0 LcU_2 LcU_4 LcU_1000079 LcU_1000066 LcU_1000038 LcU_1000026 n0 c1 n2 c3 i4 = some r) : RcU_4 (TcU_4a n0 c1 n2 c3 i4) = some r :=
  lp_of EcU_ok (by kernel_rfl) (lo_cons (lpO_ok UcU) (lo_cons (lpO_ok UcU) (lo_cons (lpO_ok UcU) (lo_cons (lpO_ok UcU) (lo_cons (lpO_ok UcU) (lo_cons (lpO_ok UcU) (lo_cons (lpO_ok UcU) lo_nil))))))) (by kernel_rfl) ((BcU_4a_eq _ _ _ _ _ _ _ _ _ _ _ _ _ _ _).trans h)
def BcU_1000079a (F : FnT) (_N : Q → Option (Ext × S)) (E : Ext × Q → Option (Ext × S)) (_L0 : Q → Option YcU_0) (_L2 : Q → Option YcU_2) (_L4 : Q → Option YcU_4) (_L1000079 : Q → Option YcU_1000079) (_L1000066 : Q → Option YcU_1000066) (_L1000038 : Q → Option YcU_1000038) (_L1000026 : Q → Option YcU_1000026) (n0 : Nat) (c1 : List PV) (i2 : Int) (i3 : Int) : Option (Ext × S) :=
  bindO (F 9 (RSh.one CK.bool) [(PV.list n0 c1)]) fun (y0 : (Bool)) =>
  bif y0 then
    bindO (F 26 (RSh.one (CK.int IntKind.i64)) [(PV.list n0 c1)]) fun (y1 : (Int)) =>
    bif (y1 != (0 : Int)) then
      E (XcU_1000079a ())
    else bindO (F 17 (RSh.one (CK.int IntKind.i64)) [(PV.int IntKind.i64 i2)]) fun (y2 : (Int)) =>
    bif (y2 != (0 : Int)) then
      E (XcU_1000079a ())
    else bindO (F 18 (RSh.one (CK.int IntKind.i64)) [(PV.list n0 c1), (PV.int IntKind.i64 i2)]) fun (y3 : (Int)) =>
    bif (y3 != (0 : Int)) then
      E (XcU_1000079a ())
    else bindO (F 31 (RSh.one CK.bool) [(PV.int IntKind.i64 i3), (PV.int IntKind.i64 (0 : Int)), (PV.int IntKind.i64 (1000 : Int))]) fun (y4 : (Bool)) =>
    bif y4 then
      bif (decide ((w64 (i2 + (w64 ((2 : Int) * i3)))) > (1000000 : Int))) then
        E (XcU_1000079a ())
      else E (XcU_1000079b (n0, c1, i2, i3))
    else E (XcU_1000079a ())
  else E (XcU_1000079a ())
theorem BcU_1000079a_eq (F : FnT) (N : Q → Option (Ext × S)) (E : Ext × Q → Option (Ext × S)) (L0 : Q → Option YcU_0) (L2 : Q → Option YcU_2) (L4 : Q → Option YcU_4) (L1000079 : Q → Option YcU_1000079) (L1000066 : Q → Option YcU_1000066) (L1000038 : Q → Option YcU_1000038) (L1000026 : Q → Option YcU_1000026) (n0 : Nat) (c1 : List PV) (i2 : Int) (i3 : Int) : semN (callP F EcU 20) s5 (loopT [⟨0, YcU_0, L0, XLcU_0⟩, ⟨2, YcU_2, L2, XLcU_2⟩, ⟨4, YcU_4, L4, XLcU_4⟩, ⟨1000079, YcU_1000079, L1000079, XLcU_1000079⟩, ⟨1000066, YcU_1000066, L1000066, XLcU_1000066⟩, ⟨1000038, YcU_1000038, L1000038, XLcU_1000038⟩, ⟨1000026, YcU_1000026, L1000026, XLcU_1000026⟩]) 400 (blkIn a5.body 1000079) E (TcU_1000079a n0 c1 i2 i3) = BcU_1000079a F N E L0 L2 L4 L1000079 L1000066 L1000038 L1000026 n0 c1 i2 i3 := by kernel_rfl
theorem RcU_1000079a_of  (n0 : Nat) (c1 : List PV) (i2 : Int) (i3 : Int) {r : Ext × S} (h : BcU_1000079a (Fn env) RcU_1000079 exO LcU_0 LcU_2 LcU_4 LcU_1000079 LcU_1000066 LcU_1000038 LcU_1000026 n0 c1 i2 i3 = some r) : RcU_1000079 (TcU_1000079a n0 c1 i2 i3) = some r :=
  nd_of EcU_ok (by kernel_rfl) (lo_cons (lpO_ok UcU) (lo_cons (lpO_ok UcU) (lo_cons (lpO_ok UcU) (lo_cons (lpO_ok UcU) (lo_cons (lpO_ok UcU) (lo_cons (lpO_ok UcU) (lo_cons (lpO_ok UcU) lo_nil))))))) (by kernel_rfl) ((BcU_1000079a_eq _ RcU_1000079 _ _ _ _ _ _ _ _ _ _ _ _).trans h)
def BcU_1000066a (_F : FnT) (_N : Q → Option (Ext × S)) (E : Ext × Q → Option (Ext × S)) (_L0 : Q → Option YcU_0) (_L2 : Q → Option YcU_2) (_L4 : Q → Option YcU_4) (_L1000079 : Q → Option YcU_1000079) (_L1000066 : Q → Option YcU_1000066) (_L1000038 : Q → Option YcU_1000038) (_L1000026 : Q → Option YcU_1000026) (n0 : Nat) (c1 : List PV) (i2 : Int) (n3 : Nat) (c4 : List PV) (i5 : Int) (n6 : Nat) (c7 : List PV) (i8 : Int) (n9 : Nat) (c10 : List PV) (i11 : Int) : Option (Ext × S) :=
  bif (i5 != (0 : Int)) then
    E (XcU_1000066a ())
  else bif (i8 != (0 : Int)) then
    E (XcU_1000066a ())
  else bif (i11 != (0 : Int)) then
    E (XcU_1000066a ())
  else bif ((n3 : Int) != (n0 : Int)) then
    E (XcU_1000066a ())
  else bif ((n6 : Int) != (n0 : Int)) then
    E (XcU_1000066a ())
  else bif ((n9 : Int) != (n0 : Int)) then
    E (XcU_1000066a ())
  else E (XcU_1000066b (n0, c1, i2, n3, c4, n6, c7, n9, c10))
theorem BcU_1000066a_eq (F : FnT) (N : Q → Option (Ext × S)) (E : Ext × Q → Option (Ext × S)) (L0 : Q → Option YcU_0) (L2 : Q → Option YcU_2) (L4 : Q → Option YcU_4) (L1000079 : Q → Option YcU_1000079) (L1000066 : Q → Option YcU_1000066) (L1000038 : Q → Option YcU_1000038) (L1000026 : Q → Option YcU_1000026) (n0 : Nat) (c1 : List PV) (i2 : Int) (n3 : Nat) (c4 : List PV) (i5 : Int) (n6 : Nat) (c7 : List PV) (i8 : Int) (n9 : Nat) (c10 : List PV) (i11 : Int) : semN (callP F EcU 20) s5 (loopT [⟨0, YcU_0, L0, XLcU_0⟩, ⟨2, YcU_2, L2, XLcU_2⟩, ⟨4, YcU_4, L4, XLcU_4⟩, ⟨1000079, YcU_1000079, L1000079, XLcU_1000079⟩, ⟨1000066, YcU_1000066, L1000066, XLcU_1000066⟩, ⟨1000038, YcU_1000038, L1000038, XLcU_1000038⟩, ⟨1000026, YcU_1000026, L1000026, XLcU_1000026⟩]) 400 (blkIn a5.body 1000066) E (TcU_1000066a n0 c1 i2 n3 c4 i5 n6 c7 i8 n9 c10 i11) = BcU_1000066a F N E L0 L2 L4 L1000079 L1000066 L1000038 L1000026 n0 c1 i2 n3 c4 i5 n6 c7 i8 n9 c10 i11 := by kernel_rfl
theorem RcU_1000066a_of  (n0 : Nat) (c1 : List PV) (i2 : Int) (n3 : Nat) (c4 : List PV) (i5 : Int) (n6 : Nat) (c7 : List PV) (i8 : Int) (n9 : Nat) (c10 : List PV) (i11 : Int) {r : Ext × S} (h : BcU_1000066a (Fn env) RcU_1000066 exO LcU_0 LcU_2 LcU_4 LcU_1000079 LcU_1000066 LcU_1000038 LcU_1000026 n0 c1 i2 n3 c4 i5 n6 c7 i8 n9 c10 i11 = some r) : RcU_1000066 (TcU_1000066a n0 c1 i2 n3 c4 i5 n6 c7 i8 n9 c10 i11) = some r :=
  nd_of EcU_ok (by kernel_rfl) (lo_cons (lpO_ok UcU) (lo_cons (lpO_ok UcU) (lo_cons (lpO_ok UcU) (lo_cons (lpO_ok UcU) (lo_cons (lpO_ok UcU) (lo_cons (lpO_ok UcU) (lo_cons (lpO_ok UcU) lo_nil))))))) (by kernel_rfl) ((BcU_1000066a_eq _ RcU_1000066 _ _ _ _ _ _ _ _ _ _ _ _ _ _ _ _ _ _ _ _).trans h)
def BcU_1000038a (F : FnT) (_N : Q → Option (Ext × S)) (E : Ext × Q → Option (Ext × S)) (_L0 : Q → Option YcU_0) (_L2 : Q → Option YcU_2) (_L4 : Q → Option YcU_4) (_L1000079 : Q → Option YcU_1000079) (_L1000066 : Q → Option YcU_1000066) (_L1000038 : Q → Option YcU_1000038) (_L1000026 : Q → Option YcU_1000026) (n0 : Nat) (c1 : List PV) (i2 : Int) (n3 : Nat) (c4 : List PV) (n5 : Nat) (c6 : List PV) (n7 : Nat) (c8 : List PV) (i9 : Int) (i10 : Int) : Option (Ext × S) :=
  bif (decide (((0 : Int) ≤ i9) ∧ (i9 < (n3 : Int)))) then
    bindO (intC IntKind.i64 (c4[((Int.toNat i9) * 2)]?)) fun x0 =>
    bindO (intC IntKind.i64 (c4[(((Int.toNat i9) * 2) + 1)]?)) fun x1 =>
    bif (decide (((0 : Int) ≤ i9) ∧ (i9 < (n5 : Int)))) then
      bindO (intC IntKind.i64 (c6[((Int.toNat i9) * 2)]?)) fun x2 =>
      bindO (intC IntKind.i64 (c6[(((Int.toNat i9) * 2) + 1)]?)) fun x3 =>
      bif (decide (((0 : Int) ≤ i9) ∧ (i9 < (n7 : Int)))) then
        bindO (intC IntKind.i64 (c8[(((Int.toNat i9) * 4) + 0)]?)) fun x4 =>
        bindO (intC IntKind.i64 (c8[((((Int.toNat i9) * 4) + 0) + 1)]?)) fun x5 =>
        bif (decide (((0 : Int) ≤ i9) ∧ (i9 < (n7 : Int)))) then
          bindO (intC IntKind.i64 (c8[(((Int.toNat i9) * 4) + 2)]?)) fun x6 =>
          bindO (intC IntKind.i64 (c8[((((Int.toNat i9) * 4) + 2) + 1)]?)) fun x7 =>
          bif (decide (((0 : Int) ≤ i10) ∧ (i10 < (4 : Int)))) then
            bindO (intC IntKind.i64 ([(PV.int IntKind.i64 x0), (PV.int IntKind.i64 x1), (PV.int IntKind.i64 x2), (PV.int IntKind.i64 x3), (PV.int IntKind.i64 x4), (PV.int IntKind.i64 x5), (PV.int IntKind.i64 x6), (PV.int IntKind.i64 x7)][((Int.toNat i10) * 2)]?)) fun x8 =>
            bindO (intC IntKind.i64 ([(PV.int IntKind.i64 x0), (PV.int IntKind.i64 x1), (PV.int IntKind.i64 x2), (PV.int IntKind.i64 x3), (PV.int IntKind.i64 x4), (PV.int IntKind.i64 x5), (PV.int IntKind.i64 x6), (PV.int IntKind.i64 x7)][(((Int.toNat i10) * 2) + 1)]?)) fun x9 =>
            bindO (F 32 (RSh.one (CK.int IntKind.i64)) [(PV.agg [(PV.int IntKind.i64 x8), (PV.int IntKind.i64 x9)])]) fun (y10 : (Int)) =>
            bif (y10 != (0 : Int)) then
              E (XcU_1000038a ())
            else bif (decide (((0 : Int) ≤ i9) ∧ (i9 < (n7 : Int)))) then
              bindO (intC IntKind.i64 (c8[(((Int.toNat i9) * 4) + 0)]?)) fun x11 =>
              bindO (intC IntKind.i64 (c8[((((Int.toNat i9) * 4) + 0) + 1)]?)) fun x12 =>
              bindO (F 33 (RSh.one (CK.int IntKind.i64)) [(PV.agg [(PV.int IntKind.i64 x11), (PV.int IntKind.i64 x12)]), (PV.agg [(PV.int IntKind.i64 x8), (PV.int IntKind.i64 x9)])]) fun (y13 : (Int)) =>
              bif (decide (y13 > (0 : Int))) then
                E (XcU_1000038a ())
              else bif (decide (((0 : Int) ≤ i9) ∧ (i9 < (n7 : Int)))) then
                bindO (intC IntKind.i64 (c8[(((Int.toNat i9) * 4) + 2)]?)) fun x14 =>
                bindO (intC IntKind.i64 (c8[((((Int.toNat i9) * 4) + 2) + 1)]?)) fun x15 =>
                bindO (F 33 (RSh.one (CK.int IntKind.i64)) [(PV.agg [(PV.int IntKind.i64 x8), (PV.int IntKind.i64 x9)]), (PV.agg [(PV.int IntKind.i64 x14), (PV.int IntKind.i64 x15)])]) fun (y16 : (Int)) =>
                bif (decide (y16 > (0 : Int))) then
                  E (XcU_1000038a ())
                else E (XcU_1000038b (n0, c1, i2, n3, c4, n5, c6, n7, c8, i9, i10))
              else none
            else none
          else none
        else none
      else none
    else none
  else none
theorem BcU_1000038a_eq (F : FnT) (N : Q → Option (Ext × S)) (E : Ext × Q → Option (Ext × S)) (L0 : Q → Option YcU_0) (L2 : Q → Option YcU_2) (L4 : Q → Option YcU_4) (L1000079 : Q → Option YcU_1000079) (L1000066 : Q → Option YcU_1000066) (L1000038 : Q → Option YcU_1000038) (L1000026 : Q → Option YcU_1000026) (n0 : Nat) (c1 : List PV) (i2 : Int) (n3 : Nat) (c4 : List PV) (n5 : Nat) (c6 : List PV) (n7 : Nat) (c8 : List PV) (i9 : Int) (i10 : Int) : semN (callP F EcU 20) s5 (loopT [⟨0, YcU_0, L0, XLcU_0⟩, ⟨2, YcU_2, L2, XLcU_2⟩, ⟨4, YcU_4, L4, XLcU_4⟩, ⟨1000079, YcU_1000079, L1000079, XLcU_1000079⟩, ⟨1000066, YcU_1000066, L1000066, XLcU_1000066⟩, ⟨1000038, YcU_1000038, L1000038, XLcU_1000038⟩, ⟨1000026, YcU_1000026, L1000026, XLcU_1000026⟩]) 400 (blkIn a5.body 1000038) E (TcU_1000038a n0 c1 i2 n3 c4 n5 c6 n7 c8 i9 i10) = BcU_1000038a F N E L0 L2 L4 L1000079 L1000066 L1000038 L1000026 n0 c1 i2 n3 c4 n5 c6 n7 c8 i9 i10 := by kernel_rfl
theorem RcU_1000038a_of  (n0 : Nat) (c1 : List PV) (i2 : Int) (n3 : Nat) (c4 : List PV) (n5 : Nat) (c6 : List PV) (n7 : Nat) (c8 : List PV) (i9 : Int) (i10 : Int) {r : Ext × S} (h : BcU_1000038a (Fn env) RcU_1000038 exO LcU_0 LcU_2 LcU_4 LcU_1000079 LcU_1000066 LcU_1000038 LcU_1000026 n0 c1 i2 n3 c4 n5 c6 n7 c8 i9 i10 = some r) : RcU_1000038 (TcU_1000038a n0 c1 i2 n3 c4 n5 c6 n7 c8 i9 i10) = some r :=
  nd_of EcU_ok (by kernel_rfl) (lo_cons (lpO_ok UcU) (lo_cons (lpO_ok UcU) (lo_cons (lpO_ok UcU) (lo_cons (lpO_ok UcU) (lo_cons (lpO_ok UcU) (lo_cons (lpO_ok UcU) (lo_cons (lpO_ok UcU) lo_nil))))))) (by kernel_rfl) ((BcU_1000038a_eq _ RcU_1000038 _ _ _ _ _ _ _ _ _ _ _ _ _ _ _ _ _ _ _).trans h)
def BcU_1000026a (_F : FnT) (_N : Q → Option (Ext × S)) (E : Ext × Q → Option (Ext × S)) (_L0 : Q → Option YcU_0) (_L2 : Q → Option YcU_2) (_L4 : Q → Option YcU_4) (_L1000079 : Q → Option YcU_1000079) (_L1000066 : Q → Option YcU_1000066) (_L1000038 : Q → Option YcU_1000038) (_L1000026 : Q → Option YcU_1000026) (n0 : Nat) (c1 : List PV) (n2 : Nat) (c3 : List PV) (i4 : Int) : Option (Ext × S) :=
  bif (i4 != (0 : Int)) then
    E (XcU_1000026a ())
  else bif ((n2 : Int) != (n0 : Int)) then
    E (XcU_1000026a ())
  else E (XcU_1000026b (n0, c1, n2, c3))
theorem BcU_1000026a_eq (F : FnT) (N : Q → Option (Ext × S)) (E : Ext × Q → Option (Ext × S)) (L0 : Q → Option YcU_0) (L2 : Q → Option YcU_2) (L4 : Q → Option YcU_4) (L1000079 : Q → Option YcU_1000079) (L1000066 : Q → Option YcU_1000066) (L1000038 : Q → Option YcU_1000038) (L1000026 : Q → Option YcU_1000026) (n0 : Nat) (c1 : List PV) (n2 : Nat) (c3 : List PV) (i4 : Int) : semN (callP F EcU 20) s5 (loopT [⟨0, YcU_0, L0, XLcU_0⟩, ⟨2, YcU_2, L2, XLcU_2⟩, ⟨4, YcU_4, L4, XLcU_4⟩, ⟨1000079, YcU_1000079, L1000079, XLcU_1000079⟩, ⟨1000066, YcU_1000066, L1000066, XLcU_1000066⟩, ⟨1000038, YcU_1000038, L1000038, XLcU_1000038⟩, ⟨1000026, YcU_1000026, L1000026, XLcU_1000026⟩]) 400 (blkIn a5.body 1000026) E (TcU_1000026a n0 c1 n2 c3 i4) = BcU_1000026a F N E L0 L2 L4 L1000079 L1000066 L1000038 L1000026 n0 c1 n2 c3 i4 := by kernel_rfl
theorem RcU_1000026a_of  (n0 : Nat) (c1 : List PV) (n2 : Nat) (c3 : List PV) (i4 : Int) {r : Ext × S} (h : BcU_1000026a (Fn env) RcU_1000026 exO LcU_0 LcU_2 LcU_4 LcU_1000079 LcU_1000066 LcU_1000038 LcU_1000026 n0 c1 n2 c3 i4 = some r) : RcU_1000026 (TcU_1000026a n0 c1 n2 c3 i4) = some r :=
  nd_of EcU_ok (by kernel_rfl) (lo_cons (lpO_ok UcU) (lo_cons (lpO_ok UcU) (lo_cons (lpO_ok UcU) (lo_cons (lpO_ok UcU) (lo_cons (lpO_ok UcU) (lo_cons (lpO_ok UcU) (lo_cons (lpO_ok UcU) lo_nil))))))) (by kernel_rfl) ((BcU_1000026a_eq _ RcU_1000026 _ _ _ _ _ _ _ _ _ _ _ _ _).trans h)
def tcU (F : FnT) (L0 : Q → Option YcU_0) (_L2 : Q → Option YcU_2) (L4 : Q → Option YcU_4) (L1000079 : Q → Option YcU_1000079) (L1000066 : Q → Option YcU_1000066) (_L1000038 : Q → Option YcU_1000038) (L1000026 : Q → Option YcU_1000026) (p0n : Nat) (p0c : List PV) (p1 : Int) (p2 : Int) : Option (Bool) :=
  bindO (F 8 (RSh.one CK.bool) []) fun (y0 : (Bool)) =>
  bif y0 then
    bindO (L1000079 (TcU_1000079a p0n p0c p1 p2)) fun z =>
    Sum.elim (fun _y1 =>
      some true) (fun y2 =>
      bindO (F 11 (RSh.one CK.list) [(PV.list y2.1 y2.2.1)]) fun (y3 : ((Nat) × (List PV))) =>
      bindO (F 12 (RSh.tup [(Prod.mk false [CK.list]), (Prod.mk false [(CK.int IntKind.i64)])]) [(PV.list y3.1 y3.2), (PV.int IntKind.i64 y2.2.2.1)]) fun (y4 : (((Nat) × (List PV)) × (Int))) =>
      bindO (F 11 (RSh.one CK.list) [(PV.list y2.1 y2.2.1)]) fun (y5 : ((Nat) × (List PV))) =>
      bindO (F 12 (RSh.tup [(Prod.mk false [CK.list]), (Prod.mk false [(CK.int IntKind.i64)])]) [(PV.list y5.1 y5.2), (PV.int IntKind.i64 (w64 (y2.2.2.1 + y2.2.2.2)))]) fun (y6 : (((Nat) × (List PV)) × (Int))) =>
      bindO (F 11 (RSh.one CK.list) [(PV.list y2.1 y2.2.1)]) fun (y7 : ((Nat) × (List PV))) =>
      bindO (F 23 (RSh.tup [(Prod.mk false [CK.list]), (Prod.mk false [(CK.int IntKind.i64)])]) [(PV.list y7.1 y7.2), (PV.agg [(PV.int IntKind.i64 y2.2.2.1), (PV.int IntKind.i64 (w64 (y2.2.2.1 + (w64 ((2 : Int) * y2.2.2.2)))))])]) fun (y8 : (((Nat) × (List PV)) × (Int))) =>
      bindO (L1000066 (TcU_1000066a y2.1 y2.2.1 y2.2.2.1 y4.1.1 y4.1.2 y4.2 y6.1.1 y6.1.2 y6.2 y8.1.1 y8.1.2 y8.2)) fun z =>
      Sum.elim (fun _y9 =>
        some false) (fun y10 =>
        bindO (L0 (TcU_0a y10.1 y10.2.1 y10.2.2.1 y10.2.2.2.1 y10.2.2.2.2.1 y10.2.2.2.2.2.1 y10.2.2.2.2.2.2.1 y10.2.2.2.2.2.2.2.1 y10.2.2.2.2.2.2.2.2 (0 : Int))) fun z =>
        Sum.elim (fun y11 =>
          bindO (F 25 (RSh.one CK.list) [(PV.list y11.2.2.2.1 y11.2.2.2.2)]) fun (y12 : ((Nat) × (List PV))) =>
          bindO (F 24 (RSh.tup [(Prod.mk false [CK.list]), (Prod.mk false [(CK.int IntKind.i64)])]) [(PV.list y12.1 y12.2), (PV.int IntKind.i64 y11.2.2.1)]) fun (y13 : (((Nat) × (List PV)) × (Int))) =>
          bindO (L1000026 (TcU_1000026a y11.1 y11.2.1 y13.1.1 y13.1.2 y13.2)) fun z =>
          Sum.elim (fun _y14 =>
            some false) (fun y15 =>
            bindO (L4 (TcU_4a y15.1 y15.2.1 y15.2.2.1 y15.2.2.2 (0 : Int))) fun z =>
            Sum.elim (fun _y16 =>
              some false) (fun _y17 =>
              some true) z) z) (fun _y18 =>
          some false) z) z) z
  else some false
theorem tcU_eq (F : FnT) (L0 : Q → Option YcU_0) (L2 : Q → Option YcU_2) (L4 : Q → Option YcU_4) (L1000079 : Q → Option YcU_1000079) (L1000066 : Q → Option YcU_1000066) (L1000038 : Q → Option YcU_1000038) (L1000026 : Q → Option YcU_1000026) (p0n : Nat) (p0c : List PV) (p1 : Int) (p2 : Int) : semF (callP F EcU 20) s5 (loopT [⟨0, YcU_0, L0, XLcU_0⟩, ⟨2, YcU_2, L2, XLcU_2⟩, ⟨4, YcU_4, L4, XLcU_4⟩, ⟨1000079, YcU_1000079, L1000079, XLcU_1000079⟩, ⟨1000066, YcU_1000066, L1000066, XLcU_1000066⟩, ⟨1000038, YcU_1000038, L1000038, XLcU_1000038⟩, ⟨1000026, YcU_1000026, L1000026, XLcU_1000026⟩]) 400 a5 [PV.list p0n p0c, PV.int IntKind.i64 p1, PV.int IntKind.i64 p2] (fun rv => decR (RSh.one CK.bool) rv.pv) = tcU F L0 L2 L4 L1000079 L1000066 L1000038 L1000026 p0n p0c p1 p2 := by kernel_rfl
noncomputable abbrev FcU (args : List PV) := Fn env 5 (RSh.one CK.bool) args
theorem FcU_of  (p0n : Nat) (p0c : List PV) (p1 : Int) (p2 : Int) {res : (Bool)} (h : tcU (Fn env) LcU_0 LcU_2 LcU_4 LcU_1000079 LcU_1000066 LcU_1000038 LcU_1000026 p0n p0c p1 p2 = some res) : FcU [PV.list p0n p0c, PV.int IntKind.i64 p1, PV.int IntKind.i64 p2] = some res :=
  fn_of EcU_ok rfl rfl (lo_cons (lpO_ok UcU) (lo_cons (lpO_ok UcU) (lo_cons (lpO_ok UcU) (lo_cons (lpO_ok UcU) (lo_cons (lpO_ok UcU) (lo_cons (lpO_ok UcU) (lo_cons (lpO_ok UcU) lo_nil))))))) ((tcU_eq _ _ _ _ _ _ _ _ _ _ _ _).trans h)

end Gv
