/- What the functions do, round by round: M10. -/
import Derived.Test.YtdbnojfklmfniaaM9
namespace Gv
open Go
set_option maxRecDepth 100000

/-! ### LwLineHard -/

def ELwLineHard : List Entry := [.out 9 (RSh.one CK.bool), .out 22 (RSh.one CK.bool), .out 44 (RSh.one CK.list), .out 43 (RSh.tup [(Prod.mk false [CK.list]), (Prod.mk false [(CK.int IntKind.i64)])]), .out 45 (RSh.one (CK.int IntKind.i64)), .out 46 (RSh.one CK.list), .out 31 (RSh.one CK.bool), .out 11 (RSh.one CK.bool), .out 47 (RSh.one CK.bool)]
theorem ELwLineHard_ok : ∀ e ∈ ELwLineHard, EntOK env e := (ent_out (ent_out (ent_out (ent_out (ent_out (ent_out (ent_out (ent_out (ent_out ent_nil)))))))))
def TLwLineHard_0a (n0 : Nat) (c1 : List PV) (i2 : Int) (i3 : Int) (i4 : Int) (i5 : Int) (i6 : Int) (i7 : Int) : Q := ⟨(tm 139 [(0, (AV.p (PV.list n0 c1))), (2, (AV.p (PV.int IntKind.i64 i2))), (4, (AV.loc 4 0)), (7, (AV.p (PV.int IntKind.i64 i3)))]), (mm 139 [(4, (Bk.pcs true [(PV.int IntKind.i64 i4), (PV.int IntKind.i64 i5), (PV.int IntKind.i64 i6), (PV.int IntKind.i64 i7)]))])⟩
def XLwLineHard_0a (_y : Unit) : Ext × Q := (Ext.ret, ⟨(tm 139 [(6, (AV.p (PV.bool true)))]), (mm 139 [])⟩)
def ILwLineHard_0a (_q : Ext × S) : Unit := ()
def XLwLineHard_0b (y : Nat × List PV × Int × Int × Int × Int × Int) : Ext × Q := (Ext.normal, ⟨(tm 139 [(0, (AV.p (PV.list y.1 y.2.1))), (2, (AV.p (PV.int IntKind.i64 y.2.2.1))), (4, (AV.loc 4 0))]), (mm 139 [(4, (Bk.pcs true [(PV.int IntKind.i64 y.2.2.2.1), (PV.int IntKind.i64 y.2.2.2.2.1), (PV.int IntKind.i64 y.2.2.2.2.2.1), (PV.int IntKind.i64 y.2.2.2.2.2.2)]))])⟩)
def ILwLineHard_0b (q : Ext × S) : Nat × List PV × Int × Int × Int × Int × Int := ((pP_list0 (pA_p (avT q.2 0))), (pP_list1 (pA_p (avT q.2 0))), (pP_int1 (pA_p (avT q.2 2))), (pP_int1 (hdP (pB_pcs1 (avM q.2 4)))), (pP_int1 (hdP (List.tail (pB_pcs1 (avM q.2 4))))), (pP_int1 (hdP (List.tail (List.tail (pB_pcs1 (avM q.2 4)))))), (pP_int1 (hdP (List.tail (List.tail (List.tail (pB_pcs1 (avM q.2 4))))))))
abbrev YLwLineHard_0 : Type := (Unit) ⊕ ((Nat × List PV × Int × Int × Int × Int × Int))
def XLLwLineHard_0 : XL YLwLineHard_0 := .more XLwLineHard_0a (.one XLwLineHard_0b)
def ILwLineHard_0 (q : Ext × S) : YLwLineHard_0 := bif (cE q.1 == 2) then (Sum.inl (ILwLineHard_0a q)) else (Sum.inr (ILwLineHard_0b q))
theorem XILwLineHard_0a (y : Unit) : ILwLineHard_0 (xe (XLwLineHard_0a y)) = (Sum.inl y) := rfl
theorem XILwLineHard_0b (y : Nat × List PV × Int × Int × Int × Int × Int) : ILwLineHard_0 (xe (XLwLineHard_0b y)) = (Sum.inr y) := rfl
theorem XILwLineHard_0 (y : YLwLineHard_0) : ILwLineHard_0 (xe (XLLwLineHard_0.fn y)) = y := (match y with | .inl y => XILwLineHard_0a y | .inr y => XILwLineHard_0b y)
noncomputable abbrev LLwLineHard_0 : Q → Option YLwLineHard_0 := lpO env a8.body 0 XLLwLineHard_0
noncomputable abbrev RLwLineHard_0 : Q → Option (Ext × S) := lpR env a8.body 0
theorem LLwLineHard_0a_of {s : Q} {y : Unit} (h : RLwLineHard_0 s = exO (XLwLineHard_0a y)) : LLwLineHard_0 s = some (Sum.inl y) := lpO_of ILwLineHard_0 XILwLineHard_0 (y := (Sum.inl y)) h
theorem LLwLineHard_0b_of {s : Q} {y : Nat × List PV × Int × Int × Int × Int × Int} (h : RLwLineHard_0 s = exO (XLwLineHard_0b y)) : LLwLineHard_0 s = some (Sum.inr y) := lpO_of ILwLineHard_0 XILwLineHard_0 (y := (Sum.inr y)) h
def TLwLineHard_2a (n0 : Nat) (c1 : List PV) (n2 : Nat) (c3 : List PV) (i4 : Int) : Q := ⟨(tm 139 [(8, (AV.p (PV.list n0 c1))), (15, (AV.p (PV.list n2 c3))), (17, (AV.p (PV.int IntKind.i64 i4)))]), (mm 139 [])⟩
def XLwLineHard_2a (_y : Unit) : Ext × Q := (Ext.ret, ⟨(tm 139 [(6, (AV.p (PV.bool false)))]), (mm 139 [])⟩)
def ILwLineHard_2a (_q : Ext × S) : Unit := ()
def XLwLineHard_2b (_y : Unit) : Ext × Q := (Ext.normal, ⟨(tm 139 []), (mm 139 [])⟩)
def ILwLineHard_2b (_q : Ext × S) : Unit := ()
abbrev YLwLineHard_2 : Type := (Unit) ⊕ ((Unit))
def XLLwLineHard_2 : XL YLwLineHard_2 := .more XLwLineHard_2a (.one XLwLineHard_2b)
def ILwLineHard_2 (q : Ext × S) : YLwLineHard_2 := bif (cE q.1 == 2) then (Sum.inl (ILwLineHard_2a q)) else (Sum.inr (ILwLineHard_2b q))
theorem XILwLineHard_2a (y : Unit) : ILwLineHard_2 (xe (XLwLineHard_2a y)) = (Sum.inl y) := rfl
theorem XILwLineHard_2b (y : Unit) : ILwLineHard_2 (xe (XLwLineHard_2b y)) = (Sum.inr y) := rfl
theorem XILwLineHard_2 (y : YLwLineHard_2) : ILwLineHard_2 (xe (XLLwLineHard_2.fn y)) = y := (match y with | .inl y => XILwLineHard_2a y | .inr y => XILwLineHard_2b y)
noncomputable abbrev LLwLineHard_2 : Q → Option YLwLineHard_2 := lpO env a8.body 2 XLLwLineHard_2
noncomputable abbrev RLwLineHard_2 : Q → Option (Ext × S) := lpR env a8.body 2
theorem LLwLineHard_2a_of {s : Q} {y : Unit} (h : RLwLineHard_2 s = exO (XLwLineHard_2a y)) : LLwLineHard_2 s = some (Sum.inl y) := lpO_of ILwLineHard_2 XILwLineHard_2 (y := (Sum.inl y)) h
theorem LLwLineHard_2b_of {s : Q} {y : Unit} (h : RLwLineHard_2 s = exO (XLwLineHard_2b y)) : LLwLineHard_2 s = some (Sum.inr y) := lpO_of ILwLineHard_2 XILwLineHard_2 (y := (Sum.inr y)) h
def TLwLineHard_1000059a (n0 : Nat) (c1 : List PV) (i2 : Int) (n3 : Nat) (c4 : List PV) (i5 : Int) (i6 : Int) (i7 : Int) (i8 : Int) (i9 : Int) : Q := ⟨(tm 139 [(0, (AV.p (PV.list n0 c1))), (2, (AV.p (PV.int IntKind.i64 i2))), (4, (AV.loc 4 0)), (8, (AV.p (PV.list n3 c4))), (9, (AV.p (PV.int IntKind.i64 i5)))]), (mm 139 [(4, (Bk.pcs true [(PV.int IntKind.i64 i6), (PV.int IntKind.i64 i7), (PV.int IntKind.i64 i8), (PV.int IntKind.i64 i9)]))])⟩
def XLwLineHard_1000059a (_y : Unit) : Ext × Q := (Ext.ret, ⟨(tm 139 [(6, (AV.p (PV.bool false)))]), (mm 139 [])⟩)
def ILwLineHard_1000059a (_q : Ext × S) : Unit := ()
def XLwLineHard_1000059b (y : Nat × List PV × Int × Nat × List PV × Int × Int × Int × Int) : Ext × Q := (Ext.normal, ⟨(tm 139 [(0, (AV.p (PV.list y.1 y.2.1))), (2, (AV.p (PV.int IntKind.i64 y.2.2.1))), (4, (AV.loc 4 0)), (8, (AV.p (PV.list y.2.2.2.1 y.2.2.2.2.1)))]), (mm 139 [(4, (Bk.pcs true [(PV.int IntKind.i64 y.2.2.2.2.2.1), (PV.int IntKind.i64 y.2.2.2.2.2.2.1), (PV.int IntKind.i64 y.2.2.2.2.2.2.2.1), (PV.int IntKind.i64 y.2.2.2.2.2.2.2.2)]))])⟩)
def ILwLineHard_1000059b (q : Ext × S) : Nat × List PV × Int × Nat × List PV × Int × Int × Int × Int := ((pP_list0 (pA_p (avT q.2 0))), (pP_list1 (pA_p (avT q.2 0))), (pP_int1 (pA_p (avT q.2 2))), (pP_list0 (pA_p (avT q.2 8))), (pP_list1 (pA_p (avT q.2 8))), (pP_int1 (hdP (pB_pcs1 (avM q.2 4)))), (pP_int1 (hdP (List.tail (pB_pcs1 (avM q.2 4))))), (pP_int1 (hdP (List.tail (List.tail (pB_pcs1 (avM q.2 4)))))), (pP_int1 (hdP (List.tail (List.tail (List.tail (pB_pcs1 (avM q.2 4))))))))
abbrev YLwLineHard_1000059 : Type := (Unit) ⊕ ((Nat × List PV × Int × Nat × List PV × Int × Int × Int × Int))
def XLLwLineHard_1000059 : XL YLwLineHard_1000059 := .more XLwLineHard_1000059a (.one XLwLineHard_1000059b)
def ILwLineHard_1000059 (q : Ext × S) : YLwLineHard_1000059 := bif (cE q.1 == 2) then (Sum.inl (ILwLineHard_1000059a q)) else (Sum.inr (ILwLineHard_1000059b q))
theorem XILwLineHard_1000059a (y : Unit) : ILwLineHard_1000059 (xe (XLwLineHard_1000059a y)) = (Sum.inl y) := rfl
theorem XILwLineHard_1000059b (y : Nat × List PV × Int × Nat × List PV × Int × Int × Int × Int) : ILwLineHard_1000059 (xe (XLwLineHard_1000059b y)) = (Sum.inr y) := rfl
theorem XILwLineHard_1000059 (y : YLwLineHard_1000059) : ILwLineHard_1000059 (xe (XLLwLineHard_1000059.fn y)) = y := (match y with | .inl y => XILwLineHard_1000059a y | .inr y => XILwLineHard_1000059b y)
noncomputable abbrev LLwLineHard_1000059 : Q → Option YLwLineHard_1000059 := lpO env a8.body 1000059 XLLwLineHard_1000059
noncomputable abbrev RLwLineHard_1000059 : Q → Option (Ext × S) := lpR env a8.body 1000059
theorem LLwLineHard_1000059a_of {s : Q} {y : Unit} (h : RLwLineHard_1000059 s = exO (XLwLineHard_1000059a y)) : LLwLineHard_1000059 s = some (Sum.inl y) := lpO_of ILwLineHard_1000059 XILwLineHard_1000059 (y := (Sum.inl y)) h
theorem LLwLineHard_1000059b_of {s : Q} {y : Nat × List PV × Int × Nat × List PV × Int × Int × Int × Int} (h : RLwLineHard_1000059 s = exO (XLwLineHard_1000059b y)) : LLwLineHard_1000059 s = some (Sum.inr y) := lpO_of ILwLineHard_1000059 XILwLineHard_1000059 (y := (Sum.inr y)) h
def TLwLineHard_1000046a (n0 : Nat) (c1 : List PV) (i2 : Int) (n3 : Nat) (c4 : List PV) (n5 : Nat) (c6 : List PV) (i7 : Int) (i8 : Int) (i9 : Int) (i10 : Int) (i11 : Int) : Q := ⟨(tm 139 [(0, (AV.p (PV.list n0 c1))), (2, (AV.p (PV.int IntKind.i64 i2))), (4, (AV.loc 4 0)), (8, (AV.p (PV.list n3 c4))), (12, (AV.p (PV.list n5 c6))), (13, (AV.p (PV.int IntKind.i64 i7)))]), (mm 139 [(4, (Bk.pcs true [(PV.int IntKind.i64 i8), (PV.int IntKind.i64 i9), (PV.int IntKind.i64 i10), (PV.int IntKind.i64 i11)]))])⟩
def XLwLineHard_1000046a (_y : Unit) : Ext × Q := (Ext.ret, ⟨(tm 139 [(6, (AV.p (PV.bool false)))]), (mm 139 [])⟩)
def ILwLineHard_1000046a (_q : Ext × S) : Unit := ()
def XLwLineHard_1000046b (y : Nat × List PV × Int × Nat × List PV × Int × Int × Int × Int) : Ext × Q := (Ext.normal, ⟨(tm 139 [(0, (AV.p (PV.list y.1 y.2.1))), (2, (AV.p (PV.int IntKind.i64 y.2.2.1))), (4, (AV.loc 4 0)), (8, (AV.p (PV.list y.2.2.2.1 y.2.2.2.2.1)))]), (mm 139 [(4, (Bk.pcs true [(PV.int IntKind.i64 y.2.2.2.2.2.1), (PV.int IntKind.i64 y.2.2.2.2.2.2.1), (PV.int IntKind.i64 y.2.2.2.2.2.2.2.1), (PV.int IntKind.i64 y.2.2.2.2.2.2.2.2)]))])⟩)
def ILwLineHard_1000046b (q : Ext × S) : Nat × List PV × Int × Nat × List PV × Int × Int × Int × Int := ((pP_list0 (pA_p (avT q.2 0))), (pP_list1 (pA_p (avT q.2 0))), (pP_int1 (pA_p (avT q.2 2))), (pP_list0 (pA_p (avT q.2 8))), (pP_list1 (pA_p (avT q.2 8))), (pP_int1 (hdP (pB_pcs1 (avM q.2 4)))), (pP_int1 (hdP (List.tail (pB_pcs1 (avM q.2 4))))), (pP_int1 (hdP (List.tail (List.tail (pB_pcs1 (avM q.2 4)))))), (pP_int1 (hdP (List.tail (List.tail (List.tail (pB_pcs1 (avM q.2 4))))))))
abbrev YLwLineHard_1000046 : Type := (Unit) ⊕ ((Nat × List PV × Int × Nat × List PV × Int × Int × Int × Int))
def XLLwLineHard_1000046 : XL YLwLineHard_1000046 := .more XLwLineHard_1000046a (.one XLwLineHard_1000046b)
def ILwLineHard_1000046 (q : Ext × S) : YLwLineHard_1000046 := bif (cE q.1 == 2) then (Sum.inl (ILwLineHard_1000046a q)) else (Sum.inr (ILwLineHard_1000046b q))
theorem XILwLineHard_1000046a (y : Unit) : ILwLineHard_1000046 (xe (XLwLineHard_1000046a y)) = (Sum.inl y) := rfl
theorem XILwLineHard_1000046b (y : Nat × List PV × Int × Nat × List PV × Int × Int × Int × Int) : ILwLineHard_1000046 (xe (XLwLineHard_1000046b y)) = (Sum.inr y) := rfl
theorem XILwLineHard_1000046 (y : YLwLineHard_1000046) : ILwLineHard_1000046 (xe (XLLwLineHard_1000046.fn y)) = y := (match y with | .inl y => XILwLineHard_1000046a y | .inr y => XILwLineHard_1000046b y)
noncomputable abbrev LLwLineHard_1000046 : Q → Option YLwLineHard_1000046 := lpO env a8.body 1000046 XLLwLineHard_1000046
noncomputable abbrev RLwLineHard_1000046 : Q → Option (Ext × S) := lpR env a8.body 1000046
theorem LLwLineHard_1000046a_of {s : Q} {y : Unit} (h : RLwLineHard_1000046 s = exO (XLwLineHard_1000046a y)) : LLwLineHard_1000046 s = some (Sum.inl y) := lpO_of ILwLineHard_1000046 XILwLineHard_1000046 (y := (Sum.inl y)) h
theorem LLwLineHard_1000046b_of {s : Q} {y : Nat × List PV × Int × Nat × List PV × Int × Int × Int × Int} (h : RLwLineHard_1000046 s = exO (XLwLineHard_1000046b y)) : LLwLineHard_1000046 s = some (Sum.inr y) := lpO_of ILwLineHard_1000046 XILwLineHard_1000046 (y := (Sum.inr y)) h
def TLwLineHard_1000039a (n0 : Nat) (c1 : List PV) (i2 : Int) (n3 : Nat) (c4 : List PV) (i5 : Int) (i6 : Int) (i7 : Int) (i8 : Int) : Q := ⟨(tm 139 [(0, (AV.p (PV.list n0 c1))), (2, (AV.p (PV.int IntKind.i64 i2))), (4, (AV.loc 4 0)), (8, (AV.p (PV.list n3 c4)))]), (mm 139 [(4, (Bk.pcs true [(PV.int IntKind.i64 i5), (PV.int IntKind.i64 i6), (PV.int IntKind.i64 i7), (PV.int IntKind.i64 i8)]))])⟩
def XLwLineHard_1000039a (_y : Unit) : Ext × Q := (Ext.ret, ⟨(tm 139 [(6, (AV.p (PV.bool true)))]), (mm 139 [])⟩)
def ILwLineHard_1000039a (_q : Ext × S) : Unit := ()
def XLwLineHard_1000039b (y : Nat × List PV × Int × Nat × List PV × Int × Int × Int × Int) : Ext × Q := (Ext.normal, ⟨(tm 139 [(0, (AV.p (PV.list y.1 y.2.1))), (2, (AV.p (PV.int IntKind.i64 y.2.2.1))), (4, (AV.loc 4 0)), (8, (AV.p (PV.list y.2.2.2.1 y.2.2.2.2.1)))]), (mm 139 [(4, (Bk.pcs true [(PV.int IntKind.i64 y.2.2.2.2.2.1), (PV.int IntKind.i64 y.2.2.2.2.2.2.1), (PV.int IntKind.i64 y.2.2.2.2.2.2.2.1), (PV.int IntKind.i64 y.2.2.2.2.2.2.2.2)]))])⟩)
def ILwLineHard_1000039b (q : Ext × S) : Nat × List PV × Int × Nat × List PV × Int × Int × Int × Int := ((pP_list0 (pA_p (avT q.2 0))), (pP_list1 (pA_p (avT q.2 0))), (pP_int1 (pA_p (avT q.2 2))), (pP_list0 (pA_p (avT q.2 8))), (pP_list1 (pA_p (avT q.2 8))), (pP_int1 (hdP (pB_pcs1 (avM q.2 4)))), (pP_int1 (hdP (List.tail (pB_pcs1 (avM q.2 4))))), (pP_int1 (hdP (List.tail (List.tail (pB_pcs1 (avM q.2 4)))))), (pP_int1 (hdP (List.tail (List.tail (List.tail (pB_pcs1 (avM q.2 4))))))))
abbrev YLwLineHard_1000039 : Type := (Unit) ⊕ ((Nat × List PV × Int × Nat × List PV × Int × Int × Int × Int))
def XLLwLineHard_1000039 : XL YLwLineHard_1000039 := .more XLwLineHard_1000039a (.one XLwLineHard_1000039b)
def ILwLineHard_1000039 (q : Ext × S) : YLwLineHard_1000039 := bif (cE q.1 == 2) then (Sum.inl (ILwLineHard_1000039a q)) else (Sum.inr (ILwLineHard_1000039b q))
theorem XILwLineHard_1000039a (y : Unit) : ILwLineHard_1000039 (xe (XLwLineHard_1000039a y)) = (Sum.inl y) := rfl
theorem XILwLineHard_1000039b (y : Nat × List PV × Int × Nat × List PV × Int × Int × Int × Int) : ILwLineHard_1000039 (xe (XLwLineHard_1000039b y)) = (Sum.inr y) := rfl
theorem XILwLineHard_1000039 (y : YLwLineHard_1000039) : ILwLineHard_1000039 (xe (XLLwLineHard_1000039.fn y)) = y := (match y with | .inl y => XILwLineHard_1000039a y | .inr y => XILwLineHard_1000039b y)
noncomputable abbrev LLwLineHard_1000039 : Q → Option YLwLineHard_1000039 := lpO env a8.body 1000039 XLLwLineHard_1000039
noncomputable abbrev RLwLineHard_1000039 : Q → Option (Ext × S) := lpR env a8.body 1000039
theorem LLwLineHard_1000039a_of {s : Q} {y : Unit} (h : RLwLineHard_1000039 s = exO (XLwLineHard_1000039a y)) : LLwLineHard_1000039 s = some (Sum.inl y) := lpO_of ILwLineHard_1000039 XILwLineHard_1000039 (y := (Sum.inl y)) h
theorem LLwLineHard_1000039b_of {s : Q} {y : Nat × List PV × Int × Nat × List PV × Int × Int × Int × Int} (h : RLwLineHard_1000039 s = exO (XLwLineHard_1000039b y)) : LLwLineHard_1000039 s = some (Sum.inr y) := lpO_of ILwLineHard_1000039 XILwLineHard_1000039 (y := (Sum.inr y)) h
def TLwLineHard_1000026a (n0 : Nat) (c1 : List PV) (n2 : Nat) (c3 : List PV) (i4 : Int) : Q := ⟨(tm 139 [(8, (AV.p (PV.list n0 c1))), (15, (AV.p (PV.list n2 c3))), (16, (AV.p (PV.int IntKind.i64 i4)))]), (mm 139 [])⟩
def XLwLineHard_1000026a (_y : Unit) : Ext × Q := (Ext.ret, ⟨(tm 139 [(6, (AV.p (PV.bool false)))]), (mm 139 [])⟩)
def ILwLineHard_1000026a (_q : Ext × S) : Unit := ()
def XLwLineHard_1000026b (y : Nat × List PV × Nat × List PV) : Ext × Q := (Ext.normal, ⟨(tm 139 [(8, (AV.p (PV.list y.1 y.2.1))), (15, (AV.p (PV.list y.2.2.1 y.2.2.2)))]), (mm 139 [])⟩)
def ILwLineHard_1000026b (q : Ext × S) : Nat × List PV × Nat × List PV := ((pP_list0 (pA_p (avT q.2 8))), (pP_list1 (pA_p (avT q.2 8))), (pP_list0 (pA_p (avT q.2 15))), (pP_list1 (pA_p (avT q.2 15))))
abbrev YLwLineHard_1000026 : Type := (Unit) ⊕ ((Nat × List PV × Nat × List PV))
def XLLwLineHard_1000026 : XL YLwLineHard_1000026 := .more XLwLineHard_1000026a (.one XLwLineHard_1000026b)
def ILwLineHard_1000026 (q : Ext × S) : YLwLineHard_1000026 := bif (cE q.1 == 2) then (Sum.inl (ILwLineHard_1000026a q)) else (Sum.inr (ILwLineHard_1000026b q))
theorem XILwLineHard_1000026a (y : Unit) : ILwLineHard_1000026 (xe (XLwLineHard_1000026a y)) = (Sum.inl y) := rfl
theorem XILwLineHard_1000026b (y : Nat × List PV × Nat × List PV) : ILwLineHard_1000026 (xe (XLwLineHard_1000026b y)) = (Sum.inr y) := rfl
theorem XILwLineHard_1000026 (y : YLwLineHard_1000026) : ILwLineHard_1000026 (xe (XLLwLineHard_1000026.fn y)) = y := (match y with | .inl y => XILwLineHard_1000026a y | .inr y => XILwLineHard_1000026b y)
noncomputable abbrev LLwLineHard_1000026 : Q → Option YLwLineHard_1000026 := lpO env a8.body 1000026 XLLwLineHard_1000026
noncomputable abbrev RLwLineHard_1000026 : Q → Option (Ext × S) := lpR env a8.body 1000026
theorem LLwLineHard_1000026a_of {s : Q} {y : Unit} (h : RLwLineHard_1000026 s = exO (XLwLineHard_1000026a y)) : LLwLineHard_1000026 s = some (Sum.inl y) := lpO_of ILwLineHard_1000026 XILwLineHard_1000026 (y := (Sum.inl y)) h
theorem LLwLineHard_1000026b_of {s : Q} {y : Nat × List PV × Nat × List PV} (h : RLwLineHard_1000026 s = exO (XLwLineHard_1000026b y)) : LLwLineHard_1000026 s = some (Sum.inr y) := lpO_of ILwLineHard_1000026 XILwLineHard_1000026 (y := (Sum.inr y)) h
theorem ULwLineHard : uniq ((blocksOf a8.body).map (·.1)) = true := by kernel_rfl
def BLwLineHard_0a (F : FnT) (N : Q → Option (Ext × S)) (E : Ext × Q → Option (Ext × S)) (_L0 : Q → Option YLwLineHard_0) (_L2 : Q → Option YLwLineHard_2) (_L1000059 : Q → Option YLwLineHard_1000059) (_L1000046 : Q → Option YLwLineHard_1000046) (_L1000039 : Q → Option YLwLineHard_1000039) (_L1000026 : Q → Option YLwLineHard_1000026) (n0 : Nat) (c1 : List PV) (i2 : Int) (i3 : Int) (i4 : Int) (i5 : Int) (i6 : Int) (i7 : Int) : Option (Ext × S) :=
  bif (decide (i3 < (n0 : Int))) then
    bif (decide (((0 : Int) ≤ i3) ∧ (i3 < (n0 : Int)))) then
      bindO (listC (c1[((Int.toNat i3) * 1)]?)) fun x0 =>
      bindO (F 22 (RSh.one CK.bool) [(PV.list x0.1 x0.2)]) fun (y1 : (Bool)) =>
      bif y1 then
        N (TLwLineHard_0a n0 c1 i2 (w64 (i3 + (1 : Int))) i4 i5 i6 i7)
      else E (XLwLineHard_0a ())
    else none
  else E (XLwLineHard_0b (n0, c1, i2, i4, i5, i6, i7))
theorem BLwLineHard_0a_eq (F : FnT) (N : Q → Option (Ext × S)) (E : Ext × Q → Option (Ext × S)) (L0 : Q → Option YLwLineHard_0) (L2 : Q → Option YLwLineHard_2) (L1000059 : Q → Option YLwLineHard_1000059) (L1000046 : Q → Option YLwLineHard_1000046) (L1000039 : Q → Option YLwLineHard_1000039) (L1000026 : Q → Option YLwLineHard_1000026) (n0 : Nat) (c1 : List PV) (i2 : Int) (i3 : Int) (i4 : Int) (i5 : Int) (i6 : Int) (i7 : Int) : semB (callP F ELwLineHard 20) s8 (loopT [⟨0, YLwLineHard_0, L0, XLLwLineHard_0⟩, ⟨2, YLwLineHard_2, L2, XLLwLineHard_2⟩, ⟨1000059, YLwLineHard_1000059, L1000059, XLLwLineHard_1000059⟩, ⟨1000046, YLwLineHard_1000046, L1000046, XLLwLineHard_1000046⟩, ⟨1000039, YLwLineHard_1000039, L1000039, XLLwLineHard_1000039⟩, ⟨1000026, YLwLineHard_1000026, L1000026, XLLwLineHard_1000026⟩]) 400 (blkIn a8.body 0) N E (TLwLineHard_0a n0 c1 i2 i3 i4 i5 i6 i7) = BLwLineHard_0a F N E L0 L2 L1000059 L1000046 L1000039 L1000026 n0 c1 i2 i3 i4 i5 i6 i7 := by kernel_rfl
theorem RLwLineHard_0a_of  (n0 : Nat) (c1 : List PV) (i2 : Int) (i3 : Int) (i4 : Int) (i5 : Int) (i6 : Int) (i7 : Int) {r : Ext × S} (h : BLwLineHard_0a (Fn env) RLwLineHard_0 exO LLwLineHard_0 LLwLineHard_2 LLwLineHard_1000059 LLwLineHard_1000046 LLwLineHard_1000039 LLwLineHard_1000026 n0 c1 i2 i3 i4 i5 i6 i7 = some r) : RLwLineHard_0 (TLwLineHard_0a n0 c1 i2 i3 i4 i5 i6 i7) = some r :=
  lp_of ELwLineHard_ok (by kernel_rfl) (lo_cons (lpO_ok ULwLineHard) (lo_cons (lpO_ok ULwLineHard) (lo_cons (lpO_ok ULwLineHard) (lo_cons (lpO_ok ULwLineHard) (lo_cons (lpO_ok ULwLineHard) (lo_cons (lpO_ok ULwLineHard) lo_nil)))))) (by kernel_rfl) ((BLwLineHard_0a_eq _ _ _ _ _ _ _ _ _ _ _ _ _ _ _ _ _).trans h)
def BLwLineHard_2a (F : FnT) (N : Q → Option (Ext × S)) (E : Ext × Q → Option (Ext × S)) (_L0 : Q → Option YLwLineHard_0) (_L2 : Q → Option YLwLineHard_2) (_L1000059 : Q → Option YLwLineHard_1000059) (_L1000046 : Q → Option YLwLineHard_1000046) (_L1000039 : Q → Option YLwLineHard_1000039) (_L1000026 : Q → Option YLwLineHard_1000026) (n0 : Nat) (c1 : List PV) (n2 : Nat) (c3 : List PV) (i4 : Int) : Option (Ext × S) :=
  bif (decide (i4 < (n2 : Int))) then
    bif (decide (((0 : Int) ≤ i4) ∧ (i4 < (n2 : Int)))) then
      bindO (intC IntKind.i64 (c3[((Int.toNat i4) * 1)]?)) fun x0 =>
      bindO (F 47 (RSh.one CK.bool) [(PV.list n0 c1), (PV.int IntKind.i64 x0)]) fun (y1 : (Bool)) =>
      bif y1 then
        N (TLwLineHard_2a n0 c1 n2 c3 (w64 (i4 + (1 : Int))))
      else E (XLwLineHard_2a ())
    else none
  else E (XLwLineHard_2b ())
theorem BLwLineHard_2a_eq (F : FnT) (N : Q → Option (Ext × S)) (E : Ext × Q → Option (Ext × S)) (L0 : Q → Option YLwLineHard_0) (L2 : Q → Option YLwLineHard_2) (L1000059 : Q → Option YLwLineHard_1000059) (L1000046 : Q → Option YLwLineHard_1000046) (L1000039 : Q → Option YLwLineHard_1000039) (L1000026 : Q → Option YLwLineHard_1000026) (n0 : Nat) (c1 : List PV) (n2 : Nat) (c3 : List PV) (i4 : Int) : semB (callP F ELwLineHard 20) s8 (loopT [⟨0, YLwLineHard_0, L0, XLLwLineHard_0⟩, ⟨2, YLwLineHard_2, L2, XLLwLineHard_2⟩, ⟨1000059, YLwLineHard_1000059, L1000059, XLLwLineHard_1000059⟩, ⟨1000046, YLwLineHard_1000046, L1000046, XLLwLineHard_1000046⟩, ⟨1000039, YLwLineHard_1000039, L1000039, XLLwLineHard_1000039⟩, ⟨1000026, YLwLineHard_1000026, L1000026, XLLwLineHard_1000026⟩]) 400 (blkIn a8.body 2) N E (TLwLineHard_2a n0 c1 n2 c3 i4) = BLwLineHard_2a F N E L0 L2 L1000059 L1000046 L1000039 L1000026 n0 c1 n2 c3 i4 := by kernel_rfl
theorem RLwLineHard_2a_of  (n0 : Nat) (c1 : List PV) (n2 : Nat) (c3 : List PV) (i4 : Int) {r : Ext × S} (h : BLwLineHard_2a (Fn env) RLwLineHard_2 exO LLwLineHard_0 LLwLineHard_2 LLwLineHard_1000059 LLwLineHard_1000046 LLwLineHard_1000039 LLwLineHard_1000026 n0 c1 n2 c3 i4 = some r) : RLwLineHard_2 (TLwLineHard_2a n0 c1 n2 c3 i4) = some r :=
  lp_of ELwLineHard_ok (by kernel_rfl) (lo_cons (lpO_ok ULwLineHard) (lo_cons (lpO_ok ULwLineHard) (lo_cons (lpO_ok ULwLineHard) (lo_cons (lpO_ok ULwLineHard) (lo_cons (lpO_ok ULwLineHard) (lo_cons (lpO_ok ULwLineHard) lo_nil)))))) (by kernel_rfl) ((BLwLineHard_2a_eq _ _ _ _ _ _ _ _ _ _ _ _ _ _).trans h)
def BLwLineHard_1000059a (F : FnT) (_N : Q → Option (Ext × S)) (E : Ext × Q → Option (Ext × S)) (_L0 : Q → Option YLwLineHard_0) (_L2 : Q → Option YLwLineHard_2) (_L1000059 : Q → Option YLwLineHard_1000059) (_L1000046 : Q → Option YLwLineHard_1000046) (_L1000039 : Q → Option YLwLineHard_1000039) (_L1000026 : Q → Option YLwLineHard_1000026) (n0 : Nat) (c1 : List PV) (i2 : Int) (n3 : Nat) (c4 : List PV) (i5 : Int) (i6 : Int) (i7 : Int) (i8 : Int) (i9 : Int) : Option (Ext × S) :=
  bif (i5 != (0 : Int)) then
    E (XLwLineHard_1000059a ())
  else bindO (F 46 (RSh.one CK.list) [(PV.list n0 c1), (PV.agg [(PV.int IntKind.i64 i6), (PV.int IntKind.i64 i7), (PV.int IntKind.i64 i8), (PV.int IntKind.i64 i9)])]) fun (y0 : ((Nat) × (List PV))) =>
  bindO (F 31 (RSh.one CK.bool) [(PV.list n3 c4), (PV.list y0.1 y0.2)]) fun (y1 : (Bool)) =>
  bif y1 then
    E (XLwLineHard_1000059b (n0, c1, i2, n3, c4, i6, i7, i8, i9))
  else E (XLwLineHard_1000059a ())
theorem BLwLineHard_1000059a_eq (F : FnT) (N : Q → Option (Ext × S)) (E : Ext × Q → Option (Ext × S)) (L0 : Q → Option YLwLineHard_0) (L2 : Q → Option YLwLineHard_2) (L1000059 : Q → Option YLwLineHard_1000059) (L1000046 : Q → Option YLwLineHard_1000046) (L1000039 : Q → Option YLwLineHard_1000039) (L1000026 : Q → Option YLwLineHard_1000026) (n0 : Nat) (c1 : List PV) (i2 : Int) (n3 : Nat) (c4 : List PV) (i5 : Int) (i6 : Int) (i7 : Int) (i8 : Int) (i9 : Int) : semN (callP F ELwLineHard 20) s8 (loopT [⟨0, YLwLineHard_0, L0, XLLwLineHard_0⟩, ⟨2, YLwLineHard_2, L2, XLLwLineHard_2⟩, ⟨1000059, YLwLineHard_1000059, L1000059, XLLwLineHard_1000059⟩, ⟨1000046, YLwLineHard_1000046, L1000046, XLLwLineHard_1000046⟩, ⟨1000039, YLwLineHard_1000039, L1000039, XLLwLineHard_1000039⟩, ⟨1000026, YLwLineHard_1000026, L1000026, XLLwLineHard_1000026⟩]) 400 (blkIn a8.body 1000059) E (TLwLineHard_1000059a n0 c1 i2 n3 c4 i5 i6 i7 i8 i9) = BLwLineHard_1000059a F N E L0 L2 L1000059 L1000046 L1000039 L1000026 n0 c1 i2 n3 c4 i5 i6 i7 i8 i9 := by kernel_rfl
theorem RLwLineHard_1000059a_of  (n0 : Nat) (c1 : List PV) (i2 : Int) (n3 : Nat) (c4 : List PV) (i5 : Int) (i6 : Int) (i7 : Int) (i8 : Int) (i9 : Int) {r : Ext × S} (h : BLwLineHard_1000059a (Fn env) RLwLineHard_1000059 exO LLwLineHard_0 LLwLineHard_2 LLwLineHard_1000059 LLwLineHard_1000046 LLwLineHard_1000039 LLwLineHard_1000026 n0 c1 i2 n3 c4 i5 i6 i7 i8 i9 = some r) : RLwLineHard_1000059 (TLwLineHard_1000059a n0 c1 i2 n3 c4 i5 i6 i7 i8 i9) = some r :=
  nd_of ELwLineHard_ok (by kernel_rfl) (lo_cons (lpO_ok ULwLineHard) (lo_cons (lpO_ok ULwLineHard) (lo_cons (lpO_ok ULwLineHard) (lo_cons (lpO_ok ULwLineHard) (lo_cons (lpO_ok ULwLineHard) (lo_cons (lpO_ok ULwLineHard) lo_nil)))))) (by kernel_rfl) ((BLwLineHard_1000059a_eq _ RLwLineHard_1000059 _ _ _ _ _ _ _ _ _ _ _ _ _ _ _ _ _).trans h)
def BLwLineHard_1000046a (_F : FnT) (_N : Q → Option (Ext × S)) (E : Ext × Q → Option (Ext × S)) (_L0 : Q → Option YLwLineHard_0) (_L2 : Q → Option YLwLineHard_2) (_L1000059 : Q → Option YLwLineHard_1000059) (_L1000046 : Q → Option YLwLineHard_1000046) (_L1000039 : Q → Option YLwLineHard_1000039) (_L1000026 : Q → Option YLwLineHard_1000026) (n0 : Nat) (c1 : List PV) (i2 : Int) (n3 : Nat) (c4 : List PV) (n5 : Nat) (_c6 : List PV) (i7 : Int) (i8 : Int) (i9 : Int) (i10 : Int) (i11 : Int) : Option (Ext × S) :=
  bif (i7 != (0 : Int)) then
    E (XLwLineHard_1000046a ())
  else bif ((n5 : Int) == (1 : Int)) then
    bif (decide (i10 ≤ (10000 : Int))) then
      E (XLwLineHard_1000046b (n0, c1, i2, n3, c4, i8, i9, i10, i11))
    else E (XLwLineHard_1000046a ())
  else bif (decide (i10 ≤ (10000 : Int))) then
    E (XLwLineHard_1000046a ())
  else E (XLwLineHard_1000046b (n0, c1, i2, n3, c4, i8, i9, i10, i11))
theorem BLwLineHard_1000046a_eq (F : FnT) (N : Q → Option (Ext × S)) (E : Ext × Q → Option (Ext × S)) (L0 : Q → Option YLwLineHard_0) (L2 : Q → Option YLwLineHard_2) (L1000059 : Q → Option YLwLineHard_1000059) (L1000046 : Q → Option YLwLineHard_1000046) (L1000039 : Q → Option YLwLineHard_1000039) (L1000026 : Q → Option YLwLineHard_1000026) (n0 : Nat) (c1 : List PV) (i2 : Int) (n3 : Nat) (c4 : List PV) (n5 : Nat) (c6 : List PV) (i7 : Int) (i8 : Int) (i9 : Int) (i10 : Int) (i11 : Int) : semN (callP F ELwLineHard 20) s8 (loopT [⟨0, YLwLineHard_0, L0, XLLwLineHard_0⟩, ⟨2, YLwLineHard_2, L2, XLLwLineHard_2⟩, ⟨1000059, YLwLineHard_1000059, L1000059, XLLwLineHard_1000059⟩, ⟨1000046, YLwLineHard_1000046, L1000046, XLLwLineHard_1000046⟩, ⟨1000039, YLwLineHard_1000039, L1000039, XLLwLineHard_1000039⟩, ⟨1000026, YLwLineHard_1000026, L1000026, XLLwLineHard_1000026⟩]) 400 (blkIn a8.body 1000046) E (TLwLineHard_1000046a n0 c1 i2 n3 c4 n5 c6 i7 i8 i9 i10 i11) = BLwLineHard_1000046a F N E L0 L2 L1000059 L1000046 L1000039 L1000026 n0 c1 i2 n3 c4 n5 c6 i7 i8 i9 i10 i11 := by kernel_rfl
theorem RLwLineHard_1000046a_of  (n0 : Nat) (c1 : List PV) (i2 : Int) (n3 : Nat) (c4 : List PV) (n5 : Nat) (c6 : List PV) (i7 : Int) (i8 : Int) (i9 : Int) (i10 : Int) (i11 : Int) {r : Ext × S} (h : BLwLineHard_1000046a (Fn env) RLwLineHard_1000046 exO LLwLineHard_0 LLwLineHard_2 LLwLineHard_1000059 LLwLineHard_1000046 LLwLineHard_1000039 LLwLineHard_1000026 n0 c1 i2 n3 c4 n5 c6 i7 i8 i9 i10 i11 = some r) : RLwLineHard_1000046 (TLwLineHard_1000046a n0 c1 i2 n3 c4 n5 c6 i7 i8 i9 i10 i11) = some r :=
  nd_of ELwLineHard_ok (by kernel_rfl) (lo_cons (lpO_ok ULwLineHard) (lo_cons (lpO_ok ULwLineHard) (lo_cons (lpO_ok ULwLineHard) (lo_cons (lpO_ok ULwLineHard) (lo_cons (lpO_ok ULwLineHard) (lo_cons (lpO_ok ULwLineHard) lo_nil)))))) (by kernel_rfl) ((BLwLineHard_1000046a_eq _ RLwLineHard_1000046 _ _ _ _ _ _ _ _ _ _ _ _ _ _ _ _ _ _ _).trans h)
def BLwLineHard_1000039a (F : FnT) (_N : Q → Option (Ext × S)) (E : Ext × Q → Option (Ext × S)) (_L0 : Q → Option YLwLineHard_0) (_L2 : Q → Option YLwLineHard_2) (_L1000059 : Q → Option YLwLineHard_1000059) (_L1000046 : Q → Option YLwLineHard_1000046) (_L1000039 : Q → Option YLwLineHard_1000039) (_L1000026 : Q → Option YLwLineHard_1000026) (n0 : Nat) (c1 : List PV) (i2 : Int) (n3 : Nat) (c4 : List PV) (i5 : Int) (i6 : Int) (i7 : Int) (i8 : Int) : Option (Ext × S) :=
  bindO (F 11 (RSh.one CK.bool) [(PV.int IntKind.i64 i2), (PV.int IntKind.i64 (0 : Int)), (PV.int IntKind.i64 (100 : Int))]) fun (y0 : (Bool)) =>
  bif y0 then
    bif (decide ((w64 (i8 + i2)) > (100 : Int))) then
      E (XLwLineHard_1000039a ())
    else E (XLwLineHard_1000039b (n0, c1, i2, n3, c4, i5, i6, i7, i8))
  else E (XLwLineHard_1000039a ())
theorem BLwLineHard_1000039a_eq (F : FnT) (N : Q → Option (Ext × S)) (E : Ext × Q → Option (Ext × S)) (L0 : Q → Option YLwLineHard_0) (L2 : Q → Option YLwLineHard_2) (L1000059 : Q → Option YLwLineHard_1000059) (L1000046 : Q → Option YLwLineHard_1000046) (L1000039 : Q → Option YLwLineHard_1000039) (L1000026 : Q → Option YLwLineHard_1000026) (n0 : Nat) (c1 : List PV) (i2 : Int) (n3 : Nat) (c4 : List PV) (i5 : Int) (i6 : Int) (i7 : Int) (i8 : Int) : semN (callP F ELwLineHard 20) s8 (loopT [⟨0, YLwLineHard_0, L0, XLLwLineHard_0⟩, ⟨2, YLwLineHard_2, L2, XLLwLineHard_2⟩, ⟨1000059, YLwLineHard_1000059, L1000059, XLLwLineHard_1000059⟩, ⟨1000046, YLwLineHard_1000046, L1000046, XLLwLineHard_1000046⟩, ⟨1000039, YLwLineHard_1000039, L1000039, XLLwLineHard_1000039⟩, ⟨1000026, YLwLineHard_1000026, L1000026, XLLwLineHard_1000026⟩]) 400 (blkIn a8.body 1000039) E (TLwLineHard_1000039a n0 c1 i2 n3 c4 i5 i6 i7 i8) = BLwLineHard_1000039a F N E L0 L2 L1000059 L1000046 L1000039 L1000026 n0 c1 i2 n3 c4 i5 i6 i7 i8 := by kernel_rfl
theorem RLwLineHard_1000039a_of  (n0 : Nat) (c1 : List PV) (i2 : Int) (n3 : Nat) (c4 : List PV) (i5 : Int) (i6 : Int) (i7 : Int) (i8 : Int) {r : Ext × S} (h : BLwLineHard_1000039a (Fn env) RLwLineHard_1000039 exO LLwLineHard_0 LLwLineHard_2 LLwLineHard_1000059 LLwLineHard_1000046 LLwLineHard_1000039 LLwLineHard_1000026 n0 c1 i2 n3 c4 i5 i6 i7 i8 = some r) : RLwLineHard_1000039 (TLwLineHard_1000039a n0 c1 i2 n3 c4 i5 i6 i7 i8) = some r :=
  nd_of ELwLineHard_ok (by kernel_rfl) (lo_cons (lpO_ok ULwLineHard) (lo_cons (lpO_ok ULwLineHard) (lo_cons (lpO_ok ULwLineHard) (lo_cons (lpO_ok ULwLineHard) (lo_cons (lpO_ok ULwLineHard) (lo_cons (lpO_ok ULwLineHard) lo_nil)))))) (by kernel_rfl) ((BLwLineHard_1000039a_eq _ RLwLineHard_1000039 _ _ _ _ _ _ _ _ _ _ _ _ _ _ _ _).trans h)
def BLwLineHard_1000026a (_F : FnT) (_N : Q → Option (Ext × S)) (E : Ext × Q → Option (Ext × S)) (_L0 : Q → Option YLwLineHard_0) (_L2 : Q → Option YLwLineHard_2) (_L1000059 : Q → Option YLwLineHard_1000059) (_L1000046 : Q → Option YLwLineHard_1000046) (_L1000039 : Q → Option YLwLineHard_1000039) (_L1000026 : Q → Option YLwLineHard_1000026) (n0 : Nat) (c1 : List PV) (n2 : Nat) (c3 : List PV) (i4 : Int) : Option (Ext × S) :=
  bif (i4 != (0 : Int)) then
    E (XLwLineHard_1000026a ())
  else bif (decide ((n2 : Int) > (n0 : Int))) then
    E (XLwLineHard_1000026a ())
  else E (XLwLineHard_1000026b (n0, c1, n2, c3))
theorem BLwLineHard_1000026a_eq (F : FnT) (N : Q → Option (Ext × S)) (E : Ext × Q → Option (Ext × S)) (L0 : Q → Option YLwLineHard_0) (L2 : Q → Option YLwLineHard_2) (L1000059 : Q → Option YLwLineHard_1000059) (L1000046 : Q → Option YLwLineHard_1000046) (L1000039 : Q → Option YLwLineHard_1000039) (L1000026 : Q → Option YLwLineHard_1000026) (n0 : Nat) (c1 : List PV) (n2 : Nat) (c3 : List PV) (i4 : Int) : semN (callP F ELwLineHard 20) s8 (loopT [⟨0, YLwLineHard_0, L0, XLLwLineHard_0⟩, ⟨2, YLwLineHard_2, L2, XLLwLineHard_2⟩, ⟨1000059, YLwLineHard_1000059, L1000059, XLLwLineHard_1000059⟩, ⟨1000046, YLwLineHard_1000046, L1000046, XLLwLineHard_1000046⟩, ⟨1000039, YLwLineHard_1000039, L1000039, XLLwLineHard_1000039⟩, ⟨1000026, YLwLineHard_1000026, L1000026, XLLwLineHard_1000026⟩]) 400 (blkIn a8.body 1000026) E (TLwLineHard_1000026a n0 c1 n2 c3 i4) = BLwLineHard_1000026a F N E L0 L2 L1000059 L1000046 L1000039 L1000026 n0 c1 n2 c3 i4 := by kernel_rfl
theorem RLwLineHard_1000026a_of  (n0 : Nat) (c1 : List PV) (n2 : Nat) (c3 : List PV) (i4 : Int) {r : Ext × S} (h : BLwLineHard_1000026a (Fn env) RLwLineHard_1000026 exO LLwLineHard_0 LLwLineHard_2 LLwLineHard_1000059 LLwLineHard_1000046 LLwLineHard_1000039 LLwLineHard_1000026 n0 c1 n2 c3 i4 = some r) : RLwLineHard_1000026 (TLwLineHard_1000026a n0 c1 n2 c3 i4) = some r :=
  nd_of ELwLineHard_ok (by kernel_rfl) (lo_cons (lpO_ok ULwLineHard) (lo_cons (lpO_ok ULwLineHard) (lo_cons (lpO_ok ULwLineHard) (lo_cons (lpO_ok ULwLineHard) (lo_cons (lpO_ok ULwLineHard) (lo_cons (lpO_ok ULwLineHard) lo_nil)))))) (by kernel_rfl) ((BLwLineHard_1000026a_eq _ RLwLineHard_1000026 _ _ _ _ _ _ _ _ _ _ _ _).trans h)
def tLwLineHard (F : FnT) (L0 : Q → Option YLwLineHard_0) (L2 : Q → Option YLwLineHard_2) (L1000059 : Q → Option YLwLineHard_1000059) (L1000046 : Q → Option YLwLineHard_1000046) (L1000039 : Q → Option YLwLineHard_1000039) (L1000026 : Q → Option YLwLineHard_1000026) (p0n : Nat) (p0c : List PV) (p1_0 : Int) (p1_1 : Int) (p1_2 : Int) (p1_3 : Int) (p2 : Int) : Option (Bool) :=
  bindO (F 9 (RSh.one CK.bool) []) fun (y0 : (Bool)) =>
  bif y0 then
    bif (decide ((p0n : Int) > (24 : Int))) then
      some true
    else bindO (L0 (TLwLineHard_0a p0n p0c p2 (0 : Int) p1_0 p1_1 p1_2 p1_3)) fun z =>
    Sum.elim (fun _y1 =>
      some true) (fun y2 =>
      bindO (F 44 (RSh.one CK.list) [(PV.list y2.1 y2.2.1)]) fun (y3 : ((Nat) × (List PV))) =>
      bindO (F 43 (RSh.tup [(Prod.mk false [CK.list]), (Prod.mk false [(CK.int IntKind.i64)])]) [(PV.list y3.1 y3.2), (PV.agg [(PV.int IntKind.i64 y2.2.2.2.1), (PV.int IntKind.i64 y2.2.2.2.2.1), (PV.int IntKind.i64 y2.2.2.2.2.2.1), (PV.int IntKind.i64 y2.2.2.2.2.2.2)])]) fun (y4 : (((Nat) × (List PV)) × (Int))) =>
      bindO (F 45 (RSh.one (CK.int IntKind.i64)) [(PV.list y2.1 y2.2.1), (PV.agg [(PV.int IntKind.i64 y2.2.2.2.1), (PV.int IntKind.i64 y2.2.2.2.2.1), (PV.int IntKind.i64 y2.2.2.2.2.2.1), (PV.int IntKind.i64 y2.2.2.2.2.2.2)])]) fun (y5 : (Int)) =>
      bif (y5 != (0 : Int)) then
        bif (y4.2 == y5) then
          bif ((y4.1.1 : Int) == (0 : Int)) then
            some true
          else some false
        else some false
      else bindO (L1000059 (TLwLineHard_1000059a y2.1 y2.2.1 y2.2.2.1 y4.1.1 y4.1.2 y4.2 y2.2.2.2.1 y2.2.2.2.2.1 y2.2.2.2.2.2.1 y2.2.2.2.2.2.2)) fun z =>
      Sum.elim (fun _y6 =>
        some false) (fun y7 =>
        bif (decide (((w64 (y7.2.2.2.2.2.1 + (1 : Int))) = (w64 (y7.2.2.2.2.2.1 + (1 : Int)))) ∧ (((0 : Int) ≤ (w64 (y7.2.2.2.2.2.1 + (1 : Int)))) ∧ ((w64 (y7.2.2.2.2.2.1 + (1 : Int))) ≤ (big : Int))))) then
          bif (decide (((0 : Int) ≤ y7.2.2.2.2.2.1) ∧ (y7.2.2.2.2.2.1 < ((Int.toNat (w64 (y7.2.2.2.2.2.1 + (1 : Int)))) : Int)))) then
            bindO (Gv.overO (rep [(PV.int IntKind.i64 (0 : Int))] (Int.toNat (w64 (y7.2.2.2.2.2.1 + (1 : Int))))) (0 + ((Int.toNat y7.2.2.2.2.2.1) * 1)) [(PV.int IntKind.i64 (if (y7.2.2.2.2.2.2.2.1 < (10000 : Int)) then y7.2.2.2.2.2.2.2.1 else (10000 : Int)))]) fun x8 =>
            bif (decide ((0 + ((Int.toNat (w64 (y7.2.2.2.2.2.1 + (1 : Int)))) * 1)) ≤ (List.length x8))) then
              bindO (F 43 (RSh.tup [(Prod.mk false [CK.list]), (Prod.mk false [(CK.int IntKind.i64)])]) [(PV.list 1 [(PV.list (Int.toNat (w64 (y7.2.2.2.2.2.1 + (1 : Int)))) (List.take ((Int.toNat (w64 (y7.2.2.2.2.2.1 + (1 : Int)))) * 1) (List.drop 0 x8)))]), (PV.agg [(PV.int IntKind.i64 y7.2.2.2.2.2.1), (PV.int IntKind.i64 y7.2.2.2.2.2.2.1), (PV.int IntKind.i64 y7.2.2.2.2.2.2.2.1), (PV.int IntKind.i64 y7.2.2.2.2.2.2.2.2)])]) fun (y9 : (((Nat) × (List PV)) × (Int))) =>
              bindO (L1000046 (TLwLineHard_1000046a y7.1 y7.2.1 y7.2.2.1 y7.2.2.2.1 y7.2.2.2.2.1 y9.1.1 y9.1.2 y9.2 y7.2.2.2.2.2.1 y7.2.2.2.2.2.2.1 y7.2.2.2.2.2.2.2.1 y7.2.2.2.2.2.2.2.2)) fun z =>
              Sum.elim (fun _y10 =>
                some false) (fun y11 =>
                bindO (L1000039 (TLwLineHard_1000039a y11.1 y11.2.1 y11.2.2.1 y11.2.2.2.1 y11.2.2.2.2.1 y11.2.2.2.2.2.1 y11.2.2.2.2.2.2.1 y11.2.2.2.2.2.2.2.1 y11.2.2.2.2.2.2.2.2)) fun z =>
                Sum.elim (fun _y12 =>
                  some true) (fun y13 =>
                  bindO (F 44 (RSh.one CK.list) [(PV.list y13.1 y13.2.1)]) fun (y14 : ((Nat) × (List PV))) =>
                  bindO (F 43 (RSh.tup [(Prod.mk false [CK.list]), (Prod.mk false [(CK.int IntKind.i64)])]) [(PV.list y14.1 y14.2), (PV.agg [(PV.int IntKind.i64 y13.2.2.2.2.2.1), (PV.int IntKind.i64 y13.2.2.2.2.2.2.1), (PV.int IntKind.i64 y13.2.2.2.2.2.2.2.1), (PV.int IntKind.i64 (w64 (y13.2.2.2.2.2.2.2.2 + y13.2.2.1)))])]) fun (y15 : (((Nat) × (List PV)) × (Int))) =>
                  bindO (L1000026 (TLwLineHard_1000026a y13.2.2.2.1 y13.2.2.2.2.1 y15.1.1 y15.1.2 y15.2)) fun z =>
                  Sum.elim (fun _y16 =>
                    some false) (fun y17 =>
                    bindO (L2 (TLwLineHard_2a y17.1 y17.2.1 y17.2.2.1 y17.2.2.2 (0 : Int))) fun z =>
                    Sum.elim (fun _y18 =>
                      some false) (fun _y19 =>
                      some true) z) z) z) z
            else none
          else none
        else none) z) z
  else some false
theorem tLwLineHard_eq (F : FnT) (L0 : Q → Option YLwLineHard_0) (L2 : Q → Option YLwLineHard_2) (L1000059 : Q → Option YLwLineHard_1000059) (L1000046 : Q → Option YLwLineHard_1000046) (L1000039 : Q → Option YLwLineHard_1000039) (L1000026 : Q → Option YLwLineHard_1000026) (p0n : Nat) (p0c : List PV) (p1_0 : Int) (p1_1 : Int) (p1_2 : Int) (p1_3 : Int) (p2 : Int) : semF (callP F ELwLineHard 20) s8 (loopT [⟨0, YLwLineHard_0, L0, XLLwLineHard_0⟩, ⟨2, YLwLineHard_2, L2, XLLwLineHard_2⟩, ⟨1000059, YLwLineHard_1000059, L1000059, XLLwLineHard_1000059⟩, ⟨1000046, YLwLineHard_1000046, L1000046, XLLwLineHard_1000046⟩, ⟨1000039, YLwLineHard_1000039, L1000039, XLLwLineHard_1000039⟩, ⟨1000026, YLwLineHard_1000026, L1000026, XLLwLineHard_1000026⟩]) 400 a8 [PV.list p0n p0c, PV.agg [PV.int IntKind.i64 p1_0, PV.int IntKind.i64 p1_1, PV.int IntKind.i64 p1_2, PV.int IntKind.i64 p1_3], PV.int IntKind.i64 p2] (fun rv => decR (RSh.one CK.bool) rv.pv) = tLwLineHard F L0 L2 L1000059 L1000046 L1000039 L1000026 p0n p0c p1_0 p1_1 p1_2 p1_3 p2 := by kernel_rfl
noncomputable abbrev FLwLineHard (args : List PV) := Fn env 8 (RSh.one CK.bool) args
theorem FLwLineHard_of  (p0n : Nat) (p0c : List PV) (p1_0 : Int) (p1_1 : Int) (p1_2 : Int) (p1_3 : Int) (p2 : Int) {res : (Bool)} (h : tLwLineHard (Fn env) LLwLineHard_0 LLwLineHard_2 LLwLineHard_1000059 LLwLineHard_1000046 LLwLineHard_1000039 LLwLineHard_1000026 p0n p0c p1_0 p1_1 p1_2 p1_3 p2 = some res) : FLwLineHard [PV.list p0n p0c, PV.agg [PV.int IntKind.i64 p1_0, PV.int IntKind.i64 p1_1, PV.int IntKind.i64 p1_2, PV.int IntKind.i64 p1_3], PV.int IntKind.i64 p2] = some res :=
  fn_of ELwLineHard_ok rfl rfl (lo_cons (lpO_ok ULwLineHard) (lo_cons (lpO_ok ULwLineHard) (lo_cons (lpO_ok ULwLineHard) (lo_cons (lpO_ok ULwLineHard) (lo_cons (lpO_ok ULwLineHard) (lo_cons (lpO_ok ULwLineHard) lo_nil)))))) ((tLwLineHard_eq _ _ _ _ _ _ _ _ _ _ _ _ _ _).trans h)

end Gv
