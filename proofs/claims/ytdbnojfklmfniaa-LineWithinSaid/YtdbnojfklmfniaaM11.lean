/- What the functions do, round by round: M11. -/
import Derived.Test.YtdbnojfklmfniaaM15
namespace Gv
open Go
set_option maxRecDepth 100000

/-! ### LwLineWithin -/

def ELwLineWithin : List Entry := [.out 9 (RSh.one CK.bool), .out 10 (RSh.one (CK.int IntKind.i64)), .out 11 (RSh.one CK.bool), .out 13 (RSh.one CK.list), .out 12 (RSh.tup [(Prod.mk false [(CK.int IntKind.i64)]), (Prod.mk false [(CK.int IntKind.i64)])]), .out 14 (RSh.tup [(Prod.mk true [(CK.int IntKind.i64), (CK.int IntKind.i64)]), (Prod.mk false [(CK.int IntKind.i64)])]), .out 15 (RSh.one CK.bool), .out 16 (RSh.one CK.bool), .out 18 (RSh.agg [(CK.int IntKind.i64), (CK.int IntKind.i64)]), .out 17 (RSh.one (CK.int IntKind.i64)), .out 19 (RSh.one (CK.int IntKind.i64)), .out 20 (RSh.one (CK.int IntKind.i64)), .out 21 (RSh.agg [(CK.int IntKind.i64), (CK.int IntKind.i64)])]
theorem ELwLineWithin_ok : ∀ e ∈ ELwLineWithin, EntOK env e := (ent_out (ent_out (ent_out (ent_out (ent_out (ent_out (ent_out (ent_out (ent_out (ent_out (ent_out (ent_out (ent_out ent_nil)))))))))))))
def TLwLineWithin_0a (n0 : Nat) (c1 : List PV) (i2 : Int) : Q := ⟨(tm 176 [(0, (AV.p (PV.list n0 c1))), (1, (AV.p (PV.int IntKind.i64 i2))), (5, AV.nilS), (6, AV.nilS), (7, (AV.p (PV.int IntKind.i64 (0 : Int))))]), (mm 176 [])⟩
def TLwLineWithin_0b (n0 : Nat) (c1 : List PV) (i2 : Int) (n3 : Nat) (c4 : List PV) (n5 : Nat) (c6 : List PV) (i7 : Int) (n8 : Nat) (n9 : Nat) : Q := ⟨(tm 176 [(0, (AV.p (PV.list n0 c1))), (1, (AV.p (PV.int IntKind.i64 i2))), (5, (AV.app 41 n3 1 c4)), (6, (AV.app 52 n5 1 c6)), (7, (AV.p (PV.int IntKind.i64 i7)))]), (mm 176 [(41, (Bk.buf n8)), (52, (Bk.buf n9))])⟩
def XLwLineWithin_0a (y : Nat × List PV) : Ext × Q := (Ext.normal, ⟨(tm 176 [(0, (AV.p (PV.list y.1 y.2))), (5, AV.nilS), (6, AV.nilS)]), (mm 176 [])⟩)
def ILwLineWithin_0a (q : Ext × S) : Nat × List PV := ((pP_list0 (pA_p (avT q.2 0))), (pP_list1 (pA_p (avT q.2 0))))
def XLwLineWithin_0b (y : Nat × List PV × Nat × List PV × Nat × List PV × Nat × Nat) : Ext × Q := (Ext.normal, ⟨(tm 176 [(0, (AV.p (PV.list y.1 y.2.1))), (5, (AV.app 41 y.2.2.1 1 y.2.2.2.1)), (6, (AV.app 52 y.2.2.2.2.1 1 y.2.2.2.2.2.1))]), (mm 176 [(41, (Bk.buf y.2.2.2.2.2.2.1)), (52, (Bk.buf y.2.2.2.2.2.2.2))])⟩)
def ILwLineWithin_0b (q : Ext × S) : Nat × List PV × Nat × List PV × Nat × List PV × Nat × Nat := ((pP_list0 (pA_p (avT q.2 0))), (pP_list1 (pA_p (avT q.2 0))), (pA_app1 (avT q.2 5)), (pA_app3 (avT q.2 5)), (pA_app1 (avT q.2 6)), (pA_app3 (avT q.2 6)), (pB_buf0 (avM q.2 41)), (pB_buf0 (avM q.2 52)))
abbrev YLwLineWithin_0 : Type := (Nat × List PV) ⊕ ((Nat × List PV × Nat × List PV × Nat × List PV × Nat × Nat))
def XLLwLineWithin_0 : XL YLwLineWithin_0 := .more XLwLineWithin_0a (.one XLwLineWithin_0b)
def ILwLineWithin_0 (q : Ext × S) : YLwLineWithin_0 := bif (cA (avT q.2 5) == 1) then (Sum.inl (ILwLineWithin_0a q)) else (Sum.inr (ILwLineWithin_0b q))
theorem XILwLineWithin_0a (y : Nat × List PV) : ILwLineWithin_0 (xe (XLwLineWithin_0a y)) = (Sum.inl y) := rfl
theorem XILwLineWithin_0b (y : Nat × List PV × Nat × List PV × Nat × List PV × Nat × Nat) : ILwLineWithin_0 (xe (XLwLineWithin_0b y)) = (Sum.inr y) := rfl
theorem XILwLineWithin_0 (y : YLwLineWithin_0) : ILwLineWithin_0 (xe (XLLwLineWithin_0.fn y)) = y := (match y with | .inl y => XILwLineWithin_0a y | .inr y => XILwLineWithin_0b y)
noncomputable abbrev LLwLineWithin_0 : Q → Option YLwLineWithin_0 := lpO env a3.body 0 XLLwLineWithin_0
noncomputable abbrev RLwLineWithin_0 : Q → Option (Ext × S) := lpR env a3.body 0
theorem LLwLineWithin_0a_of {s : Q} {y : Nat × List PV} (h : RLwLineWithin_0 s = exO (XLwLineWithin_0a y)) : LLwLineWithin_0 s = some (Sum.inl y) := lpO_of ILwLineWithin_0 XILwLineWithin_0 (y := (Sum.inl y)) h
theorem LLwLineWithin_0b_of {s : Q} {y : Nat × List PV × Nat × List PV × Nat × List PV × Nat × Nat} (h : RLwLineWithin_0 s = exO (XLwLineWithin_0b y)) : LLwLineWithin_0 s = some (Sum.inr y) := lpO_of ILwLineWithin_0 XILwLineWithin_0 (y := (Sum.inr y)) h
def TLwLineWithin_2a (n0 : Nat) (c1 : List PV) (i2 : Int) (i3 : Int) : Q := ⟨(tm 176 [(0, (AV.p (PV.list n0 c1))), (5, AV.nilS), (6, AV.nilS), (8, (AV.p (PV.int IntKind.i64 i2))), (10, (AV.p (PV.int IntKind.i64 i3)))]), (mm 176 [])⟩
def TLwLineWithin_2b (n0 : Nat) (c1 : List PV) (n2 : Nat) (c3 : List PV) (n4 : Nat) (c5 : List PV) (i6 : Int) (i7 : Int) (n8 : Nat) (n9 : Nat) : Q := ⟨(tm 176 [(0, (AV.p (PV.list n0 c1))), (5, (AV.app 41 n2 1 c3)), (6, (AV.app 52 n4 1 c5)), (8, (AV.p (PV.int IntKind.i64 i6))), (10, (AV.p (PV.int IntKind.i64 i7)))]), (mm 176 [(41, (Bk.buf n8)), (52, (Bk.buf n9))])⟩
def XLwLineWithin_2a (_y : Unit) : Ext × Q := (Ext.ret, ⟨(tm 176 [(4, (AV.p (PV.bool false)))]), (mm 176 [])⟩)
def ILwLineWithin_2a (_q : Ext × S) : Unit := ()
def XLwLineWithin_2b (_y : Unit) : Ext × Q := (Ext.normal, ⟨(tm 176 []), (mm 176 [])⟩)
def ILwLineWithin_2b (_q : Ext × S) : Unit := ()
def XLwLineWithin_2c (y : Nat × Nat) : Ext × Q := (Ext.normal, ⟨(tm 176 []), (mm 176 [(41, (Bk.buf y.1)), (52, (Bk.buf y.2))])⟩)
def ILwLineWithin_2c (q : Ext × S) : Nat × Nat := ((pB_buf0 (avM q.2 41)), (pB_buf0 (avM q.2 52)))
abbrev YLwLineWithin_2 : Type := (Unit) ⊕ ((Unit) ⊕ ((Nat × Nat)))
def XLLwLineWithin_2 : XL YLwLineWithin_2 := .more XLwLineWithin_2a (.more XLwLineWithin_2b (.one XLwLineWithin_2c))
def ILwLineWithin_2 (q : Ext × S) : YLwLineWithin_2 := bif (cE q.1 == 2) then (Sum.inl (ILwLineWithin_2a q)) else bif (cB (avM q.2 41) == 0) then (Sum.inr (Sum.inl (ILwLineWithin_2b q))) else (Sum.inr (Sum.inr (ILwLineWithin_2c q)))
theorem XILwLineWithin_2a (y : Unit) : ILwLineWithin_2 (xe (XLwLineWithin_2a y)) = (Sum.inl y) := rfl
theorem XILwLineWithin_2b (y : Unit) : ILwLineWithin_2 (xe (XLwLineWithin_2b y)) = (Sum.inr (Sum.inl y)) := rfl
theorem XILwLineWithin_2c (y : Nat × Nat) : ILwLineWithin_2 (xe (XLwLineWithin_2c y)) = (Sum.inr (Sum.inr y)) := rfl
theorem XILwLineWithin_2 (y : YLwLineWithin_2) : ILwLineWithin_2 (xe (XLLwLineWithin_2.fn y)) = y := (match y with | .inl y => XILwLineWithin_2a y | .inr y => (match y with | .inl y => XILwLineWithin_2b y | .inr y => XILwLineWithin_2c y))
noncomputable abbrev LLwLineWithin_2 : Q → Option YLwLineWithin_2 := lpO env a3.body 2 XLLwLineWithin_2
noncomputable abbrev RLwLineWithin_2 : Q → Option (Ext × S) := lpR env a3.body 2
theorem LLwLineWithin_2a_of {s : Q} {y : Unit} (h : RLwLineWithin_2 s = exO (XLwLineWithin_2a y)) : LLwLineWithin_2 s = some (Sum.inl y) := lpO_of ILwLineWithin_2 XILwLineWithin_2 (y := (Sum.inl y)) h
theorem LLwLineWithin_2b_of {s : Q} {y : Unit} (h : RLwLineWithin_2 s = exO (XLwLineWithin_2b y)) : LLwLineWithin_2 s = some (Sum.inr (Sum.inl y)) := lpO_of ILwLineWithin_2 XILwLineWithin_2 (y := (Sum.inr (Sum.inl y))) h
theorem LLwLineWithin_2c_of {s : Q} {y : Nat × Nat} (h : RLwLineWithin_2 s = exO (XLwLineWithin_2c y)) : LLwLineWithin_2 s = some (Sum.inr (Sum.inr y)) := lpO_of ILwLineWithin_2 XILwLineWithin_2 (y := (Sum.inr (Sum.inr y))) h
def TLwLineWithin_1000081a (n0 : Nat) (c1 : List PV) (i2 : Int) : Q := ⟨(tm 176 [(0, (AV.p (PV.list n0 c1))), (1, (AV.p (PV.int IntKind.i64 i2)))]), (mm 176 [])⟩
def XLwLineWithin_1000081a (_y : Unit) : Ext × Q := (Ext.ret, ⟨(tm 176 [(4, (AV.p (PV.bool true)))]), (mm 176 [])⟩)
def ILwLineWithin_1000081a (_q : Ext × S) : Unit := ()
def XLwLineWithin_1000081b (y : Nat × List PV × Int) : Ext × Q := (Ext.normal, ⟨(tm 176 [(0, (AV.p (PV.list y.1 y.2.1))), (1, (AV.p (PV.int IntKind.i64 y.2.2)))]), (mm 176 [])⟩)
def ILwLineWithin_1000081b (q : Ext × S) : Nat × List PV × Int := ((pP_list0 (pA_p (avT q.2 0))), (pP_list1 (pA_p (avT q.2 0))), (pP_int1 (pA_p (avT q.2 1))))
abbrev YLwLineWithin_1000081 : Type := (Unit) ⊕ ((Nat × List PV × Int))
def XLLwLineWithin_1000081 : XL YLwLineWithin_1000081 := .more XLwLineWithin_1000081a (.one XLwLineWithin_1000081b)
def ILwLineWithin_1000081 (q : Ext × S) : YLwLineWithin_1000081 := bif (cE q.1 == 2) then (Sum.inl (ILwLineWithin_1000081a q)) else (Sum.inr (ILwLineWithin_1000081b q))
theorem XILwLineWithin_1000081a (y : Unit) : ILwLineWithin_1000081 (xe (XLwLineWithin_1000081a y)) = (Sum.inl y) := rfl
theorem XILwLineWithin_1000081b (y : Nat × List PV × Int) : ILwLineWithin_1000081 (xe (XLwLineWithin_1000081b y)) = (Sum.inr y) := rfl
theorem XILwLineWithin_1000081 (y : YLwLineWithin_1000081) : ILwLineWithin_1000081 (xe (XLLwLineWithin_1000081.fn y)) = y := (match y with | .inl y => XILwLineWithin_1000081a y | .inr y => XILwLineWithin_1000081b y)
noncomputable abbrev LLwLineWithin_1000081 : Q → Option YLwLineWithin_1000081 := lpO env a3.body 1000081 XLLwLineWithin_1000081
noncomputable abbrev RLwLineWithin_1000081 : Q → Option (Ext × S) := lpR env a3.body 1000081
theorem LLwLineWithin_1000081a_of {s : Q} {y : Unit} (h : RLwLineWithin_1000081 s = exO (XLwLineWithin_1000081a y)) : LLwLineWithin_1000081 s = some (Sum.inl y) := lpO_of ILwLineWithin_1000081 XILwLineWithin_1000081 (y := (Sum.inl y)) h
theorem LLwLineWithin_1000081b_of {s : Q} {y : Nat × List PV × Int} (h : RLwLineWithin_1000081 s = exO (XLwLineWithin_1000081b y)) : LLwLineWithin_1000081 s = some (Sum.inr y) := lpO_of ILwLineWithin_1000081 XILwLineWithin_1000081 (y := (Sum.inr y)) h
def TLwLineWithin_1000057a (n0 : Nat) (c1 : List PV) (i2 : Int) (i3 : Int) : Q := ⟨(tm 176 [(0, (AV.p (PV.list n0 c1))), (5, AV.nilS), (6, AV.nilS), (8, (AV.p (PV.int IntKind.i64 i2))), (9, (AV.p (PV.int IntKind.i64 i3)))]), (mm 176 [])⟩
def TLwLineWithin_1000057b (n0 : Nat) (c1 : List PV) (n2 : Nat) (c3 : List PV) (n4 : Nat) (c5 : List PV) (i6 : Int) (i7 : Int) (n8 : Nat) (n9 : Nat) : Q := ⟨(tm 176 [(0, (AV.p (PV.list n0 c1))), (5, (AV.app 41 n2 1 c3)), (6, (AV.app 52 n4 1 c5)), (8, (AV.p (PV.int IntKind.i64 i6))), (9, (AV.p (PV.int IntKind.i64 i7)))]), (mm 176 [(41, (Bk.buf n8)), (52, (Bk.buf n9))])⟩
def XLwLineWithin_1000057a (_y : Unit) : Ext × Q := (Ext.ret, ⟨(tm 176 [(4, (AV.p (PV.bool false)))]), (mm 176 [])⟩)
def ILwLineWithin_1000057a (_q : Ext × S) : Unit := ()
def XLwLineWithin_1000057b (y : Nat × List PV × Int) : Ext × Q := (Ext.normal, ⟨(tm 176 [(0, (AV.p (PV.list y.1 y.2.1))), (5, AV.nilS), (6, AV.nilS), (8, (AV.p (PV.int IntKind.i64 y.2.2)))]), (mm 176 [])⟩)
def ILwLineWithin_1000057b (q : Ext × S) : Nat × List PV × Int := ((pP_list0 (pA_p (avT q.2 0))), (pP_list1 (pA_p (avT q.2 0))), (pP_int1 (pA_p (avT q.2 8))))
def XLwLineWithin_1000057c (y : Nat × List PV × Nat × List PV × Nat × List PV × Int × Nat × Nat) : Ext × Q := (Ext.normal, ⟨(tm 176 [(0, (AV.p (PV.list y.1 y.2.1))), (5, (AV.app 41 y.2.2.1 1 y.2.2.2.1)), (6, (AV.app 52 y.2.2.2.2.1 1 y.2.2.2.2.2.1)), (8, (AV.p (PV.int IntKind.i64 y.2.2.2.2.2.2.1)))]), (mm 176 [(41, (Bk.buf y.2.2.2.2.2.2.2.1)), (52, (Bk.buf y.2.2.2.2.2.2.2.2))])⟩)
def ILwLineWithin_1000057c (q : Ext × S) : Nat × List PV × Nat × List PV × Nat × List PV × Int × Nat × Nat := ((pP_list0 (pA_p (avT q.2 0))), (pP_list1 (pA_p (avT q.2 0))), (pA_app1 (avT q.2 5)), (pA_app3 (avT q.2 5)), (pA_app1 (avT q.2 6)), (pA_app3 (avT q.2 6)), (pP_int1 (pA_p (avT q.2 8))), (pB_buf0 (avM q.2 41)), (pB_buf0 (avM q.2 52)))
abbrev YLwLineWithin_1000057 : Type := (Unit) ⊕ ((Nat × List PV × Int) ⊕ ((Nat × List PV × Nat × List PV × Nat × List PV × Int × Nat × Nat)))
def XLLwLineWithin_1000057 : XL YLwLineWithin_1000057 := .more XLwLineWithin_1000057a (.more XLwLineWithin_1000057b (.one XLwLineWithin_1000057c))
def ILwLineWithin_1000057 (q : Ext × S) : YLwLineWithin_1000057 := bif (cE q.1 == 2) then (Sum.inl (ILwLineWithin_1000057a q)) else bif (cA (avT q.2 5) == 1) then (Sum.inr (Sum.inl (ILwLineWithin_1000057b q))) else (Sum.inr (Sum.inr (ILwLineWithin_1000057c q)))
theorem XILwLineWithin_1000057a (y : Unit) : ILwLineWithin_1000057 (xe (XLwLineWithin_1000057a y)) = (Sum.inl y) := rfl
theorem XILwLineWithin_1000057b (y : Nat × List PV × Int) : ILwLineWithin_1000057 (xe (XLwLineWithin_1000057b y)) = (Sum.inr (Sum.inl y)) := rfl
theorem XILwLineWithin_1000057c (y : Nat × List PV × Nat × List PV × Nat × List PV × Int × Nat × Nat) : ILwLineWithin_1000057 (xe (XLwLineWithin_1000057c y)) = (Sum.inr (Sum.inr y)) := rfl
theorem XILwLineWithin_1000057 (y : YLwLineWithin_1000057) : ILwLineWithin_1000057 (xe (XLLwLineWithin_1000057.fn y)) = y := (match y with | .inl y => XILwLineWithin_1000057a y | .inr y => (match y with | .inl y => XILwLineWithin_1000057b y | .inr y => XILwLineWithin_1000057c y))
noncomputable abbrev LLwLineWithin_1000057 : Q → Option YLwLineWithin_1000057 := lpO env a3.body 1000057 XLLwLineWithin_1000057
noncomputable abbrev RLwLineWithin_1000057 : Q → Option (Ext × S) := lpR env a3.body 1000057
theorem LLwLineWithin_1000057a_of {s : Q} {y : Unit} (h : RLwLineWithin_1000057 s = exO (XLwLineWithin_1000057a y)) : LLwLineWithin_1000057 s = some (Sum.inl y) := lpO_of ILwLineWithin_1000057 XILwLineWithin_1000057 (y := (Sum.inl y)) h
theorem LLwLineWithin_1000057b_of {s : Q} {y : Nat × List PV × Int} (h : RLwLineWithin_1000057 s = exO (XLwLineWithin_1000057b y)) : LLwLineWithin_1000057 s = some (Sum.inr (Sum.inl y)) := lpO_of ILwLineWithin_1000057 XILwLineWithin_1000057 (y := (Sum.inr (Sum.inl y))) h
theorem LLwLineWithin_1000057c_of {s : Q} {y : Nat × List PV × Nat × List PV × Nat × List PV × Int × Nat × Nat} (h : RLwLineWithin_1000057 s = exO (XLwLineWithin_1000057c y)) : LLwLineWithin_1000057 s = some (Sum.inr (Sum.inr y)) := lpO_of ILwLineWithin_1000057 XILwLineWithin_1000057 (y := (Sum.inr (Sum.inr y))) h
def TLwLineWithin_1000040a (n0 : Nat) (c1 : List PV) (i2 : Int) (i3 : Int) : Q := ⟨(tm 176 [(0, (AV.p (PV.list n0 c1))), (5, AV.nilS), (6, AV.nilS), (8, (AV.p (PV.int IntKind.i64 i2))), (10, (AV.p (PV.int IntKind.i64 i3)))]), (mm 176 [])⟩
def TLwLineWithin_1000040b (n0 : Nat) (c1 : List PV) (n2 : Nat) (c3 : List PV) (n4 : Nat) (c5 : List PV) (i6 : Int) (i7 : Int) (n8 : Nat) (n9 : Nat) : Q := ⟨(tm 176 [(0, (AV.p (PV.list n0 c1))), (5, (AV.app 41 n2 1 c3)), (6, (AV.app 52 n4 1 c5)), (8, (AV.p (PV.int IntKind.i64 i6))), (10, (AV.p (PV.int IntKind.i64 i7)))]), (mm 176 [(41, (Bk.buf n8)), (52, (Bk.buf n9))])⟩
def XLwLineWithin_1000040a (_y : Unit) : Ext × Q := (Ext.ret, ⟨(tm 176 [(4, (AV.p (PV.bool false)))]), (mm 176 [])⟩)
def ILwLineWithin_1000040a (_q : Ext × S) : Unit := ()
def XLwLineWithin_1000040b (y : Nat × List PV × Int × Int) : Ext × Q := (Ext.normal, ⟨(tm 176 [(0, (AV.p (PV.list y.1 y.2.1))), (5, AV.nilS), (6, AV.nilS), (8, (AV.p (PV.int IntKind.i64 y.2.2.1))), (10, (AV.p (PV.int IntKind.i64 y.2.2.2)))]), (mm 176 [])⟩)
def ILwLineWithin_1000040b (q : Ext × S) : Nat × List PV × Int × Int := ((pP_list0 (pA_p (avT q.2 0))), (pP_list1 (pA_p (avT q.2 0))), (pP_int1 (pA_p (avT q.2 8))), (pP_int1 (pA_p (avT q.2 10))))
def XLwLineWithin_1000040c (y : Nat × List PV × Nat × List PV × Nat × List PV × Int × Int × Nat × Nat) : Ext × Q := (Ext.normal, ⟨(tm 176 [(0, (AV.p (PV.list y.1 y.2.1))), (5, (AV.app 41 y.2.2.1 1 y.2.2.2.1)), (6, (AV.app 52 y.2.2.2.2.1 1 y.2.2.2.2.2.1)), (8, (AV.p (PV.int IntKind.i64 y.2.2.2.2.2.2.1))), (10, (AV.p (PV.int IntKind.i64 y.2.2.2.2.2.2.2.1)))]), (mm 176 [(41, (Bk.buf y.2.2.2.2.2.2.2.2.1)), (52, (Bk.buf y.2.2.2.2.2.2.2.2.2))])⟩)
def ILwLineWithin_1000040c (q : Ext × S) : Nat × List PV × Nat × List PV × Nat × List PV × Int × Int × Nat × Nat := ((pP_list0 (pA_p (avT q.2 0))), (pP_list1 (pA_p (avT q.2 0))), (pA_app1 (avT q.2 5)), (pA_app3 (avT q.2 5)), (pA_app1 (avT q.2 6)), (pA_app3 (avT q.2 6)), (pP_int1 (pA_p (avT q.2 8))), (pP_int1 (pA_p (avT q.2 10))), (pB_buf0 (avM q.2 41)), (pB_buf0 (avM q.2 52)))
abbrev YLwLineWithin_1000040 : Type := (Unit) ⊕ ((Nat × List PV × Int × Int) ⊕ ((Nat × List PV × Nat × List PV × Nat × List PV × Int × Int × Nat × Nat)))
def XLLwLineWithin_1000040 : XL YLwLineWithin_1000040 := .more XLwLineWithin_1000040a (.more XLwLineWithin_1000040b (.one XLwLineWithin_1000040c))
def ILwLineWithin_1000040 (q : Ext × S) : YLwLineWithin_1000040 := bif (cE q.1 == 2) then (Sum.inl (ILwLineWithin_1000040a q)) else bif (cA (avT q.2 5) == 1) then (Sum.inr (Sum.inl (ILwLineWithin_1000040b q))) else (Sum.inr (Sum.inr (ILwLineWithin_1000040c q)))
theorem XILwLineWithin_1000040a (y : Unit) : ILwLineWithin_1000040 (xe (XLwLineWithin_1000040a y)) = (Sum.inl y) := rfl
theorem XILwLineWithin_1000040b (y : Nat × List PV × Int × Int) : ILwLineWithin_1000040 (xe (XLwLineWithin_1000040b y)) = (Sum.inr (Sum.inl y)) := rfl
theorem XILwLineWithin_1000040c (y : Nat × List PV × Nat × List PV × Nat × List PV × Int × Int × Nat × Nat) : ILwLineWithin_1000040 (xe (XLwLineWithin_1000040c y)) = (Sum.inr (Sum.inr y)) := rfl
theorem XILwLineWithin_1000040 (y : YLwLineWithin_1000040) : ILwLineWithin_1000040 (xe (XLLwLineWithin_1000040.fn y)) = y := (match y with | .inl y => XILwLineWithin_1000040a y | .inr y => (match y with | .inl y => XILwLineWithin_1000040b y | .inr y => XILwLineWithin_1000040c y))
noncomputable abbrev LLwLineWithin_1000040 : Q → Option YLwLineWithin_1000040 := lpO env a3.body 1000040 XLLwLineWithin_1000040
noncomputable abbrev RLwLineWithin_1000040 : Q → Option (Ext × S) := lpR env a3.body 1000040
theorem LLwLineWithin_1000040a_of {s : Q} {y : Unit} (h : RLwLineWithin_1000040 s = exO (XLwLineWithin_1000040a y)) : LLwLineWithin_1000040 s = some (Sum.inl y) := lpO_of ILwLineWithin_1000040 XILwLineWithin_1000040 (y := (Sum.inl y)) h
theorem LLwLineWithin_1000040b_of {s : Q} {y : Nat × List PV × Int × Int} (h : RLwLineWithin_1000040 s = exO (XLwLineWithin_1000040b y)) : LLwLineWithin_1000040 s = some (Sum.inr (Sum.inl y)) := lpO_of ILwLineWithin_1000040 XILwLineWithin_1000040 (y := (Sum.inr (Sum.inl y))) h
theorem LLwLineWithin_1000040c_of {s : Q} {y : Nat × List PV × Nat × List PV × Nat × List PV × Int × Int × Nat × Nat} (h : RLwLineWithin_1000040 s = exO (XLwLineWithin_1000040c y)) : LLwLineWithin_1000040 s = some (Sum.inr (Sum.inr y)) := lpO_of ILwLineWithin_1000040 XILwLineWithin_1000040 (y := (Sum.inr (Sum.inr y))) h
def TLwLineWithin_1000035a (n0 : Nat) (c1 : List PV) (i2 : Int) (i3 : Int) (i4 : Int) (i5 : Int) (i6 : Int) : Q := ⟨(tm 176 [(0, (AV.p (PV.list n0 c1))), (5, AV.nilS), (6, AV.nilS), (8, (AV.p (PV.int IntKind.i64 i2))), (10, (AV.p (PV.int IntKind.i64 i3))), (11, (AV.loc 11 0)), (12, (AV.p (PV.int IntKind.i64 i4)))]), (mm 176 [(11, (Bk.pcs true [(PV.int IntKind.i64 i5), (PV.int IntKind.i64 i6)]))])⟩
def TLwLineWithin_1000035b (n0 : Nat) (c1 : List PV) (n2 : Nat) (c3 : List PV) (n4 : Nat) (c5 : List PV) (i6 : Int) (i7 : Int) (i8 : Int) (i9 : Int) (i10 : Int) (n11 : Nat) (n12 : Nat) : Q := ⟨(tm 176 [(0, (AV.p (PV.list n0 c1))), (5, (AV.app 41 n2 1 c3)), (6, (AV.app 52 n4 1 c5)), (8, (AV.p (PV.int IntKind.i64 i6))), (10, (AV.p (PV.int IntKind.i64 i7))), (11, (AV.loc 11 0)), (12, (AV.p (PV.int IntKind.i64 i8)))]), (mm 176 [(11, (Bk.pcs true [(PV.int IntKind.i64 i9), (PV.int IntKind.i64 i10)])), (41, (Bk.buf n11)), (52, (Bk.buf n12))])⟩
def XLwLineWithin_1000035a (_y : Unit) : Ext × Q := (Ext.ret, ⟨(tm 176 [(4, (AV.p (PV.bool false)))]), (mm 176 [])⟩)
def ILwLineWithin_1000035a (_q : Ext × S) : Unit := ()
def XLwLineWithin_1000035b (y : Nat × List PV × Int × Int × Int × Int) : Ext × Q := (Ext.normal, ⟨(tm 176 [(0, (AV.p (PV.list y.1 y.2.1))), (5, AV.nilS), (6, AV.nilS), (8, (AV.p (PV.int IntKind.i64 y.2.2.1))), (10, (AV.p (PV.int IntKind.i64 y.2.2.2.1))), (11, (AV.loc 11 0))]), (mm 176 [(11, (Bk.pcs true [(PV.int IntKind.i64 y.2.2.2.2.1), (PV.int IntKind.i64 y.2.2.2.2.2)]))])⟩)
def ILwLineWithin_1000035b (q : Ext × S) : Nat × List PV × Int × Int × Int × Int := ((pP_list0 (pA_p (avT q.2 0))), (pP_list1 (pA_p (avT q.2 0))), (pP_int1 (pA_p (avT q.2 8))), (pP_int1 (pA_p (avT q.2 10))), (pP_int1 (hdP (pB_pcs1 (avM q.2 11)))), (pP_int1 (hdP (List.tail (pB_pcs1 (avM q.2 11))))))
def XLwLineWithin_1000035c (y : Nat × List PV × Nat × List PV × Nat × List PV × Int × Int × Int × Int × Nat × Nat) : Ext × Q := (Ext.normal, ⟨(tm 176 [(0, (AV.p (PV.list y.1 y.2.1))), (5, (AV.app 41 y.2.2.1 1 y.2.2.2.1)), (6, (AV.app 52 y.2.2.2.2.1 1 y.2.2.2.2.2.1)), (8, (AV.p (PV.int IntKind.i64 y.2.2.2.2.2.2.1))), (10, (AV.p (PV.int IntKind.i64 y.2.2.2.2.2.2.2.1))), (11, (AV.loc 11 0))]), (mm 176 [(11, (Bk.pcs true [(PV.int IntKind.i64 y.2.2.2.2.2.2.2.2.1), (PV.int IntKind.i64 y.2.2.2.2.2.2.2.2.2.1)])), (41, (Bk.buf y.2.2.2.2.2.2.2.2.2.2.1)), (52, (Bk.buf y.2.2.2.2.2.2.2.2.2.2.2))])⟩)
def ILwLineWithin_1000035c (q : Ext × S) : Nat × List PV × Nat × List PV × Nat × List PV × Int × Int × Int × Int × Nat × Nat := ((pP_list0 (pA_p (avT q.2 0))), (pP_list1 (pA_p (avT q.2 0))), (pA_app1 (avT q.2 5)), (pA_app3 (avT q.2 5)), (pA_app1 (avT q.2 6)), (pA_app3 (avT q.2 6)), (pP_int1 (pA_p (avT q.2 8))), (pP_int1 (pA_p (avT q.2 10))), (pP_int1 (hdP (pB_pcs1 (avM q.2 11)))), (pP_int1 (hdP (List.tail (pB_pcs1 (avM q.2 11))))), (pB_buf0 (avM q.2 41)), (pB_buf0 (avM q.2 52)))
abbrev YLwLineWithin_1000035 : Type := (Unit) ⊕ ((Nat × List PV × Int × Int × Int × Int) ⊕ ((Nat × List PV × Nat × List PV × Nat × List PV × Int × Int × Int × Int × Nat × Nat)))
def XLLwLineWithin_1000035 : XL YLwLineWithin_1000035 := .more XLwLineWithin_1000035a (.more XLwLineWithin_1000035b (.one XLwLineWithin_1000035c))
def ILwLineWithin_1000035 (q : Ext × S) : YLwLineWithin_1000035 := bif (cE q.1 == 2) then (Sum.inl (ILwLineWithin_1000035a q)) else bif (cA (avT q.2 5) == 1) then (Sum.inr (Sum.inl (ILwLineWithin_1000035b q))) else (Sum.inr (Sum.inr (ILwLineWithin_1000035c q)))
theorem XILwLineWithin_1000035a (y : Unit) : ILwLineWithin_1000035 (xe (XLwLineWithin_1000035a y)) = (Sum.inl y) := rfl
theorem XILwLineWithin_1000035b (y : Nat × List PV × Int × Int × Int × Int) : ILwLineWithin_1000035 (xe (XLwLineWithin_1000035b y)) = (Sum.inr (Sum.inl y)) := rfl
theorem XILwLineWithin_1000035c (y : Nat × List PV × Nat × List PV × Nat × List PV × Int × Int × Int × Int × Nat × Nat) : ILwLineWithin_1000035 (xe (XLwLineWithin_1000035c y)) = (Sum.inr (Sum.inr y)) := rfl
theorem XILwLineWithin_1000035 (y : YLwLineWithin_1000035) : ILwLineWithin_1000035 (xe (XLLwLineWithin_1000035.fn y)) = y := (match y with | .inl y => XILwLineWithin_1000035a y | .inr y => (match y with | .inl y => XILwLineWithin_1000035b y | .inr y => XILwLineWithin_1000035c y))
noncomputable abbrev LLwLineWithin_1000035 : Q → Option YLwLineWithin_1000035 := lpO env a3.body 1000035 XLLwLineWithin_1000035
noncomputable abbrev RLwLineWithin_1000035 : Q → Option (Ext × S) := lpR env a3.body 1000035
theorem LLwLineWithin_1000035a_of {s : Q} {y : Unit} (h : RLwLineWithin_1000035 s = exO (XLwLineWithin_1000035a y)) : LLwLineWithin_1000035 s = some (Sum.inl y) := lpO_of ILwLineWithin_1000035 XILwLineWithin_1000035 (y := (Sum.inl y)) h
theorem LLwLineWithin_1000035b_of {s : Q} {y : Nat × List PV × Int × Int × Int × Int} (h : RLwLineWithin_1000035 s = exO (XLwLineWithin_1000035b y)) : LLwLineWithin_1000035 s = some (Sum.inr (Sum.inl y)) := lpO_of ILwLineWithin_1000035 XILwLineWithin_1000035 (y := (Sum.inr (Sum.inl y))) h
theorem LLwLineWithin_1000035c_of {s : Q} {y : Nat × List PV × Nat × List PV × Nat × List PV × Int × Int × Int × Int × Nat × Nat} (h : RLwLineWithin_1000035 s = exO (XLwLineWithin_1000035c y)) : LLwLineWithin_1000035 s = some (Sum.inr (Sum.inr y)) := lpO_of ILwLineWithin_1000035 XILwLineWithin_1000035 (y := (Sum.inr (Sum.inr y))) h
def TLwLineWithin_1000028a (n0 : Nat) (c1 : List PV) (i2 : Int) (i3 : Int) (i4 : Int) (i5 : Int) : Q := ⟨(tm 176 [(0, (AV.p (PV.list n0 c1))), (5, AV.nilS), (6, AV.nilS), (8, (AV.p (PV.int IntKind.i64 i2))), (10, (AV.p (PV.int IntKind.i64 i3))), (11, (AV.loc 11 0))]), (mm 176 [(11, (Bk.pcs true [(PV.int IntKind.i64 i4), (PV.int IntKind.i64 i5)]))])⟩
def TLwLineWithin_1000028b (n0 : Nat) (c1 : List PV) (n2 : Nat) (c3 : List PV) (n4 : Nat) (c5 : List PV) (i6 : Int) (i7 : Int) (i8 : Int) (i9 : Int) (n10 : Nat) (n11 : Nat) : Q := ⟨(tm 176 [(0, (AV.p (PV.list n0 c1))), (5, (AV.app 41 n2 1 c3)), (6, (AV.app 52 n4 1 c5)), (8, (AV.p (PV.int IntKind.i64 i6))), (10, (AV.p (PV.int IntKind.i64 i7))), (11, (AV.loc 11 0))]), (mm 176 [(11, (Bk.pcs true [(PV.int IntKind.i64 i8), (PV.int IntKind.i64 i9)])), (41, (Bk.buf n10)), (52, (Bk.buf n11))])⟩
def XLwLineWithin_1000028a (y : Nat × List PV × Int × Int × Int × Int) : Ext × Q := (Ext.normal, ⟨(tm 176 [(0, (AV.p (PV.list y.1 y.2.1))), (5, AV.nilS), (6, AV.nilS), (8, (AV.p (PV.int IntKind.i64 y.2.2.1))), (10, (AV.p (PV.int IntKind.i64 y.2.2.2.1))), (11, (AV.loc 11 0))]), (mm 176 [(11, (Bk.pcs true [(PV.int IntKind.i64 y.2.2.2.2.1), (PV.int IntKind.i64 y.2.2.2.2.2)]))])⟩)
def ILwLineWithin_1000028a (q : Ext × S) : Nat × List PV × Int × Int × Int × Int := ((pP_list0 (pA_p (avT q.2 0))), (pP_list1 (pA_p (avT q.2 0))), (pP_int1 (pA_p (avT q.2 8))), (pP_int1 (pA_p (avT q.2 10))), (pP_int1 (hdP (pB_pcs1 (avM q.2 11)))), (pP_int1 (hdP (List.tail (pB_pcs1 (avM q.2 11))))))
def XLwLineWithin_1000028b (y : Nat × List PV × Nat × List PV × Nat × List PV × Int × Int × Int × Int × Nat × Nat) : Ext × Q := (Ext.normal, ⟨(tm 176 [(0, (AV.p (PV.list y.1 y.2.1))), (5, (AV.app 41 y.2.2.1 1 y.2.2.2.1)), (6, (AV.app 52 y.2.2.2.2.1 1 y.2.2.2.2.2.1)), (8, (AV.p (PV.int IntKind.i64 y.2.2.2.2.2.2.1))), (10, (AV.p (PV.int IntKind.i64 y.2.2.2.2.2.2.2.1))), (11, (AV.loc 11 0))]), (mm 176 [(11, (Bk.pcs true [(PV.int IntKind.i64 y.2.2.2.2.2.2.2.2.1), (PV.int IntKind.i64 y.2.2.2.2.2.2.2.2.2.1)])), (41, (Bk.buf y.2.2.2.2.2.2.2.2.2.2.1)), (52, (Bk.buf y.2.2.2.2.2.2.2.2.2.2.2))])⟩)
def ILwLineWithin_1000028b (q : Ext × S) : Nat × List PV × Nat × List PV × Nat × List PV × Int × Int × Int × Int × Nat × Nat := ((pP_list0 (pA_p (avT q.2 0))), (pP_list1 (pA_p (avT q.2 0))), (pA_app1 (avT q.2 5)), (pA_app3 (avT q.2 5)), (pA_app1 (avT q.2 6)), (pA_app3 (avT q.2 6)), (pP_int1 (pA_p (avT q.2 8))), (pP_int1 (pA_p (avT q.2 10))), (pP_int1 (hdP (pB_pcs1 (avM q.2 11)))), (pP_int1 (hdP (List.tail (pB_pcs1 (avM q.2 11))))), (pB_buf0 (avM q.2 41)), (pB_buf0 (avM q.2 52)))
def XLwLineWithin_1000028c (_y : Unit) : Ext × Q := (Ext.ret, ⟨(tm 176 [(4, (AV.p (PV.bool false)))]), (mm 176 [])⟩)
def ILwLineWithin_1000028c (_q : Ext × S) : Unit := ()
abbrev YLwLineWithin_1000028 : Type := (Nat × List PV × Int × Int × Int × Int) ⊕ ((Nat × List PV × Nat × List PV × Nat × List PV × Int × Int × Int × Int × Nat × Nat) ⊕ ((Unit)))
def XLLwLineWithin_1000028 : XL YLwLineWithin_1000028 := .more XLwLineWithin_1000028a (.more XLwLineWithin_1000028b (.one XLwLineWithin_1000028c))
def ILwLineWithin_1000028 (q : Ext × S) : YLwLineWithin_1000028 := bif (cA (avT q.2 5) == 1) && (cE q.1 == 0) then (Sum.inl (ILwLineWithin_1000028a q)) else bif (cE q.1 == 0) then (Sum.inr (Sum.inl (ILwLineWithin_1000028b q))) else (Sum.inr (Sum.inr (ILwLineWithin_1000028c q)))
theorem XILwLineWithin_1000028a (y : Nat × List PV × Int × Int × Int × Int) : ILwLineWithin_1000028 (xe (XLwLineWithin_1000028a y)) = (Sum.inl y) := rfl
theorem XILwLineWithin_1000028b (y : Nat × List PV × Nat × List PV × Nat × List PV × Int × Int × Int × Int × Nat × Nat) : ILwLineWithin_1000028 (xe (XLwLineWithin_1000028b y)) = (Sum.inr (Sum.inl y)) := rfl
theorem XILwLineWithin_1000028c (y : Unit) : ILwLineWithin_1000028 (xe (XLwLineWithin_1000028c y)) = (Sum.inr (Sum.inr y)) := rfl
theorem XILwLineWithin_1000028 (y : YLwLineWithin_1000028) : ILwLineWithin_1000028 (xe (XLLwLineWithin_1000028.fn y)) = y := (match y with | .inl y => XILwLineWithin_1000028a y | .inr y => (match y with | .inl y => XILwLineWithin_1000028b y | .inr y => XILwLineWithin_1000028c y))
noncomputable abbrev LLwLineWithin_1000028 : Q → Option YLwLineWithin_1000028 := lpO env a3.body 1000028 XLLwLineWithin_1000028
noncomputable abbrev RLwLineWithin_1000028 : Q → Option (Ext × S) := lpR env a3.body 1000028
theorem LLwLineWithin_1000028a_of {s : Q} {y : Nat × List PV × Int × Int × Int × Int} (h : RLwLineWithin_1000028 s = exO (XLwLineWithin_1000028a y)) : LLwLineWithin_1000028 s = some (Sum.inl y) := lpO_of ILwLineWithin_1000028 XILwLineWithin_1000028 (y := (Sum.inl y)) h
theorem LLwLineWithin_1000028b_of {s : Q} {y : Nat × List PV × Nat × List PV × Nat × List PV × Int × Int × Int × Int × Nat × Nat} (h : RLwLineWithin_1000028 s = exO (XLwLineWithin_1000028b y)) : LLwLineWithin_1000028 s = some (Sum.inr (Sum.inl y)) := lpO_of ILwLineWithin_1000028 XILwLineWithin_1000028 (y := (Sum.inr (Sum.inl y))) h
theorem LLwLineWithin_1000028c_of {s : Q} {y : Unit} (h : RLwLineWithin_1000028 s = exO (XLwLineWithin_1000028c y)) : LLwLineWithin_1000028 s = some (Sum.inr (Sum.inr y)) := lpO_of ILwLineWithin_1000028 XILwLineWithin_1000028 (y := (Sum.inr (Sum.inr y))) h
def TLwLineWithin_1000021a (n0 : Nat) (c1 : List PV) (i2 : Int) (i3 : Int) (i4 : Int) (i5 : Int) : Q := ⟨(tm 176 [(0, (AV.p (PV.list n0 c1))), (5, AV.nilS), (6, AV.nilS), (8, (AV.p (PV.int IntKind.i64 i2))), (10, (AV.p (PV.int IntKind.i64 i3))), (11, (AV.loc 11 0))]), (mm 176 [(11, (Bk.pcs true [(PV.int IntKind.i64 i4), (PV.int IntKind.i64 i5)]))])⟩
def TLwLineWithin_1000021b (n0 : Nat) (c1 : List PV) (n2 : Nat) (c3 : List PV) (n4 : Nat) (c5 : List PV) (i6 : Int) (i7 : Int) (i8 : Int) (i9 : Int) (n10 : Nat) (n11 : Nat) : Q := ⟨(tm 176 [(0, (AV.p (PV.list n0 c1))), (5, (AV.app 41 n2 1 c3)), (6, (AV.app 52 n4 1 c5)), (8, (AV.p (PV.int IntKind.i64 i6))), (10, (AV.p (PV.int IntKind.i64 i7))), (11, (AV.loc 11 0))]), (mm 176 [(11, (Bk.pcs true [(PV.int IntKind.i64 i8), (PV.int IntKind.i64 i9)])), (41, (Bk.buf n10)), (52, (Bk.buf n11))])⟩
def XLwLineWithin_1000021a (_y : Unit) : Ext × Q := (Ext.ret, ⟨(tm 176 [(4, (AV.p (PV.bool false)))]), (mm 176 [])⟩)
def ILwLineWithin_1000021a (_q : Ext × S) : Unit := ()
def XLwLineWithin_1000021b (y : Nat × List PV × Int × Int × Int × Int) : Ext × Q := (Ext.normal, ⟨(tm 176 [(0, (AV.p (PV.list y.1 y.2.1))), (5, AV.nilS), (6, AV.nilS), (8, (AV.p (PV.int IntKind.i64 y.2.2.1))), (10, (AV.p (PV.int IntKind.i64 y.2.2.2.1))), (11, (AV.loc 11 0))]), (mm 176 [(11, (Bk.pcs true [(PV.int IntKind.i64 y.2.2.2.2.1), (PV.int IntKind.i64 y.2.2.2.2.2)]))])⟩)
def ILwLineWithin_1000021b (q : Ext × S) : Nat × List PV × Int × Int × Int × Int := ((pP_list0 (pA_p (avT q.2 0))), (pP_list1 (pA_p (avT q.2 0))), (pP_int1 (pA_p (avT q.2 8))), (pP_int1 (pA_p (avT q.2 10))), (pP_int1 (hdP (pB_pcs1 (avM q.2 11)))), (pP_int1 (hdP (List.tail (pB_pcs1 (avM q.2 11))))))
def XLwLineWithin_1000021c (y : Nat × List PV × Nat × List PV × Nat × List PV × Int × Int × Int × Int × Nat × Nat) : Ext × Q := (Ext.normal, ⟨(tm 176 [(0, (AV.p (PV.list y.1 y.2.1))), (5, (AV.app 41 y.2.2.1 1 y.2.2.2.1)), (6, (AV.app 52 y.2.2.2.2.1 1 y.2.2.2.2.2.1)), (8, (AV.p (PV.int IntKind.i64 y.2.2.2.2.2.2.1))), (10, (AV.p (PV.int IntKind.i64 y.2.2.2.2.2.2.2.1))), (11, (AV.loc 11 0))]), (mm 176 [(11, (Bk.pcs true [(PV.int IntKind.i64 y.2.2.2.2.2.2.2.2.1), (PV.int IntKind.i64 y.2.2.2.2.2.2.2.2.2.1)])), (41, (Bk.buf y.2.2.2.2.2.2.2.2.2.2.1)), (52, (Bk.buf y.2.2.2.2.2.2.2.2.2.2.2))])⟩)
def ILwLineWithin_1000021c (q : Ext × S) : Nat × List PV × Nat × List PV × Nat × List PV × Int × Int × Int × Int × Nat × Nat := ((pP_list0 (pA_p (avT q.2 0))), (pP_list1 (pA_p (avT q.2 0))), (pA_app1 (avT q.2 5)), (pA_app3 (avT q.2 5)), (pA_app1 (avT q.2 6)), (pA_app3 (avT q.2 6)), (pP_int1 (pA_p (avT q.2 8))), (pP_int1 (pA_p (avT q.2 10))), (pP_int1 (hdP (pB_pcs1 (avM q.2 11)))), (pP_int1 (hdP (List.tail (pB_pcs1 (avM q.2 11))))), (pB_buf0 (avM q.2 41)), (pB_buf0 (avM q.2 52)))
abbrev YLwLineWithin_1000021 : Type := (Unit) ⊕ ((Nat × List PV × Int × Int × Int × Int) ⊕ ((Nat × List PV × Nat × List PV × Nat × List PV × Int × Int × Int × Int × Nat × Nat)))
def XLLwLineWithin_1000021 : XL YLwLineWithin_1000021 := .more XLwLineWithin_1000021a (.more XLwLineWithin_1000021b (.one XLwLineWithin_1000021c))
def ILwLineWithin_1000021 (q : Ext × S) : YLwLineWithin_1000021 := bif (cE q.1 == 2) then (Sum.inl (ILwLineWithin_1000021a q)) else bif (cA (avT q.2 5) == 1) then (Sum.inr (Sum.inl (ILwLineWithin_1000021b q))) else (Sum.inr (Sum.inr (ILwLineWithin_1000021c q)))
theorem XILwLineWithin_1000021a (y : Unit) : ILwLineWithin_1000021 (xe (XLwLineWithin_1000021a y)) = (Sum.inl y) := rfl
theorem XILwLineWithin_1000021b (y : Nat × List PV × Int × Int × Int × Int) : ILwLineWithin_1000021 (xe (XLwLineWithin_1000021b y)) = (Sum.inr (Sum.inl y)) := rfl
theorem XILwLineWithin_1000021c (y : Nat × List PV × Nat × List PV × Nat × List PV × Int × Int × Int × Int × Nat × Nat) : ILwLineWithin_1000021 (xe (XLwLineWithin_1000021c y)) = (Sum.inr (Sum.inr y)) := rfl
theorem XILwLineWithin_1000021 (y : YLwLineWithin_1000021) : ILwLineWithin_1000021 (xe (XLLwLineWithin_1000021.fn y)) = y := (match y with | .inl y => XILwLineWithin_1000021a y | .inr y => (match y with | .inl y => XILwLineWithin_1000021b y | .inr y => XILwLineWithin_1000021c y))
noncomputable abbrev LLwLineWithin_1000021 : Q → Option YLwLineWithin_1000021 := lpO env a3.body 1000021 XLLwLineWithin_1000021
noncomputable abbrev RLwLineWithin_1000021 : Q → Option (Ext × S) := lpR env a3.body 1000021
theorem LLwLineWithin_1000021a_of {s : Q} {y : Unit} (h : RLwLineWithin_1000021 s = exO (XLwLineWithin_1000021a y)) : LLwLineWithin_1000021 s = some (Sum.inl y) := lpO_of ILwLineWithin_1000021 XILwLineWithin_1000021 (y := (Sum.inl y)) h
theorem LLwLineWithin_1000021b_of {s : Q} {y : Nat × List PV × Int × Int × Int × Int} (h : RLwLineWithin_1000021 s = exO (XLwLineWithin_1000021b y)) : LLwLineWithin_1000021 s = some (Sum.inr (Sum.inl y)) := lpO_of ILwLineWithin_1000021 XILwLineWithin_1000021 (y := (Sum.inr (Sum.inl y))) h
theorem LLwLineWithin_1000021c_of {s : Q} {y : Nat × List PV × Nat × List PV × Nat × List PV × Int × Int × Int × Int × Nat × Nat} (h : RLwLineWithin_1000021 s = exO (XLwLineWithin_1000021c y)) : LLwLineWithin_1000021 s = some (Sum.inr (Sum.inr y)) := lpO_of ILwLineWithin_1000021 XILwLineWithin_1000021 (y := (Sum.inr (Sum.inr y))) h
theorem ULwLineWithin : uniq ((blocksOf a3.body).map (·.1)) = true := by kernel_rfl
def BLwLineWithin_0a (_F : FnT) (N : Q → Option (Ext × S)) (E : Ext × Q → Option (Ext × S)) (_L0 : Q → Option YLwLineWithin_0) (_L2 : Q → Option YLwLineWithin_2) (_L1000081 : Q → Option YLwLineWithin_1000081) (_L1000057 : Q → Option YLwLineWithin_1000057) (_L1000040 : Q → Option YLwLineWithin_1000040) (_L1000035 : Q → Option YLwLineWithin_1000035) (_L1000028 : Q → Option YLwLineWithin_1000028) (_L1000021 : Q → Option YLwLineWithin_1000021) (n0 : Nat) (c1 : List PV) (i2 : Int) : Option (Ext × S) :=
  bif (decide ((0 : Int) < (n0 : Int))) then
    bif (decide (((0 : Int) ≤ (0 : Int)) ∧ ((0 : Int) < (n0 : Int)))) then
      bindO (intC IntKind.i64 (c1[0]?)) fun x0 =>
      bif (decide (((0 : Int) ≤ (w64 ((w64 ((n0 : Int) - (1 : Int))) - (0 : Int)))) ∧ ((w64 ((w64 ((n0 : Int) - (1 : Int))) - (0 : Int))) < (n0 : Int)))) then
        bindO (intC IntKind.i64 (c1[((Int.toNat (w64 ((w64 ((n0 : Int) - (1 : Int))) - (0 : Int)))) * 1)]?)) fun x1 =>
        N (TLwLineWithin_0b n0 c1 i2 1 [(PV.int IntKind.i64 (w64 (i2 * x0)))] 1 [(PV.int IntKind.i64 x1)] (1 : Int) 1 1)
      else none
    else none
  else E (XLwLineWithin_0a (n0, c1))
theorem BLwLineWithin_0a_eq (F : FnT) (N : Q → Option (Ext × S)) (E : Ext × Q → Option (Ext × S)) (L0 : Q → Option YLwLineWithin_0) (L2 : Q → Option YLwLineWithin_2) (L1000081 : Q → Option YLwLineWithin_1000081) (L1000057 : Q → Option YLwLineWithin_1000057) (L1000040 : Q → Option YLwLineWithin_1000040) (L1000035 : Q → Option YLwLineWithin_1000035) (L1000028 : Q → Option YLwLineWithin_1000028) (L1000021 : Q → Option YLwLineWithin_1000021) (n0 : Nat) (c1 : List PV) (i2 : Int) : semB (callP F ELwLineWithin 20) s3 (loopT [⟨0, YLwLineWithin_0, L0, XLLwLineWithin_0⟩, ⟨2, YLwLineWithin_2, L2, XLLwLineWithin_2⟩, ⟨1000081, YLwLineWithin_1000081, L1000081, XLLwLineWithin_1000081⟩, ⟨1000057, YLwLineWithin_1000057, L1000057, XLLwLineWithin_1000057⟩, ⟨1000040, YLwLineWithin_1000040, L1000040, XLLwLineWithin_1000040⟩, ⟨1000035, YLwLineWithin_1000035, L1000035, XLLwLineWithin_1000035⟩, ⟨1000028, YLwLineWithin_1000028, L1000028, XLLwLineWithin_1000028⟩, ⟨1000021, YLwLineWithin_1000021, L1000021, XLLwLineWithin_1000021⟩]) 400 (blkIn a3.body 0) N E (TLwLineWithin_0a n0 c1 i2) = BLwLineWithin_0a F N E L0 L2 L1000081 L1000057 L1000040 L1000035 L1000028 L1000021 n0 c1 i2 := by kernel_rfl
theorem RLwLineWithin_0a_of  (n0 : Nat) (c1 : List PV) (i2 : Int) {r : Ext × S} (h : BLwLineWithin_0a (Fn env) RLwLineWithin_0 exO LLwLineWithin_0 LLwLineWithin_2 LLwLineWithin_1000081 LLwLineWithin_1000057 LLwLineWithin_1000040 LLwLineWithin_1000035 LLwLineWithin_1000028 LLwLineWithin_1000021 n0 c1 i2 = some r) : RLwLineWithin_0 (TLwLineWithin_0a n0 c1 i2) = some r :=
  lp_of ELwLineWithin_ok (by kernel_rfl) (lo_cons (lpO_ok ULwLineWithin) (lo_cons (lpO_ok ULwLineWithin) (lo_cons (lpO_ok ULwLineWithin) (lo_cons (lpO_ok ULwLineWithin) (lo_cons (lpO_ok ULwLineWithin) (lo_cons (lpO_ok ULwLineWithin) (lo_cons (lpO_ok ULwLineWithin) (lo_cons (lpO_ok ULwLineWithin) lo_nil)))))))) (by kernel_rfl) ((BLwLineWithin_0a_eq _ _ _ _ _ _ _ _ _ _ _ _ _ _).trans h)
def BLwLineWithin_0b (_F : FnT) (N : Q → Option (Ext × S)) (E : Ext × Q → Option (Ext × S)) (_L0 : Q → Option YLwLineWithin_0) (_L2 : Q → Option YLwLineWithin_2) (_L1000081 : Q → Option YLwLineWithin_1000081) (_L1000057 : Q → Option YLwLineWithin_1000057) (_L1000040 : Q → Option YLwLineWithin_1000040) (_L1000035 : Q → Option YLwLineWithin_1000035) (_L1000028 : Q → Option YLwLineWithin_1000028) (_L1000021 : Q → Option YLwLineWithin_1000021) (n0 : Nat) (c1 : List PV) (i2 : Int) (n3 : Nat) (c4 : List PV) (n5 : Nat) (c6 : List PV) (i7 : Int) (n8 : Nat) (n9 : Nat) : Option (Ext × S) :=
  bif (decide (i7 < (n0 : Int))) then
    bif (decide (((0 : Int) ≤ i7) ∧ (i7 < (n0 : Int)))) then
      bindO (intC IntKind.i64 (c1[((Int.toNat i7) * 1)]?)) fun x0 =>
      bif (decide ((n8 = n3) ∧ ((n3 + 1) ≤ big))) then
        bif (decide (((0 : Int) ≤ (w64 ((w64 ((n0 : Int) - (1 : Int))) - i7))) ∧ ((w64 ((w64 ((n0 : Int) - (1 : Int))) - i7)) < (n0 : Int)))) then
          bindO (intC IntKind.i64 (c1[((Int.toNat (w64 ((w64 ((n0 : Int) - (1 : Int))) - i7))) * 1)]?)) fun x1 =>
          bif (decide ((n9 = n5) ∧ ((n5 + 1) ≤ big))) then
            N (TLwLineWithin_0b n0 c1 i2 (n3 + 1) (c4 ++ [(PV.int IntKind.i64 (w64 (i2 * x0)))]) (n5 + 1) (c6 ++ [(PV.int IntKind.i64 x1)]) (w64 (i7 + (1 : Int))) (n3 + 1) (n5 + 1))
          else none
        else none
      else none
    else none
  else E (XLwLineWithin_0b (n0, c1, n3, c4, n5, c6, n8, n9))
theorem BLwLineWithin_0b_eq (F : FnT) (N : Q → Option (Ext × S)) (E : Ext × Q → Option (Ext × S)) (L0 : Q → Option YLwLineWithin_0) (L2 : Q → Option YLwLineWithin_2) (L1000081 : Q → Option YLwLineWithin_1000081) (L1000057 : Q → Option YLwLineWithin_1000057) (L1000040 : Q → Option YLwLineWithin_1000040) (L1000035 : Q → Option YLwLineWithin_1000035) (L1000028 : Q → Option YLwLineWithin_1000028) (L1000021 : Q → Option YLwLineWithin_1000021) (n0 : Nat) (c1 : List PV) (i2 : Int) (n3 : Nat) (c4 : List PV) (n5 : Nat) (c6 : List PV) (i7 : Int) (n8 : Nat) (n9 : Nat) : semB (callP F ELwLineWithin 20) s3 (loopT [⟨0, YLwLineWithin_0, L0, XLLwLineWithin_0⟩, ⟨2, YLwLineWithin_2, L2, XLLwLineWithin_2⟩, ⟨1000081, YLwLineWithin_1000081, L1000081, XLLwLineWithin_1000081⟩, ⟨1000057, YLwLineWithin_1000057, L1000057, XLLwLineWithin_1000057⟩, ⟨1000040, YLwLineWithin_1000040, L1000040, XLLwLineWithin_1000040⟩, ⟨1000035, YLwLineWithin_1000035, L1000035, XLLwLineWithin_1000035⟩, ⟨1000028, YLwLineWithin_1000028, L1000028, XLLwLineWithin_1000028⟩, ⟨1000021, YLwLineWithin_1000021, L1000021, XLLwLineWithin_1000021⟩]) 400 (blkIn a3.body 0) N E (TLwLineWithin_0b n0 c1 i2 n3 c4 n5 c6 i7 n8 n9) = BLwLineWithin_0b F N E L0 L2 L1000081 L1000057 L1000040 L1000035 L1000028 L1000021 n0 c1 i2 n3 c4 n5 c6 i7 n8 n9 := by kernel_rfl
theorem RLwLineWithin_0b_of  (n0 : Nat) (c1 : List PV) (i2 : Int) (n3 : Nat) (c4 : List PV) (n5 : Nat) (c6 : List PV) (i7 : Int) (n8 : Nat) (n9 : Nat) {r : Ext × S} (h : BLwLineWithin_0b (Fn env) RLwLineWithin_0 exO LLwLineWithin_0 LLwLineWithin_2 LLwLineWithin_1000081 LLwLineWithin_1000057 LLwLineWithin_1000040 LLwLineWithin_1000035 LLwLineWithin_1000028 LLwLineWithin_1000021 n0 c1 i2 n3 c4 n5 c6 i7 n8 n9 = some r) : RLwLineWithin_0 (TLwLineWithin_0b n0 c1 i2 n3 c4 n5 c6 i7 n8 n9) = some r :=
  lp_of ELwLineWithin_ok (by kernel_rfl) (lo_cons (lpO_ok ULwLineWithin) (lo_cons (lpO_ok ULwLineWithin) (lo_cons (lpO_ok ULwLineWithin) (lo_cons (lpO_ok ULwLineWithin) (lo_cons (lpO_ok ULwLineWithin) (lo_cons (lpO_ok ULwLineWithin) (lo_cons (lpO_ok ULwLineWithin) (lo_cons (lpO_ok ULwLineWithin) lo_nil)))))))) (by kernel_rfl) ((BLwLineWithin_0b_eq _ _ _ _ _ _ _ _ _ _ _ _ _ _ _ _ _ _ _ _ _).trans h)
def BLwLineWithin_2a (_F : FnT) (N : Q → Option (Ext × S)) (E : Ext × Q → Option (Ext × S)) (_L0 : Q → Option YLwLineWithin_0) (_L2 : Q → Option YLwLineWithin_2) (_L1000081 : Q → Option YLwLineWithin_1000081) (_L1000057 : Q → Option YLwLineWithin_1000057) (L1000040 : Q → Option YLwLineWithin_1000040) (_L1000035 : Q → Option YLwLineWithin_1000035) (_L1000028 : Q → Option YLwLineWithin_1000028) (_L1000021 : Q → Option YLwLineWithin_1000021) (n0 : Nat) (c1 : List PV) (i2 : Int) (i3 : Int) : Option (Ext × S) :=
  bif (decide (i3 < (4 : Int))) then
    bindO (L1000040 (TLwLineWithin_1000040a n0 c1 i2 i3)) fun z =>
    Sum.elim (fun _y0 =>
      E (XLwLineWithin_2a ())) (fun z0 => Sum.elim (fun y1 =>
      N (TLwLineWithin_2a y1.1 y1.2.1 y1.2.2.1 (w64 (y1.2.2.2 + (1 : Int))))) (fun y2 =>
      N (TLwLineWithin_2b y2.1 y2.2.1 y2.2.2.1 y2.2.2.2.1 y2.2.2.2.2.1 y2.2.2.2.2.2.1 y2.2.2.2.2.2.2.1 (w64 (y2.2.2.2.2.2.2.2.1 + (1 : Int))) y2.2.2.2.2.2.2.2.2.1 y2.2.2.2.2.2.2.2.2.2)) z0) z
  else E (XLwLineWithin_2b ())
theorem BLwLineWithin_2a_eq (F : FnT) (N : Q → Option (Ext × S)) (E : Ext × Q → Option (Ext × S)) (L0 : Q → Option YLwLineWithin_0) (L2 : Q → Option YLwLineWithin_2) (L1000081 : Q → Option YLwLineWithin_1000081) (L1000057 : Q → Option YLwLineWithin_1000057) (L1000040 : Q → Option YLwLineWithin_1000040) (L1000035 : Q → Option YLwLineWithin_1000035) (L1000028 : Q → Option YLwLineWithin_1000028) (L1000021 : Q → Option YLwLineWithin_1000021) (n0 : Nat) (c1 : List PV) (i2 : Int) (i3 : Int) : semB (callP F ELwLineWithin 20) s3 (loopT [⟨0, YLwLineWithin_0, L0, XLLwLineWithin_0⟩, ⟨2, YLwLineWithin_2, L2, XLLwLineWithin_2⟩, ⟨1000081, YLwLineWithin_1000081, L1000081, XLLwLineWithin_1000081⟩, ⟨1000057, YLwLineWithin_1000057, L1000057, XLLwLineWithin_1000057⟩, ⟨1000040, YLwLineWithin_1000040, L1000040, XLLwLineWithin_1000040⟩, ⟨1000035, YLwLineWithin_1000035, L1000035, XLLwLineWithin_1000035⟩, ⟨1000028, YLwLineWithin_1000028, L1000028, XLLwLineWithin_1000028⟩, ⟨1000021, YLwLineWithin_1000021, L1000021, XLLwLineWithin_1000021⟩]) 400 (blkIn a3.body 2) N E (TLwLineWithin_2a n0 c1 i2 i3) = BLwLineWithin_2a F N E L0 L2 L1000081 L1000057 L1000040 L1000035 L1000028 L1000021 n0 c1 i2 i3 := by kernel_rfl
theorem RLwLineWithin_2a_of  (n0 : Nat) (c1 : List PV) (i2 : Int) (i3 : Int) {r : Ext × S} (h : BLwLineWithin_2a (Fn env) RLwLineWithin_2 exO LLwLineWithin_0 LLwLineWithin_2 LLwLineWithin_1000081 LLwLineWithin_1000057 LLwLineWithin_1000040 LLwLineWithin_1000035 LLwLineWithin_1000028 LLwLineWithin_1000021 n0 c1 i2 i3 = some r) : RLwLineWithin_2 (TLwLineWithin_2a n0 c1 i2 i3) = some r :=
  lp_of ELwLineWithin_ok (by kernel_rfl) (lo_cons (lpO_ok ULwLineWithin) (lo_cons (lpO_ok ULwLineWithin) (lo_cons (lpO_ok ULwLineWithin) (lo_cons (lpO_ok ULwLineWithin) (lo_cons (lpO_ok ULwLineWithin) (lo_cons (lpO_ok ULwLineWithin) (lo_cons (lpO_ok ULwLineWithin) (lo_cons (lpO_ok ULwLineWithin) lo_nil)))))))) (by kernel_rfl) ((BLwLineWithin_2a_eq _ _ _ _ _ _ _ _ _ _ _ _ _ _ _).trans h)
def BLwLineWithin_2b (_F : FnT) (N : Q → Option (Ext × S)) (E : Ext × Q → Option (Ext × S)) (_L0 : Q → Option YLwLineWithin_0) (_L2 : Q → Option YLwLineWithin_2) (_L1000081 : Q → Option YLwLineWithin_1000081) (_L1000057 : Q → Option YLwLineWithin_1000057) (L1000040 : Q → Option YLwLineWithin_1000040) (_L1000035 : Q → Option YLwLineWithin_1000035) (_L1000028 : Q → Option YLwLineWithin_1000028) (_L1000021 : Q → Option YLwLineWithin_1000021) (n0 : Nat) (c1 : List PV) (n2 : Nat) (c3 : List PV) (n4 : Nat) (c5 : List PV) (i6 : Int) (i7 : Int) (n8 : Nat) (n9 : Nat) : Option (Ext × S) :=
  bif (decide (i7 < (4 : Int))) then
    bindO (L1000040 (TLwLineWithin_1000040b n0 c1 n2 c3 n4 c5 i6 i7 n8 n9)) fun z =>
    Sum.elim (fun _y0 =>
      E (XLwLineWithin_2a ())) (fun z0 => Sum.elim (fun y1 =>
      N (TLwLineWithin_2a y1.1 y1.2.1 y1.2.2.1 (w64 (y1.2.2.2 + (1 : Int))))) (fun y2 =>
      N (TLwLineWithin_2b y2.1 y2.2.1 y2.2.2.1 y2.2.2.2.1 y2.2.2.2.2.1 y2.2.2.2.2.2.1 y2.2.2.2.2.2.2.1 (w64 (y2.2.2.2.2.2.2.2.1 + (1 : Int))) y2.2.2.2.2.2.2.2.2.1 y2.2.2.2.2.2.2.2.2.2)) z0) z
  else E (XLwLineWithin_2c (n8, n9))
theorem BLwLineWithin_2b_eq (F : FnT) (N : Q → Option (Ext × S)) (E : Ext × Q → Option (Ext × S)) (L0 : Q → Option YLwLineWithin_0) (L2 : Q → Option YLwLineWithin_2) (L1000081 : Q → Option YLwLineWithin_1000081) (L1000057 : Q → Option YLwLineWithin_1000057) (L1000040 : Q → Option YLwLineWithin_1000040) (L1000035 : Q → Option YLwLineWithin_1000035) (L1000028 : Q → Option YLwLineWithin_1000028) (L1000021 : Q → Option YLwLineWithin_1000021) (n0 : Nat) (c1 : List PV) (n2 : Nat) (c3 : List PV) (n4 : Nat) (c5 : List PV) (i6 : Int) (i7 : Int) (n8 : Nat) (n9 : Nat) : semB (callP F ELwLineWithin 20) s3 (loopT [⟨0, YLwLineWithin_0, L0, XLLwLineWithin_0⟩, ⟨2, YLwLineWithin_2, L2, XLLwLineWithin_2⟩, ⟨1000081, YLwLineWithin_1000081, L1000081, XLLwLineWithin_1000081⟩, ⟨1000057, YLwLineWithin_1000057, L1000057, XLLwLineWithin_1000057⟩, ⟨1000040, YLwLineWithin_1000040, L1000040, XLLwLineWithin_1000040⟩, ⟨1000035, YLwLineWithin_1000035, L1000035, XLLwLineWithin_1000035⟩, ⟨1000028, YLwLineWithin_1000028, L1000028, XLLwLineWithin_1000028⟩, ⟨1000021, YLwLineWithin_1000021, L1000021, XLLwLineWithin_1000021⟩]) 400 (blkIn a3.body 2) N E (TLwLineWithin_2b n0 c1 n2 c3 n4 c5 i6 i7 n8 n9) = BLwLineWithin_2b F N E L0 L2 L1000081 L1000057 L1000040 L1000035 L1000028 L1000021 n0 c1 n2 c3 n4 c5 i6 i7 n8 n9 := by kernel_rfl
theorem RLwLineWithin_2b_of  (n0 : Nat) (c1 : List PV) (n2 : Nat) (c3 : List PV) (n4 : Nat) (c5 : List PV) (i6 : Int) (i7 : Int) (n8 : Nat) (n9 : Nat) {r : Ext × S} (h : BLwLineWithin_2b (Fn env) RLwLineWithin_2 exO LLwLineWithin_0 LLwLineWithin_2 LLwLineWithin_1000081 LLwLineWithin_1000057 LLwLineWithin_1000040 LLwLineWithin_1000035 LLwLineWithin_1000028 LLwLineWithin_1000021 n0 c1 n2 c3 n4 c5 i6 i7 n8 n9 = some r) : RLwLineWithin_2 (TLwLineWithin_2b n0 c1 n2 c3 n4 c5 i6 i7 n8 n9) = some r :=
  lp_of ELwLineWithin_ok (by kernel_rfl) (lo_cons (lpO_ok ULwLineWithin) (lo_cons (lpO_ok ULwLineWithin) (lo_cons (lpO_ok ULwLineWithin) (lo_cons (lpO_ok ULwLineWithin) (lo_cons (lpO_ok ULwLineWithin) (lo_cons (lpO_ok ULwLineWithin) (lo_cons (lpO_ok ULwLineWithin) (lo_cons (lpO_ok ULwLineWithin) lo_nil)))))))) (by kernel_rfl) ((BLwLineWithin_2b_eq _ _ _ _ _ _ _ _ _ _ _ _ _ _ _ _ _ _ _ _ _).trans h)
def BLwLineWithin_1000081a (F : FnT) (_N : Q → Option (Ext × S)) (E : Ext × Q → Option (Ext × S)) (_L0 : Q → Option YLwLineWithin_0) (_L2 : Q → Option YLwLineWithin_2) (_L1000081 : Q → Option YLwLineWithin_1000081) (_L1000057 : Q → Option YLwLineWithin_1000057) (_L1000040 : Q → Option YLwLineWithin_1000040) (_L1000035 : Q → Option YLwLineWithin_1000035) (_L1000028 : Q → Option YLwLineWithin_1000028) (_L1000021 : Q → Option YLwLineWithin_1000021) (n0 : Nat) (c1 : List PV) (i2 : Int) : Option (Ext × S) :=
  bindO (F 10 (RSh.one (CK.int IntKind.i64)) [(PV.list n0 c1)]) fun (y0 : (Int)) =>
  bif (y0 != (0 : Int)) then
    E (XLwLineWithin_1000081a ())
  else bindO (F 11 (RSh.one CK.bool) [(PV.int IntKind.i64 i2), (PV.int IntKind.i64 (1 : Int)), (PV.int IntKind.i64 (5 : Int))]) fun (y1 : (Bool)) =>
  bif y1 then
    E (XLwLineWithin_1000081b (n0, c1, i2))
  else E (XLwLineWithin_1000081a ())
theorem BLwLineWithin_1000081a_eq (F : FnT) (N : Q → Option (Ext × S)) (E : Ext × Q → Option (Ext × S)) (L0 : Q → Option YLwLineWithin_0) (L2 : Q → Option YLwLineWithin_2) (L1000081 : Q → Option YLwLineWithin_1000081) (L1000057 : Q → Option YLwLineWithin_1000057) (L1000040 : Q → Option YLwLineWithin_1000040) (L1000035 : Q → Option YLwLineWithin_1000035) (L1000028 : Q → Option YLwLineWithin_1000028) (L1000021 : Q → Option YLwLineWithin_1000021) (n0 : Nat) (c1 : List PV) (i2 : Int) : semN (callP F ELwLineWithin 20) s3 (loopT [⟨0, YLwLineWithin_0, L0, XLLwLineWithin_0⟩, ⟨2, YLwLineWithin_2, L2, XLLwLineWithin_2⟩, ⟨1000081, YLwLineWithin_1000081, L1000081, XLLwLineWithin_1000081⟩, ⟨1000057, YLwLineWithin_1000057, L1000057, XLLwLineWithin_1000057⟩, ⟨1000040, YLwLineWithin_1000040, L1000040, XLLwLineWithin_1000040⟩, ⟨1000035, YLwLineWithin_1000035, L1000035, XLLwLineWithin_1000035⟩, ⟨1000028, YLwLineWithin_1000028, L1000028, XLLwLineWithin_1000028⟩, ⟨1000021, YLwLineWithin_1000021, L1000021, XLLwLineWithin_1000021⟩]) 400 (blkIn a3.body 1000081) E (TLwLineWithin_1000081a n0 c1 i2) = BLwLineWithin_1000081a F N E L0 L2 L1000081 L1000057 L1000040 L1000035 L1000028 L1000021 n0 c1 i2 := by kernel_rfl
theorem RLwLineWithin_1000081a_of  (n0 : Nat) (c1 : List PV) (i2 : Int) {r : Ext × S} (h : BLwLineWithin_1000081a (Fn env) RLwLineWithin_1000081 exO LLwLineWithin_0 LLwLineWithin_2 LLwLineWithin_1000081 LLwLineWithin_1000057 LLwLineWithin_1000040 LLwLineWithin_1000035 LLwLineWithin_1000028 LLwLineWithin_1000021 n0 c1 i2 = some r) : RLwLineWithin_1000081 (TLwLineWithin_1000081a n0 c1 i2) = some r :=
  nd_of ELwLineWithin_ok (by kernel_rfl) (lo_cons (lpO_ok ULwLineWithin) (lo_cons (lpO_ok ULwLineWithin) (lo_cons (lpO_ok ULwLineWithin) (lo_cons (lpO_ok ULwLineWithin) (lo_cons (lpO_ok ULwLineWithin) (lo_cons (lpO_ok ULwLineWithin) (lo_cons (lpO_ok ULwLineWithin) (lo_cons (lpO_ok ULwLineWithin) lo_nil)))))))) (by kernel_rfl) ((BLwLineWithin_1000081a_eq _ RLwLineWithin_1000081 _ _ _ _ _ _ _ _ _ _ _ _).trans h)
def BLwLineWithin_1000057a (F : FnT) (_N : Q → Option (Ext × S)) (E : Ext × Q → Option (Ext × S)) (_L0 : Q → Option YLwLineWithin_0) (_L2 : Q → Option YLwLineWithin_2) (_L1000081 : Q → Option YLwLineWithin_1000081) (_L1000057 : Q → Option YLwLineWithin_1000057) (_L1000040 : Q → Option YLwLineWithin_1000040) (_L1000035 : Q → Option YLwLineWithin_1000035) (_L1000028 : Q → Option YLwLineWithin_1000028) (_L1000021 : Q → Option YLwLineWithin_1000021) (n0 : Nat) (c1 : List PV) (i2 : Int) (i3 : Int) : Option (Ext × S) :=
  bif (i3 != (0 : Int)) then
    E (XLwLineWithin_1000057a ())
  else bindO (F 11 (RSh.one CK.bool) [(PV.int IntKind.i64 i2), (PV.int IntKind.i64 (0 : Int)), (PV.int IntKind.i64 (w64 ((n0 : Int) - (1 : Int))))]) fun (y0 : (Bool)) =>
  bif y0 then
    E (XLwLineWithin_1000057b (n0, c1, i2))
  else E (XLwLineWithin_1000057a ())
theorem BLwLineWithin_1000057a_eq (F : FnT) (N : Q → Option (Ext × S)) (E : Ext × Q → Option (Ext × S)) (L0 : Q → Option YLwLineWithin_0) (L2 : Q → Option YLwLineWithin_2) (L1000081 : Q → Option YLwLineWithin_1000081) (L1000057 : Q → Option YLwLineWithin_1000057) (L1000040 : Q → Option YLwLineWithin_1000040) (L1000035 : Q → Option YLwLineWithin_1000035) (L1000028 : Q → Option YLwLineWithin_1000028) (L1000021 : Q → Option YLwLineWithin_1000021) (n0 : Nat) (c1 : List PV) (i2 : Int) (i3 : Int) : semN (callP F ELwLineWithin 20) s3 (loopT [⟨0, YLwLineWithin_0, L0, XLLwLineWithin_0⟩, ⟨2, YLwLineWithin_2, L2, XLLwLineWithin_2⟩, ⟨1000081, YLwLineWithin_1000081, L1000081, XLLwLineWithin_1000081⟩, ⟨1000057, YLwLineWithin_1000057, L1000057, XLLwLineWithin_1000057⟩, ⟨1000040, YLwLineWithin_1000040, L1000040, XLLwLineWithin_1000040⟩, ⟨1000035, YLwLineWithin_1000035, L1000035, XLLwLineWithin_1000035⟩, ⟨1000028, YLwLineWithin_1000028, L1000028, XLLwLineWithin_1000028⟩, ⟨1000021, YLwLineWithin_1000021, L1000021, XLLwLineWithin_1000021⟩]) 400 (blkIn a3.body 1000057) E (TLwLineWithin_1000057a n0 c1 i2 i3) = BLwLineWithin_1000057a F N E L0 L2 L1000081 L1000057 L1000040 L1000035 L1000028 L1000021 n0 c1 i2 i3 := by kernel_rfl
theorem RLwLineWithin_1000057a_of  (n0 : Nat) (c1 : List PV) (i2 : Int) (i3 : Int) {r : Ext × S} (h : BLwLineWithin_1000057a (Fn env) RLwLineWithin_1000057 exO LLwLineWithin_0 LLwLineWithin_2 LLwLineWithin_1000081 LLwLineWithin_1000057 LLwLineWithin_1000040 LLwLineWithin_1000035 LLwLineWithin_1000028 LLwLineWithin_1000021 n0 c1 i2 i3 = some r) : RLwLineWithin_1000057 (TLwLineWithin_1000057a n0 c1 i2 i3) = some r :=
  nd_of ELwLineWithin_ok (by kernel_rfl) (lo_cons (lpO_ok ULwLineWithin) (lo_cons (lpO_ok ULwLineWithin) (lo_cons (lpO_ok ULwLineWithin) (lo_cons (lpO_ok ULwLineWithin) (lo_cons (lpO_ok ULwLineWithin) (lo_cons (lpO_ok ULwLineWithin) (lo_cons (lpO_ok ULwLineWithin) (lo_cons (lpO_ok ULwLineWithin) lo_nil)))))))) (by kernel_rfl) ((BLwLineWithin_1000057a_eq _ RLwLineWithin_1000057 _ _ _ _ _ _ _ _ _ _ _ _ _).trans h)
def BLwLineWithin_1000057b (F : FnT) (_N : Q → Option (Ext × S)) (E : Ext × Q → Option (Ext × S)) (_L0 : Q → Option YLwLineWithin_0) (_L2 : Q → Option YLwLineWithin_2) (_L1000081 : Q → Option YLwLineWithin_1000081) (_L1000057 : Q → Option YLwLineWithin_1000057) (_L1000040 : Q → Option YLwLineWithin_1000040) (_L1000035 : Q → Option YLwLineWithin_1000035) (_L1000028 : Q → Option YLwLineWithin_1000028) (_L1000021 : Q → Option YLwLineWithin_1000021) (n0 : Nat) (c1 : List PV) (n2 : Nat) (c3 : List PV) (n4 : Nat) (c5 : List PV) (i6 : Int) (i7 : Int) (n8 : Nat) (n9 : Nat) : Option (Ext × S) :=
  bif (i7 != (0 : Int)) then
    E (XLwLineWithin_1000057a ())
  else bindO (F 11 (RSh.one CK.bool) [(PV.int IntKind.i64 i6), (PV.int IntKind.i64 (0 : Int)), (PV.int IntKind.i64 (w64 ((n0 : Int) - (1 : Int))))]) fun (y0 : (Bool)) =>
  bif y0 then
    E (XLwLineWithin_1000057c (n0, c1, n2, c3, n4, c5, i6, n8, n9))
  else E (XLwLineWithin_1000057a ())
theorem BLwLineWithin_1000057b_eq (F : FnT) (N : Q → Option (Ext × S)) (E : Ext × Q → Option (Ext × S)) (L0 : Q → Option YLwLineWithin_0) (L2 : Q → Option YLwLineWithin_2) (L1000081 : Q → Option YLwLineWithin_1000081) (L1000057 : Q → Option YLwLineWithin_1000057) (L1000040 : Q → Option YLwLineWithin_1000040) (L1000035 : Q → Option YLwLineWithin_1000035) (L1000028 : Q → Option YLwLineWithin_1000028) (L1000021 : Q → Option YLwLineWithin_1000021) (n0 : Nat) (c1 : List PV) (n2 : Nat) (c3 : List PV) (n4 : Nat) (c5 : List PV) (i6 : Int) (i7 : Int) (n8 : Nat) (n9 : Nat) : semN (callP F ELwLineWithin 20) s3 (loopT [⟨0, YLwLineWithin_0, L0, XLLwLineWithin_0⟩, ⟨2, YLwLineWithin_2, L2, XLLwLineWithin_2⟩, ⟨1000081, YLwLineWithin_1000081, L1000081, XLLwLineWithin_1000081⟩, ⟨1000057, YLwLineWithin_1000057, L1000057, XLLwLineWithin_1000057⟩, ⟨1000040, YLwLineWithin_1000040, L1000040, XLLwLineWithin_1000040⟩, ⟨1000035, YLwLineWithin_1000035, L1000035, XLLwLineWithin_1000035⟩, ⟨1000028, YLwLineWithin_1000028, L1000028, XLLwLineWithin_1000028⟩, ⟨1000021, YLwLineWithin_1000021, L1000021, XLLwLineWithin_1000021⟩]) 400 (blkIn a3.body 1000057) E (TLwLineWithin_1000057b n0 c1 n2 c3 n4 c5 i6 i7 n8 n9) = BLwLineWithin_1000057b F N E L0 L2 L1000081 L1000057 L1000040 L1000035 L1000028 L1000021 n0 c1 n2 c3 n4 c5 i6 i7 n8 n9 := by kernel_rfl
theorem RLwLineWithin_1000057b_of  (n0 : Nat) (c1 : List PV) (n2 : Nat) (c3 : List PV) (n4 : Nat) (c5 : List PV) (i6 : Int) (i7 : Int) (n8 : Nat) (n9 : Nat) {r : Ext × S} (h : BLwLineWithin_1000057b (Fn env) RLwLineWithin_1000057 exO LLwLineWithin_0 LLwLineWithin_2 LLwLineWithin_1000081 LLwLineWithin_1000057 LLwLineWithin_1000040 LLwLineWithin_1000035 LLwLineWithin_1000028 LLwLineWithin_1000021 n0 c1 n2 c3 n4 c5 i6 i7 n8 n9 = some r) : RLwLineWithin_1000057 (TLwLineWithin_1000057b n0 c1 n2 c3 n4 c5 i6 i7 n8 n9) = some r :=
  nd_of ELwLineWithin_ok (by kernel_rfl) (lo_cons (lpO_ok ULwLineWithin) (lo_cons (lpO_ok ULwLineWithin) (lo_cons (lpO_ok ULwLineWithin) (lo_cons (lpO_ok ULwLineWithin) (lo_cons (lpO_ok ULwLineWithin) (lo_cons (lpO_ok ULwLineWithin) (lo_cons (lpO_ok ULwLineWithin) (lo_cons (lpO_ok ULwLineWithin) lo_nil)))))))) (by kernel_rfl) ((BLwLineWithin_1000057b_eq _ RLwLineWithin_1000057 _ _ _ _ _ _ _ _ _ _ _ _ _ _ _ _ _ _ _).trans h)
def BLwLineWithin_1000040a (F : FnT) (_N : Q → Option (Ext × S)) (E : Ext × Q → Option (Ext × S)) (_L0 : Q → Option YLwLineWithin_0) (_L2 : Q → Option YLwLineWithin_2) (_L1000081 : Q → Option YLwLineWithin_1000081) (_L1000057 : Q → Option YLwLineWithin_1000057) (_L1000040 : Q → Option YLwLineWithin_1000040) (L1000035 : Q → Option YLwLineWithin_1000035) (L1000028 : Q → Option YLwLineWithin_1000028) (L1000021 : Q → Option YLwLineWithin_1000021) (n0 : Nat) (c1 : List PV) (i2 : Int) (i3 : Int) : Option (Ext × S) :=
  bindO (F 13 (RSh.one CK.list) [(PV.list n0 c1)]) fun (y0 : ((Nat) × (List PV))) =>
  bindO (F 14 (RSh.tup [(Prod.mk true [(CK.int IntKind.i64), (CK.int IntKind.i64)]), (Prod.mk false [(CK.int IntKind.i64)])]) [(PV.list y0.1 y0.2), (PV.int IntKind.i64 i3)]) fun (y1 : ((Int) × ((Int) × (Int)))) =>
  bindO (L1000035 (TLwLineWithin_1000035a n0 c1 i2 i3 y1.2.2 y1.1 y1.2.1)) fun z =>
  Sum.elim (fun _y2 =>
    E (XLwLineWithin_1000040a ())) (fun z0 => Sum.elim (fun y3 =>
    bindO (L1000028 (TLwLineWithin_1000028a y3.1 y3.2.1 y3.2.2.1 y3.2.2.2.1 y3.2.2.2.2.1 y3.2.2.2.2.2)) fun z =>
    Sum.elim (fun y4 =>
      bindO (L1000021 (TLwLineWithin_1000021a y4.1 y4.2.1 y4.2.2.1 y4.2.2.2.1 y4.2.2.2.2.1 y4.2.2.2.2.2)) fun z =>
      Sum.elim (fun _y5 =>
        E (XLwLineWithin_1000040a ())) (fun z0 => Sum.elim (fun y6 =>
        bif (y6.2.2.2.1 == (1 : Int)) then
          bindO (F 19 (RSh.one (CK.int IntKind.i64)) [(PV.list y6.1 y6.2.1)]) fun (y7 : (Int)) =>
          bif (decide (y7 > (0 : Int))) then
            bindO (F 13 (RSh.one CK.list) [(PV.list 0 [])]) fun (y8 : ((Nat) × (List PV))) =>
            bindO (F 14 (RSh.tup [(Prod.mk true [(CK.int IntKind.i64), (CK.int IntKind.i64)]), (Prod.mk false [(CK.int IntKind.i64)])]) [(PV.list y8.1 y8.2), (PV.int IntKind.i64 y6.2.2.2.1)]) fun (y9 : ((Int) × ((Int) × (Int)))) =>
            bif (y9.2.2 != (0 : Int)) then
              E (XLwLineWithin_1000040a ())
            else bindO (F 21 (RSh.agg [(CK.int IntKind.i64), (CK.int IntKind.i64)]) [(PV.int IntKind.i64 (w64 ((w64 ((w64 ((y6.1 : Int) - (1 : Int))) * y6.2.2.2.2.2)) - y6.2.2.2.2.1))), (PV.int IntKind.i64 y6.2.2.2.2.2)]) fun (y10 : ((Int) × (Int))) =>
            bif (!((y9.1 == y10.1) && ((y9.2.1 == y10.2) && true))) then
              E (XLwLineWithin_1000040a ())
            else E (XLwLineWithin_1000040b (y6.1, y6.2.1, y6.2.2.1, y6.2.2.2.1))
          else E (XLwLineWithin_1000040b (y6.1, y6.2.1, y6.2.2.1, y6.2.2.2.1))
        else E (XLwLineWithin_1000040b (y6.1, y6.2.1, y6.2.2.1, y6.2.2.2.1))) (fun y11 =>
        bif (y11.2.2.2.2.2.2.2.1 == (1 : Int)) then
          bindO (F 19 (RSh.one (CK.int IntKind.i64)) [(PV.list y11.1 y11.2.1)]) fun (y12 : (Int)) =>
          bif (decide (y12 > (0 : Int))) then
            bindO (F 13 (RSh.one CK.list) [(PV.list y11.2.2.2.2.1 y11.2.2.2.2.2.1)]) fun (y13 : ((Nat) × (List PV))) =>
            bindO (F 14 (RSh.tup [(Prod.mk true [(CK.int IntKind.i64), (CK.int IntKind.i64)]), (Prod.mk false [(CK.int IntKind.i64)])]) [(PV.list y13.1 y13.2), (PV.int IntKind.i64 y11.2.2.2.2.2.2.2.1)]) fun (y14 : ((Int) × ((Int) × (Int)))) =>
            bif (y14.2.2 != (0 : Int)) then
              E (XLwLineWithin_1000040a ())
            else bindO (F 21 (RSh.agg [(CK.int IntKind.i64), (CK.int IntKind.i64)]) [(PV.int IntKind.i64 (w64 ((w64 ((w64 ((y11.1 : Int) - (1 : Int))) * y11.2.2.2.2.2.2.2.2.2.1)) - y11.2.2.2.2.2.2.2.2.1))), (PV.int IntKind.i64 y11.2.2.2.2.2.2.2.2.2.1)]) fun (y15 : ((Int) × (Int))) =>
            bif (!((y14.1 == y15.1) && ((y14.2.1 == y15.2) && true))) then
              E (XLwLineWithin_1000040a ())
            else E (XLwLineWithin_1000040c (y11.1, y11.2.1, y11.2.2.1, y11.2.2.2.1, y11.2.2.2.2.1, y11.2.2.2.2.2.1, y11.2.2.2.2.2.2.1, y11.2.2.2.2.2.2.2.1, y11.2.2.2.2.2.2.2.2.2.2.1, y11.2.2.2.2.2.2.2.2.2.2.2))
          else E (XLwLineWithin_1000040c (y11.1, y11.2.1, y11.2.2.1, y11.2.2.2.1, y11.2.2.2.2.1, y11.2.2.2.2.2.1, y11.2.2.2.2.2.2.1, y11.2.2.2.2.2.2.2.1, y11.2.2.2.2.2.2.2.2.2.2.1, y11.2.2.2.2.2.2.2.2.2.2.2))
        else E (XLwLineWithin_1000040c (y11.1, y11.2.1, y11.2.2.1, y11.2.2.2.1, y11.2.2.2.2.1, y11.2.2.2.2.2.1, y11.2.2.2.2.2.2.1, y11.2.2.2.2.2.2.2.1, y11.2.2.2.2.2.2.2.2.2.2.1, y11.2.2.2.2.2.2.2.2.2.2.2))) z0) z) (fun z0 => Sum.elim (fun y16 =>
      bindO (L1000021 (TLwLineWithin_1000021b y16.1 y16.2.1 y16.2.2.1 y16.2.2.2.1 y16.2.2.2.2.1 y16.2.2.2.2.2.1 y16.2.2.2.2.2.2.1 y16.2.2.2.2.2.2.2.1 y16.2.2.2.2.2.2.2.2.1 y16.2.2.2.2.2.2.2.2.2.1 y16.2.2.2.2.2.2.2.2.2.2.1 y16.2.2.2.2.2.2.2.2.2.2.2)) fun z =>
      Sum.elim (fun _y17 =>
        E (XLwLineWithin_1000040a ())) (fun z0 => Sum.elim (fun y18 =>
        bif (y18.2.2.2.1 == (1 : Int)) then
          bindO (F 19 (RSh.one (CK.int IntKind.i64)) [(PV.list y18.1 y18.2.1)]) fun (y19 : (Int)) =>
          bif (decide (y19 > (0 : Int))) then
            bindO (F 13 (RSh.one CK.list) [(PV.list 0 [])]) fun (y20 : ((Nat) × (List PV))) =>
            bindO (F 14 (RSh.tup [(Prod.mk true [(CK.int IntKind.i64), (CK.int IntKind.i64)]), (Prod.mk false [(CK.int IntKind.i64)])]) [(PV.list y20.1 y20.2), (PV.int IntKind.i64 y18.2.2.2.1)]) fun (y21 : ((Int) × ((Int) × (Int)))) =>
            bif (y21.2.2 != (0 : Int)) then
              E (XLwLineWithin_1000040a ())
            else bindO (F 21 (RSh.agg [(CK.int IntKind.i64), (CK.int IntKind.i64)]) [(PV.int IntKind.i64 (w64 ((w64 ((w64 ((y18.1 : Int) - (1 : Int))) * y18.2.2.2.2.2)) - y18.2.2.2.2.1))), (PV.int IntKind.i64 y18.2.2.2.2.2)]) fun (y22 : ((Int) × (Int))) =>
            bif (!((y21.1 == y22.1) && ((y21.2.1 == y22.2) && true))) then
              E (XLwLineWithin_1000040a ())
            else E (XLwLineWithin_1000040b (y18.1, y18.2.1, y18.2.2.1, y18.2.2.2.1))
          else E (XLwLineWithin_1000040b (y18.1, y18.2.1, y18.2.2.1, y18.2.2.2.1))
        else E (XLwLineWithin_1000040b (y18.1, y18.2.1, y18.2.2.1, y18.2.2.2.1))) (fun y23 =>
        bif (y23.2.2.2.2.2.2.2.1 == (1 : Int)) then
          bindO (F 19 (RSh.one (CK.int IntKind.i64)) [(PV.list y23.1 y23.2.1)]) fun (y24 : (Int)) =>
          bif (decide (y24 > (0 : Int))) then
            bindO (F 13 (RSh.one CK.list) [(PV.list y23.2.2.2.2.1 y23.2.2.2.2.2.1)]) fun (y25 : ((Nat) × (List PV))) =>
            bindO (F 14 (RSh.tup [(Prod.mk true [(CK.int IntKind.i64), (CK.int IntKind.i64)]), (Prod.mk false [(CK.int IntKind.i64)])]) [(PV.list y25.1 y25.2), (PV.int IntKind.i64 y23.2.2.2.2.2.2.2.1)]) fun (y26 : ((Int) × ((Int) × (Int)))) =>
            bif (y26.2.2 != (0 : Int)) then
              E (XLwLineWithin_1000040a ())
            else bindO (F 21 (RSh.agg [(CK.int IntKind.i64), (CK.int IntKind.i64)]) [(PV.int IntKind.i64 (w64 ((w64 ((w64 ((y23.1 : Int) - (1 : Int))) * y23.2.2.2.2.2.2.2.2.2.1)) - y23.2.2.2.2.2.2.2.2.1))), (PV.int IntKind.i64 y23.2.2.2.2.2.2.2.2.2.1)]) fun (y27 : ((Int) × (Int))) =>
            bif (!((y26.1 == y27.1) && ((y26.2.1 == y27.2) && true))) then
              E (XLwLineWithin_1000040a ())
            else E (XLwLineWithin_1000040c (y23.1, y23.2.1, y23.2.2.1, y23.2.2.2.1, y23.2.2.2.2.1, y23.2.2.2.2.2.1, y23.2.2.2.2.2.2.1, y23.2.2.2.2.2.2.2.1, y23.2.2.2.2.2.2.2.2.2.2.1, y23.2.2.2.2.2.2.2.2.2.2.2))
          else E (XLwLineWithin_1000040c (y23.1, y23.2.1, y23.2.2.1, y23.2.2.2.1, y23.2.2.2.2.1, y23.2.2.2.2.2.1, y23.2.2.2.2.2.2.1, y23.2.2.2.2.2.2.2.1, y23.2.2.2.2.2.2.2.2.2.2.1, y23.2.2.2.2.2.2.2.2.2.2.2))
        else E (XLwLineWithin_1000040c (y23.1, y23.2.1, y23.2.2.1, y23.2.2.2.1, y23.2.2.2.2.1, y23.2.2.2.2.2.1, y23.2.2.2.2.2.2.1, y23.2.2.2.2.2.2.2.1, y23.2.2.2.2.2.2.2.2.2.2.1, y23.2.2.2.2.2.2.2.2.2.2.2))) z0) z) (fun _y28 =>
      E (XLwLineWithin_1000040a ())) z0) z) (fun y29 =>
    bindO (L1000028 (TLwLineWithin_1000028b y29.1 y29.2.1 y29.2.2.1 y29.2.2.2.1 y29.2.2.2.2.1 y29.2.2.2.2.2.1 y29.2.2.2.2.2.2.1 y29.2.2.2.2.2.2.2.1 y29.2.2.2.2.2.2.2.2.1 y29.2.2.2.2.2.2.2.2.2.1 y29.2.2.2.2.2.2.2.2.2.2.1 y29.2.2.2.2.2.2.2.2.2.2.2)) fun z =>
    Sum.elim (fun y30 =>
      bindO (L1000021 (TLwLineWithin_1000021a y30.1 y30.2.1 y30.2.2.1 y30.2.2.2.1 y30.2.2.2.2.1 y30.2.2.2.2.2)) fun z =>
      Sum.elim (fun _y31 =>
        E (XLwLineWithin_1000040a ())) (fun z0 => Sum.elim (fun y32 =>
        bif (y32.2.2.2.1 == (1 : Int)) then
          bindO (F 19 (RSh.one (CK.int IntKind.i64)) [(PV.list y32.1 y32.2.1)]) fun (y33 : (Int)) =>
          bif (decide (y33 > (0 : Int))) then
            bindO (F 13 (RSh.one CK.list) [(PV.list 0 [])]) fun (y34 : ((Nat) × (List PV))) =>
            bindO (F 14 (RSh.tup [(Prod.mk true [(CK.int IntKind.i64), (CK.int IntKind.i64)]), (Prod.mk false [(CK.int IntKind.i64)])]) [(PV.list y34.1 y34.2), (PV.int IntKind.i64 y32.2.2.2.1)]) fun (y35 : ((Int) × ((Int) × (Int)))) =>
            bif (y35.2.2 != (0 : Int)) then
              E (XLwLineWithin_1000040a ())
            else bindO (F 21 (RSh.agg [(CK.int IntKind.i64), (CK.int IntKind.i64)]) [(PV.int IntKind.i64 (w64 ((w64 ((w64 ((y32.1 : Int) - (1 : Int))) * y32.2.2.2.2.2)) - y32.2.2.2.2.1))), (PV.int IntKind.i64 y32.2.2.2.2.2)]) fun (y36 : ((Int) × (Int))) =>
            bif (!((y35.1 == y36.1) && ((y35.2.1 == y36.2) && true))) then
              E (XLwLineWithin_1000040a ())
            else E (XLwLineWithin_1000040b (y32.1, y32.2.1, y32.2.2.1, y32.2.2.2.1))
          else E (XLwLineWithin_1000040b (y32.1, y32.2.1, y32.2.2.1, y32.2.2.2.1))
        else E (XLwLineWithin_1000040b (y32.1, y32.2.1, y32.2.2.1, y32.2.2.2.1))) (fun y37 =>
        bif (y37.2.2.2.2.2.2.2.1 == (1 : Int)) then
          bindO (F 19 (RSh.one (CK.int IntKind.i64)) [(PV.list y37.1 y37.2.1)]) fun (y38 : (Int)) =>
          bif (decide (y38 > (0 : Int))) then
            bindO (F 13 (RSh.one CK.list) [(PV.list y37.2.2.2.2.1 y37.2.2.2.2.2.1)]) fun (y39 : ((Nat) × (List PV))) =>
            bindO (F 14 (RSh.tup [(Prod.mk true [(CK.int IntKind.i64), (CK.int IntKind.i64)]), (Prod.mk false [(CK.int IntKind.i64)])]) [(PV.list y39.1 y39.2), (PV.int IntKind.i64 y37.2.2.2.2.2.2.2.1)]) fun (y40 : ((Int) × ((Int) × (Int)))) =>
            bif (y40.2.2 != (0 : Int)) then
              E (XLwLineWithin_1000040a ())
            else bindO (F 21 (RSh.agg [(CK.int IntKind.i64), (CK.int IntKind.i64)]) [(PV.int IntKind.i64 (w64 ((w64 ((w64 ((y37.1 : Int) - (1 : Int))) * y37.2.2.2.2.2.2.2.2.2.1)) - y37.2.2.2.2.2.2.2.2.1))), (PV.int IntKind.i64 y37.2.2.2.2.2.2.2.2.2.1)]) fun (y41 : ((Int) × (Int))) =>
            bif (!((y40.1 == y41.1) && ((y40.2.1 == y41.2) && true))) then
              E (XLwLineWithin_1000040a ())
            else E (XLwLineWithin_1000040c (y37.1, y37.2.1, y37.2.2.1, y37.2.2.2.1, y37.2.2.2.2.1, y37.2.2.2.2.2.1, y37.2.2.2.2.2.2.1, y37.2.2.2.2.2.2.2.1, y37.2.2.2.2.2.2.2.2.2.2.1, y37.2.2.2.2.2.2.2.2.2.2.2))
          else E (XLwLineWithin_1000040c (y37.1, y37.2.1, y37.2.2.1, y37.2.2.2.1, y37.2.2.2.2.1, y37.2.2.2.2.2.1, y37.2.2.2.2.2.2.1, y37.2.2.2.2.2.2.2.1, y37.2.2.2.2.2.2.2.2.2.2.1, y37.2.2.2.2.2.2.2.2.2.2.2))
        else E (XLwLineWithin_1000040c (y37.1, y37.2.1, y37.2.2.1, y37.2.2.2.1, y37.2.2.2.2.1, y37.2.2.2.2.2.1, y37.2.2.2.2.2.2.1, y37.2.2.2.2.2.2.2.1, y37.2.2.2.2.2.2.2.2.2.2.1, y37.2.2.2.2.2.2.2.2.2.2.2))) z0) z) (fun z0 => Sum.elim (fun y42 =>
      bindO (L1000021 (TLwLineWithin_1000021b y42.1 y42.2.1 y42.2.2.1 y42.2.2.2.1 y42.2.2.2.2.1 y42.2.2.2.2.2.1 y42.2.2.2.2.2.2.1 y42.2.2.2.2.2.2.2.1 y42.2.2.2.2.2.2.2.2.1 y42.2.2.2.2.2.2.2.2.2.1 y42.2.2.2.2.2.2.2.2.2.2.1 y42.2.2.2.2.2.2.2.2.2.2.2)) fun z =>
      Sum.elim (fun _y43 =>
        E (XLwLineWithin_1000040a ())) (fun z0 => Sum.elim (fun y44 =>
        bif (y44.2.2.2.1 == (1 : Int)) then
          bindO (F 19 (RSh.one (CK.int IntKind.i64)) [(PV.list y44.1 y44.2.1)]) fun (y45 : (Int)) =>
          bif (decide (y45 > (0 : Int))) then
            bindO (F 13 (RSh.one CK.list) [(PV.list 0 [])]) fun (y46 : ((Nat) × (List PV))) =>
            bindO (F 14 (RSh.tup [(Prod.mk true [(CK.int IntKind.i64), (CK.int IntKind.i64)]), (Prod.mk false [(CK.int IntKind.i64)])]) [(PV.list y46.1 y46.2), (PV.int IntKind.i64 y44.2.2.2.1)]) fun (y47 : ((Int) × ((Int) × (Int)))) =>
            bif (y47.2.2 != (0 : Int)) then
              E (XLwLineWithin_1000040a ())
            else bindO (F 21 (RSh.agg [(CK.int IntKind.i64), (CK.int IntKind.i64)]) [(PV.int IntKind.i64 (w64 ((w64 ((w64 ((y44.1 : Int) - (1 : Int))) * y44.2.2.2.2.2)) - y44.2.2.2.2.1))), (PV.int IntKind.i64 y44.2.2.2.2.2)]) fun (y48 : ((Int) × (Int))) =>
            bif (!((y47.1 == y48.1) && ((y47.2.1 == y48.2) && true))) then
              E (XLwLineWithin_1000040a ())
            else E (XLwLineWithin_1000040b (y44.1, y44.2.1, y44.2.2.1, y44.2.2.2.1))
          else E (XLwLineWithin_1000040b (y44.1, y44.2.1, y44.2.2.1, y44.2.2.2.1))
        else E (XLwLineWithin_1000040b (y44.1, y44.2.1, y44.2.2.1, y44.2.2.2.1))) (fun y49 =>
        bif (y49.2.2.2.2.2.2.2.1 == (1 : Int)) then
          bindO (F 19 (RSh.one (CK.int IntKind.i64)) [(PV.list y49.1 y49.2.1)]) fun (y50 : (Int)) =>
          bif (decide (y50 > (0 : Int))) then
            bindO (F 13 (RSh.one CK.list) [(PV.list y49.2.2.2.2.1 y49.2.2.2.2.2.1)]) fun (y51 : ((Nat) × (List PV))) =>
            bindO (F 14 (RSh.tup [(Prod.mk true [(CK.int IntKind.i64), (CK.int IntKind.i64)]), (Prod.mk false [(CK.int IntKind.i64)])]) [(PV.list y51.1 y51.2), (PV.int IntKind.i64 y49.2.2.2.2.2.2.2.1)]) fun (y52 : ((Int) × ((Int) × (Int)))) =>
            bif (y52.2.2 != (0 : Int)) then
              E (XLwLineWithin_1000040a ())
            else bindO (F 21 (RSh.agg [(CK.int IntKind.i64), (CK.int IntKind.i64)]) [(PV.int IntKind.i64 (w64 ((w64 ((w64 ((y49.1 : Int) - (1 : Int))) * y49.2.2.2.2.2.2.2.2.2.1)) - y49.2.2.2.2.2.2.2.2.1))), (PV.int IntKind.i64 y49.2.2.2.2.2.2.2.2.2.1)]) fun (y53 : ((Int) × (Int))) =>
            bif (!((y52.1 == y53.1) && ((y52.2.1 == y53.2) && true))) then
              E (XLwLineWithin_1000040a ())
            else E (XLwLineWithin_1000040c (y49.1, y49.2.1, y49.2.2.1, y49.2.2.2.1, y49.2.2.2.2.1, y49.2.2.2.2.2.1, y49.2.2.2.2.2.2.1, y49.2.2.2.2.2.2.2.1, y49.2.2.2.2.2.2.2.2.2.2.1, y49.2.2.2.2.2.2.2.2.2.2.2))
          else E (XLwLineWithin_1000040c (y49.1, y49.2.1, y49.2.2.1, y49.2.2.2.1, y49.2.2.2.2.1, y49.2.2.2.2.2.1, y49.2.2.2.2.2.2.1, y49.2.2.2.2.2.2.2.1, y49.2.2.2.2.2.2.2.2.2.2.1, y49.2.2.2.2.2.2.2.2.2.2.2))
        else E (XLwLineWithin_1000040c (y49.1, y49.2.1, y49.2.2.1, y49.2.2.2.1, y49.2.2.2.2.1, y49.2.2.2.2.2.1, y49.2.2.2.2.2.2.1, y49.2.2.2.2.2.2.2.1, y49.2.2.2.2.2.2.2.2.2.2.1, y49.2.2.2.2.2.2.2.2.2.2.2))) z0) z) (fun _y54 =>
      E (XLwLineWithin_1000040a ())) z0) z) z0) z
theorem BLwLineWithin_1000040a_eq (F : FnT) (N : Q → Option (Ext × S)) (E : Ext × Q → Option (Ext × S)) (L0 : Q → Option YLwLineWithin_0) (L2 : Q → Option YLwLineWithin_2) (L1000081 : Q → Option YLwLineWithin_1000081) (L1000057 : Q → Option YLwLineWithin_1000057) (L1000040 : Q → Option YLwLineWithin_1000040) (L1000035 : Q → Option YLwLineWithin_1000035) (L1000028 : Q → Option YLwLineWithin_1000028) (L1000021 : Q → Option YLwLineWithin_1000021) (n0 : Nat) (c1 : List PV) (i2 : Int) (i3 : Int) : semN (callP F ELwLineWithin 20) s3 (loopT [⟨0, YLwLineWithin_0, L0, XLLwLineWithin_0⟩, ⟨2, YLwLineWithin_2, L2, XLLwLineWithin_2⟩, ⟨1000081, YLwLineWithin_1000081, L1000081, XLLwLineWithin_1000081⟩, ⟨1000057, YLwLineWithin_1000057, L1000057, XLLwLineWithin_1000057⟩, ⟨1000040, YLwLineWithin_1000040, L1000040, XLLwLineWithin_1000040⟩, ⟨1000035, YLwLineWithin_1000035, L1000035, XLLwLineWithin_1000035⟩, ⟨1000028, YLwLineWithin_1000028, L1000028, XLLwLineWithin_1000028⟩, ⟨1000021, YLwLineWithin_1000021, L1000021, XLLwLineWithin_1000021⟩]) 400 (blkIn a3.body 1000040) E (TLwLineWithin_1000040a n0 c1 i2 i3) = BLwLineWithin_1000040a F N E L0 L2 L1000081 L1000057 L1000040 L1000035 L1000028 L1000021 n0 c1 i2 i3 := by kernel_rfl
theorem RLwLineWithin_1000040a_of  (n0 : Nat) (c1 : List PV) (i2 : Int) (i3 : Int) {r : Ext × S} (h : BLwLineWithin_1000040a (Fn env) RLwLineWithin_1000040 exO LLwLineWithin_0 LLwLineWithin_2 LLwLineWithin_1000081 LLwLineWithin_1000057 LLwLineWithin_1000040 LLwLineWithin_1000035 LLwLineWithin_1000028 LLwLineWithin_1000021 n0 c1 i2 i3 = some r) : RLwLineWithin_1000040 (TLwLineWithin_1000040a n0 c1 i2 i3) = some r :=
  nd_of ELwLineWithin_ok (by kernel_rfl) (lo_cons (lpO_ok ULwLineWithin) (lo_cons (lpO_ok ULwLineWithin) (lo_cons (lpO_ok ULwLineWithin) (lo_cons (lpO_ok ULwLineWithin) (lo_cons (lpO_ok ULwLineWithin) (lo_cons (lpO_ok ULwLineWithin) (lo_cons (lpO_ok ULwLineWithin) (lo_cons (lpO_ok ULwLineWithin) lo_nil)))))))) (by kernel_rfl) ((BLwLineWithin_1000040a_eq _ RLwLineWithin_1000040 _ _ _ _ _ _ _ _ _ _ _ _ _).trans h)
def BLwLineWithin_1000040b (F : FnT) (_N : Q → Option (Ext × S)) (E : Ext × Q → Option (Ext × S)) (_L0 : Q → Option YLwLineWithin_0) (_L2 : Q → Option YLwLineWithin_2) (_L1000081 : Q → Option YLwLineWithin_1000081) (_L1000057 : Q → Option YLwLineWithin_1000057) (_L1000040 : Q → Option YLwLineWithin_1000040) (L1000035 : Q → Option YLwLineWithin_1000035) (L1000028 : Q → Option YLwLineWithin_1000028) (L1000021 : Q → Option YLwLineWithin_1000021) (n0 : Nat) (c1 : List PV) (n2 : Nat) (c3 : List PV) (n4 : Nat) (c5 : List PV) (i6 : Int) (i7 : Int) (n8 : Nat) (n9 : Nat) : Option (Ext × S) :=
  bindO (F 13 (RSh.one CK.list) [(PV.list n0 c1)]) fun (y0 : ((Nat) × (List PV))) =>
  bindO (F 14 (RSh.tup [(Prod.mk true [(CK.int IntKind.i64), (CK.int IntKind.i64)]), (Prod.mk false [(CK.int IntKind.i64)])]) [(PV.list y0.1 y0.2), (PV.int IntKind.i64 i7)]) fun (y1 : ((Int) × ((Int) × (Int)))) =>
  bindO (L1000035 (TLwLineWithin_1000035b n0 c1 n2 c3 n4 c5 i6 i7 y1.2.2 y1.1 y1.2.1 n8 n9)) fun z =>
  Sum.elim (fun _y2 =>
    E (XLwLineWithin_1000040a ())) (fun z0 => Sum.elim (fun y3 =>
    bindO (L1000028 (TLwLineWithin_1000028a y3.1 y3.2.1 y3.2.2.1 y3.2.2.2.1 y3.2.2.2.2.1 y3.2.2.2.2.2)) fun z =>
    Sum.elim (fun y4 =>
      bindO (L1000021 (TLwLineWithin_1000021a y4.1 y4.2.1 y4.2.2.1 y4.2.2.2.1 y4.2.2.2.2.1 y4.2.2.2.2.2)) fun z =>
      Sum.elim (fun _y5 =>
        E (XLwLineWithin_1000040a ())) (fun z0 => Sum.elim (fun y6 =>
        bif (y6.2.2.2.1 == (1 : Int)) then
          bindO (F 19 (RSh.one (CK.int IntKind.i64)) [(PV.list y6.1 y6.2.1)]) fun (y7 : (Int)) =>
          bif (decide (y7 > (0 : Int))) then
            bindO (F 13 (RSh.one CK.list) [(PV.list 0 [])]) fun (y8 : ((Nat) × (List PV))) =>
            bindO (F 14 (RSh.tup [(Prod.mk true [(CK.int IntKind.i64), (CK.int IntKind.i64)]), (Prod.mk false [(CK.int IntKind.i64)])]) [(PV.list y8.1 y8.2), (PV.int IntKind.i64 y6.2.2.2.1)]) fun (y9 : ((Int) × ((Int) × (Int)))) =>
            bif (y9.2.2 != (0 : Int)) then
              E (XLwLineWithin_1000040a ())
            else bindO (F 21 (RSh.agg [(CK.int IntKind.i64), (CK.int IntKind.i64)]) [(PV.int IntKind.i64 (w64 ((w64 ((w64 ((y6.1 : Int) - (1 : Int))) * y6.2.2.2.2.2)) - y6.2.2.2.2.1))), (PV.int IntKind.i64 y6.2.2.2.2.2)]) fun (y10 : ((Int) × (Int))) =>
            bif (!((y9.1 == y10.1) && ((y9.2.1 == y10.2) && true))) then
              E (XLwLineWithin_1000040a ())
            else E (XLwLineWithin_1000040b (y6.1, y6.2.1, y6.2.2.1, y6.2.2.2.1))
          else E (XLwLineWithin_1000040b (y6.1, y6.2.1, y6.2.2.1, y6.2.2.2.1))
        else E (XLwLineWithin_1000040b (y6.1, y6.2.1, y6.2.2.1, y6.2.2.2.1))) (fun y11 =>
        bif (y11.2.2.2.2.2.2.2.1 == (1 : Int)) then
          bindO (F 19 (RSh.one (CK.int IntKind.i64)) [(PV.list y11.1 y11.2.1)]) fun (y12 : (Int)) =>
          bif (decide (y12 > (0 : Int))) then
            bindO (F 13 (RSh.one CK.list) [(PV.list y11.2.2.2.2.1 y11.2.2.2.2.2.1)]) fun (y13 : ((Nat) × (List PV))) =>
            bindO (F 14 (RSh.tup [(Prod.mk true [(CK.int IntKind.i64), (CK.int IntKind.i64)]), (Prod.mk false [(CK.int IntKind.i64)])]) [(PV.list y13.1 y13.2), (PV.int IntKind.i64 y11.2.2.2.2.2.2.2.1)]) fun (y14 : ((Int) × ((Int) × (Int)))) =>
            bif (y14.2.2 != (0 : Int)) then
              E (XLwLineWithin_1000040a ())
            else bindO (F 21 (RSh.agg [(CK.int IntKind.i64), (CK.int IntKind.i64)]) [(PV.int IntKind.i64 (w64 ((w64 ((w64 ((y11.1 : Int) - (1 : Int))) * y11.2.2.2.2.2.2.2.2.2.1)) - y11.2.2.2.2.2.2.2.2.1))), (PV.int IntKind.i64 y11.2.2.2.2.2.2.2.2.2.1)]) fun (y15 : ((Int) × (Int))) =>
            bif (!((y14.1 == y15.1) && ((y14.2.1 == y15.2) && true))) then
              E (XLwLineWithin_1000040a ())
            else E (XLwLineWithin_1000040c (y11.1, y11.2.1, y11.2.2.1, y11.2.2.2.1, y11.2.2.2.2.1, y11.2.2.2.2.2.1, y11.2.2.2.2.2.2.1, y11.2.2.2.2.2.2.2.1, y11.2.2.2.2.2.2.2.2.2.2.1, y11.2.2.2.2.2.2.2.2.2.2.2))
          else E (XLwLineWithin_1000040c (y11.1, y11.2.1, y11.2.2.1, y11.2.2.2.1, y11.2.2.2.2.1, y11.2.2.2.2.2.1, y11.2.2.2.2.2.2.1, y11.2.2.2.2.2.2.2.1, y11.2.2.2.2.2.2.2.2.2.2.1, y11.2.2.2.2.2.2.2.2.2.2.2))
        else E (XLwLineWithin_1000040c (y11.1, y11.2.1, y11.2.2.1, y11.2.2.2.1, y11.2.2.2.2.1, y11.2.2.2.2.2.1, y11.2.2.2.2.2.2.1, y11.2.2.2.2.2.2.2.1, y11.2.2.2.2.2.2.2.2.2.2.1, y11.2.2.2.2.2.2.2.2.2.2.2))) z0) z) (fun z0 => Sum.elim (fun y16 =>
      bindO (L1000021 (TLwLineWithin_1000021b y16.1 y16.2.1 y16.2.2.1 y16.2.2.2.1 y16.2.2.2.2.1 y16.2.2.2.2.2.1 y16.2.2.2.2.2.2.1 y16.2.2.2.2.2.2.2.1 y16.2.2.2.2.2.2.2.2.1 y16.2.2.2.2.2.2.2.2.2.1 y16.2.2.2.2.2.2.2.2.2.2.1 y16.2.2.2.2.2.2.2.2.2.2.2)) fun z =>
      Sum.elim (fun _y17 =>
        E (XLwLineWithin_1000040a ())) (fun z0 => Sum.elim (fun y18 =>
        bif (y18.2.2.2.1 == (1 : Int)) then
          bindO (F 19 (RSh.one (CK.int IntKind.i64)) [(PV.list y18.1 y18.2.1)]) fun (y19 : (Int)) =>
          bif (decide (y19 > (0 : Int))) then
            bindO (F 13 (RSh.one CK.list) [(PV.list 0 [])]) fun (y20 : ((Nat) × (List PV))) =>
            bindO (F 14 (RSh.tup [(Prod.mk true [(CK.int IntKind.i64), (CK.int IntKind.i64)]), (Prod.mk false [(CK.int IntKind.i64)])]) [(PV.list y20.1 y20.2), (PV.int IntKind.i64 y18.2.2.2.1)]) fun (y21 : ((Int) × ((Int) × (Int)))) =>
            bif (y21.2.2 != (0 : Int)) then
              E (XLwLineWithin_1000040a ())
            else bindO (F 21 (RSh.agg [(CK.int IntKind.i64), (CK.int IntKind.i64)]) [(PV.int IntKind.i64 (w64 ((w64 ((w64 ((y18.1 : Int) - (1 : Int))) * y18.2.2.2.2.2)) - y18.2.2.2.2.1))), (PV.int IntKind.i64 y18.2.2.2.2.2)]) fun (y22 : ((Int) × (Int))) =>
            bif (!((y21.1 == y22.1) && ((y21.2.1 == y22.2) && true))) then
              E (XLwLineWithin_1000040a ())
            else E (XLwLineWithin_1000040b (y18.1, y18.2.1, y18.2.2.1, y18.2.2.2.1))
          else E (XLwLineWithin_1000040b (y18.1, y18.2.1, y18.2.2.1, y18.2.2.2.1))
        else E (XLwLineWithin_1000040b (y18.1, y18.2.1, y18.2.2.1, y18.2.2.2.1))) (fun y23 =>
        bif (y23.2.2.2.2.2.2.2.1 == (1 : Int)) then
          bindO (F 19 (RSh.one (CK.int IntKind.i64)) [(PV.list y23.1 y23.2.1)]) fun (y24 : (Int)) =>
          bif (decide (y24 > (0 : Int))) then
            bindO (F 13 (RSh.one CK.list) [(PV.list y23.2.2.2.2.1 y23.2.2.2.2.2.1)]) fun (y25 : ((Nat) × (List PV))) =>
            bindO (F 14 (RSh.tup [(Prod.mk true [(CK.int IntKind.i64), (CK.int IntKind.i64)]), (Prod.mk false [(CK.int IntKind.i64)])]) [(PV.list y25.1 y25.2), (PV.int IntKind.i64 y23.2.2.2.2.2.2.2.1)]) fun (y26 : ((Int) × ((Int) × (Int)))) =>
            bif (y26.2.2 != (0 : Int)) then
              E (XLwLineWithin_1000040a ())
            else bindO (F 21 (RSh.agg [(CK.int IntKind.i64), (CK.int IntKind.i64)]) [(PV.int IntKind.i64 (w64 ((w64 ((w64 ((y23.1 : Int) - (1 : Int))) * y23.2.2.2.2.2.2.2.2.2.1)) - y23.2.2.2.2.2.2.2.2.1))), (PV.int IntKind.i64 y23.2.2.2.2.2.2.2.2.2.1)]) fun (y27 : ((Int) × (Int))) =>
            bif (!((y26.1 == y27.1) && ((y26.2.1 == y27.2) && true))) then
              E (XLwLineWithin_1000040a ())
            else E (XLwLineWithin_1000040c (y23.1, y23.2.1, y23.2.2.1, y23.2.2.2.1, y23.2.2.2.2.1, y23.2.2.2.2.2.1, y23.2.2.2.2.2.2.1, y23.2.2.2.2.2.2.2.1, y23.2.2.2.2.2.2.2.2.2.2.1, y23.2.2.2.2.2.2.2.2.2.2.2))
          else E (XLwLineWithin_1000040c (y23.1, y23.2.1, y23.2.2.1, y23.2.2.2.1, y23.2.2.2.2.1, y23.2.2.2.2.2.1, y23.2.2.2.2.2.2.1, y23.2.2.2.2.2.2.2.1, y23.2.2.2.2.2.2.2.2.2.2.1, y23.2.2.2.2.2.2.2.2.2.2.2))
        else E (XLwLineWithin_1000040c (y23.1, y23.2.1, y23.2.2.1, y23.2.2.2.1, y23.2.2.2.2.1, y23.2.2.2.2.2.1, y23.2.2.2.2.2.2.1, y23.2.2.2.2.2.2.2.1, y23.2.2.2.2.2.2.2.2.2.2.1, y23.2.2.2.2.2.2.2.2.2.2.2))) z0) z) (fun _y28 =>
      E (XLwLineWithin_1000040a ())) z0) z) (fun y29 =>
    bindO (L1000028 (TLwLineWithin_1000028b y29.1 y29.2.1 y29.2.2.1 y29.2.2.2.1 y29.2.2.2.2.1 y29.2.2.2.2.2.1 y29.2.2.2.2.2.2.1 y29.2.2.2.2.2.2.2.1 y29.2.2.2.2.2.2.2.2.1 y29.2.2.2.2.2.2.2.2.2.1 y29.2.2.2.2.2.2.2.2.2.2.1 y29.2.2.2.2.2.2.2.2.2.2.2)) fun z =>
    Sum.elim (fun y30 =>
      bindO (L1000021 (TLwLineWithin_1000021a y30.1 y30.2.1 y30.2.2.1 y30.2.2.2.1 y30.2.2.2.2.1 y30.2.2.2.2.2)) fun z =>
      Sum.elim (fun _y31 =>
        E (XLwLineWithin_1000040a ())) (fun z0 => Sum.elim (fun y32 =>
        bif (y32.2.2.2.1 == (1 : Int)) then
          bindO (F 19 (RSh.one (CK.int IntKind.i64)) [(PV.list y32.1 y32.2.1)]) fun (y33 : (Int)) =>
          bif (decide (y33 > (0 : Int))) then
            bindO (F 13 (RSh.one CK.list) [(PV.list 0 [])]) fun (y34 : ((Nat) × (List PV))) =>
            bindO (F 14 (RSh.tup [(Prod.mk true [(CK.int IntKind.i64), (CK.int IntKind.i64)]), (Prod.mk false [(CK.int IntKind.i64)])]) [(PV.list y34.1 y34.2), (PV.int IntKind.i64 y32.2.2.2.1)]) fun (y35 : ((Int) × ((Int) × (Int)))) =>
            bif (y35.2.2 != (0 : Int)) then
              E (XLwLineWithin_1000040a ())
            else bindO (F 21 (RSh.agg [(CK.int IntKind.i64), (CK.int IntKind.i64)]) [(PV.int IntKind.i64 (w64 ((w64 ((w64 ((y32.1 : Int) - (1 : Int))) * y32.2.2.2.2.2)) - y32.2.2.2.2.1))), (PV.int IntKind.i64 y32.2.2.2.2.2)]) fun (y36 : ((Int) × (Int))) =>
            bif (!((y35.1 == y36.1) && ((y35.2.1 == y36.2) && true))) then
              E (XLwLineWithin_1000040a ())
            else E (XLwLineWithin_1000040b (y32.1, y32.2.1, y32.2.2.1, y32.2.2.2.1))
          else E (XLwLineWithin_1000040b (y32.1, y32.2.1, y32.2.2.1, y32.2.2.2.1))
        else E (XLwLineWithin_1000040b (y32.1, y32.2.1, y32.2.2.1, y32.2.2.2.1))) (fun y37 =>
        bif (y37.2.2.2.2.2.2.2.1 == (1 : Int)) then
          bindO (F 19 (RSh.one (CK.int IntKind.i64)) [(PV.list y37.1 y37.2.1)]) fun (y38 : (Int)) =>
          bif (decide (y38 > (0 : Int))) then
            bindO (F 13 (RSh.one CK.list) [(PV.list y37.2.2.2.2.1 y37.2.2.2.2.2.1)]) fun (y39 : ((Nat) × (List PV))) =>
            bindO (F 14 (RSh.tup [(Prod.mk true [(CK.int IntKind.i64), (CK.int IntKind.i64)]), (Prod.mk false [(CK.int IntKind.i64)])]) [(PV.list y39.1 y39.2), (PV.int IntKind.i64 y37.2.2.2.2.2.2.2.1)]) fun (y40 : ((Int) × ((Int) × (Int)))) =>
            bif (y40.2.2 != (0 : Int)) then
              E (XLwLineWithin_1000040a ())
            else bindO (F 21 (RSh.agg [(CK.int IntKind.i64), (CK.int IntKind.i64)]) [(PV.int IntKind.i64 (w64 ((w64 ((w64 ((y37.1 : Int) - (1 : Int))) * y37.2.2.2.2.2.2.2.2.2.1)) - y37.2.2.2.2.2.2.2.2.1))), (PV.int IntKind.i64 y37.2.2.2.2.2.2.2.2.2.1)]) fun (y41 : ((Int) × (Int))) =>
            bif (!((y40.1 == y41.1) && ((y40.2.1 == y41.2) && true))) then
              E (XLwLineWithin_1000040a ())
            else E (XLwLineWithin_1000040c (y37.1, y37.2.1, y37.2.2.1, y37.2.2.2.1, y37.2.2.2.2.1, y37.2.2.2.2.2.1, y37.2.2.2.2.2.2.1, y37.2.2.2.2.2.2.2.1, y37.2.2.2.2.2.2.2.2.2.2.1, y37.2.2.2.2.2.2.2.2.2.2.2))
          else E (XLwLineWithin_1000040c (y37.1, y37.2.1, y37.2.2.1, y37.2.2.2.1, y37.2.2.2.2.1, y37.2.2.2.2.2.1, y37.2.2.2.2.2.2.1, y37.2.2.2.2.2.2.2.1, y37.2.2.2.2.2.2.2.2.2.2.1, y37.2.2.2.2.2.2.2.2.2.2.2))
        else E (XLwLineWithin_1000040c (y37.1, y37.2.1, y37.2.2.1, y37.2.2.2.1, y37.2.2.2.2.1, y37.2.2.2.2.2.1, y37.2.2.2.2.2.2.1, y37.2.2.2.2.2.2.2.1, y37.2.2.2.2.2.2.2.2.2.2.1, y37.2.2.2.2.2.2.2.2.2.2.2))) z0) z) (fun z0 => Sum.elim (fun y42 =>
      bindO (L1000021 (TLwLineWithin_1000021b y42.1 y42.2.1 y42.2.2.1 y42.2.2.2.1 y42.2.2.2.2.1 y42.2.2.2.2.2.1 y42.2.2.2.2.2.2.1 y42.2.2.2.2.2.2.2.1 y42.2.2.2.2.2.2.2.2.1 y42.2.2.2.2.2.2.2.2.2.1 y42.2.2.2.2.2.2.2.2.2.2.1 y42.2.2.2.2.2.2.2.2.2.2.2)) fun z =>
      Sum.elim (fun _y43 =>
        E (XLwLineWithin_1000040a ())) (fun z0 => Sum.elim (fun y44 =>
        bif (y44.2.2.2.1 == (1 : Int)) then
          bindO (F 19 (RSh.one (CK.int IntKind.i64)) [(PV.list y44.1 y44.2.1)]) fun (y45 : (Int)) =>
          bif (decide (y45 > (0 : Int))) then
            bindO (F 13 (RSh.one CK.list) [(PV.list 0 [])]) fun (y46 : ((Nat) × (List PV))) =>
            bindO (F 14 (RSh.tup [(Prod.mk true [(CK.int IntKind.i64), (CK.int IntKind.i64)]), (Prod.mk false [(CK.int IntKind.i64)])]) [(PV.list y46.1 y46.2), (PV.int IntKind.i64 y44.2.2.2.1)]) fun (y47 : ((Int) × ((Int) × (Int)))) =>
            bif (y47.2.2 != (0 : Int)) then
              E (XLwLineWithin_1000040a ())
            else bindO (F 21 (RSh.agg [(CK.int IntKind.i64), (CK.int IntKind.i64)]) [(PV.int IntKind.i64 (w64 ((w64 ((w64 ((y44.1 : Int) - (1 : Int))) * y44.2.2.2.2.2)) - y44.2.2.2.2.1))), (PV.int IntKind.i64 y44.2.2.2.2.2)]) fun (y48 : ((Int) × (Int))) =>
            bif (!((y47.1 == y48.1) && ((y47.2.1 == y48.2) && true))) then
              E (XLwLineWithin_1000040a ())
            else E (XLwLineWithin_1000040b (y44.1, y44.2.1, y44.2.2.1, y44.2.2.2.1))
          else E (XLwLineWithin_1000040b (y44.1, y44.2.1, y44.2.2.1, y44.2.2.2.1))
        else E (XLwLineWithin_1000040b (y44.1, y44.2.1, y44.2.2.1, y44.2.2.2.1))) (fun y49 =>
        bif (y49.2.2.2.2.2.2.2.1 == (1 : Int)) then
          bindO (F 19 (RSh.one (CK.int IntKind.i64)) [(PV.list y49.1 y49.2.1)]) fun (y50 : (Int)) =>
          bif (decide (y50 > (0 : Int))) then
            bindO (F 13 (RSh.one CK.list) [(PV.list y49.2.2.2.2.1 y49.2.2.2.2.2.1)]) fun (y51 : ((Nat) × (List PV))) =>
            bindO (F 14 (RSh.tup [(Prod.mk true [(CK.int IntKind.i64), (CK.int IntKind.i64)]), (Prod.mk false [(CK.int IntKind.i64)])]) [(PV.list y51.1 y51.2), (PV.int IntKind.i64 y49.2.2.2.2.2.2.2.1)]) fun (y52 : ((Int) × ((Int) × (Int)))) =>
            bif (y52.2.2 != (0 : Int)) then
              E (XLwLineWithin_1000040a ())
            else bindO (F 21 (RSh.agg [(CK.int IntKind.i64), (CK.int IntKind.i64)]) [(PV.int IntKind.i64 (w64 ((w64 ((w64 ((y49.1 : Int) - (1 : Int))) * y49.2.2.2.2.2.2.2.2.2.1)) - y49.2.2.2.2.2.2.2.2.1))), (PV.int IntKind.i64 y49.2.2.2.2.2.2.2.2.2.1)]) fun (y53 : ((Int) × (Int))) =>
            bif (!((y52.1 == y53.1) && ((y52.2.1 == y53.2) && true))) then
              E (XLwLineWithin_1000040a ())
            else E (XLwLineWithin_1000040c (y49.1, y49.2.1, y49.2.2.1, y49.2.2.2.1, y49.2.2.2.2.1, y49.2.2.2.2.2.1, y49.2.2.2.2.2.2.1, y49.2.2.2.2.2.2.2.1, y49.2.2.2.2.2.2.2.2.2.2.1, y49.2.2.2.2.2.2.2.2.2.2.2))
          else E (XLwLineWithin_1000040c (y49.1, y49.2.1, y49.2.2.1, y49.2.2.2.1, y49.2.2.2.2.1, y49.2.2.2.2.2.1, y49.2.2.2.2.2.2.1, y49.2.2.2.2.2.2.2.1, y49.2.2.2.2.2.2.2.2.2.2.1, y49.2.2.2.2.2.2.2.2.2.2.2))
        else E (XLwLineWithin_1000040c (y49.1, y49.2.1, y49.2.2.1, y49.2.2.2.1, y49.2.2.2.2.1, y49.2.2.2.2.2.1, y49.2.2.2.2.2.2.1, y49.2.2.2.2.2.2.2.1, y49.2.2.2.2.2.2.2.2.2.2.1, y49.2.2.2.2.2.2.2.2.2.2.2))) z0) z) (fun _y54 =>
      E (XLwLineWithin_1000040a ())) z0) z) z0) z
theorem BLwLineWithin_1000040b_eq (F : FnT) (N : Q → Option (Ext × S)) (E : Ext × Q → Option (Ext × S)) (L0 : Q → Option YLwLineWithin_0) (L2 : Q → Option YLwLineWithin_2) (L1000081 : Q → Option YLwLineWithin_1000081) (L1000057 : Q → Option YLwLineWithin_1000057) (L1000040 : Q → Option YLwLineWithin_1000040) (L1000035 : Q → Option YLwLineWithin_1000035) (L1000028 : Q → Option YLwLineWithin_1000028) (L1000021 : Q → Option YLwLineWithin_1000021) (n0 : Nat) (c1 : List PV) (n2 : Nat) (c3 : List PV) (n4 : Nat) (c5 : List PV) (i6 : Int) (i7 : Int) (n8 : Nat) (n9 : Nat) : semN (callP F ELwLineWithin 20) s3 (loopT [⟨0, YLwLineWithin_0, L0, XLLwLineWithin_0⟩, ⟨2, YLwLineWithin_2, L2, XLLwLineWithin_2⟩, ⟨1000081, YLwLineWithin_1000081, L1000081, XLLwLineWithin_1000081⟩, ⟨1000057, YLwLineWithin_1000057, L1000057, XLLwLineWithin_1000057⟩, ⟨1000040, YLwLineWithin_1000040, L1000040, XLLwLineWithin_1000040⟩, ⟨1000035, YLwLineWithin_1000035, L1000035, XLLwLineWithin_1000035⟩, ⟨1000028, YLwLineWithin_1000028, L1000028, XLLwLineWithin_1000028⟩, ⟨1000021, YLwLineWithin_1000021, L1000021, XLLwLineWithin_1000021⟩]) 400 (blkIn a3.body 1000040) E (TLwLineWithin_1000040b n0 c1 n2 c3 n4 c5 i6 i7 n8 n9) = BLwLineWithin_1000040b F N E L0 L2 L1000081 L1000057 L1000040 L1000035 L1000028 L1000021 n0 c1 n2 c3 n4 c5 i6 i7 n8 n9 := by kernel_rfl
theorem RLwLineWithin_1000040b_of  (n0 : Nat) (c1 : List PV) (n2 : Nat) (c3 : List PV) (n4 : Nat) (c5 : List PV) (i6 : Int) (i7 : Int) (n8 : Nat) (n9 : Nat) {r : Ext × S} (h : BLwLineWithin_1000040b (Fn env) RLwLineWithin_1000040 exO LLwLineWithin_0 LLwLineWithin_2 LLwLineWithin_1000081 LLwLineWithin_1000057 LLwLineWithin_1000040 LLwLineWithin_1000035 LLwLineWithin_1000028 LLwLineWithin_1000021 n0 c1 n2 c3 n4 c5 i6 i7 n8 n9 = some r) : RLwLineWithin_1000040 (TLwLineWithin_1000040b n0 c1 n2 c3 n4 c5 i6 i7 n8 n9) = some r :=
  nd_of ELwLineWithin_ok (by kernel_rfl) (lo_cons (lpO_ok ULwLineWithin) (lo_cons (lpO_ok ULwLineWithin) (lo_cons (lpO_ok ULwLineWithin) (lo_cons (lpO_ok ULwLineWithin) (lo_cons (lpO_ok ULwLineWithin) (lo_cons (lpO_ok ULwLineWithin) (lo_cons (lpO_ok ULwLineWithin) (lo_cons (lpO_ok ULwLineWithin) lo_nil)))))))) (by kernel_rfl) ((BLwLineWithin_1000040b_eq _ RLwLineWithin_1000040 _ _ _ _ _ _ _ _ _ _ _ _ _ _ _ _ _ _ _).trans h)
def BLwLineWithin_1000035a (F : FnT) (_N : Q → Option (Ext × S)) (E : Ext × Q → Option (Ext × S)) (_L0 : Q → Option YLwLineWithin_0) (_L2 : Q → Option YLwLineWithin_2) (_L1000081 : Q → Option YLwLineWithin_1000081) (_L1000057 : Q → Option YLwLineWithin_1000057) (_L1000040 : Q → Option YLwLineWithin_1000040) (_L1000035 : Q → Option YLwLineWithin_1000035) (_L1000028 : Q → Option YLwLineWithin_1000028) (_L1000021 : Q → Option YLwLineWithin_1000021) (n0 : Nat) (c1 : List PV) (i2 : Int) (i3 : Int) (i4 : Int) (i5 : Int) (i6 : Int) : Option (Ext × S) :=
  bif (i4 != (0 : Int)) then
    E (XLwLineWithin_1000035a ())
  else bindO (F 15 (RSh.one CK.bool) [(PV.agg [(PV.int IntKind.i64 i5), (PV.int IntKind.i64 i6)])]) fun (y0 : (Bool)) =>
  bif y0 then
    bindO (F 16 (RSh.one CK.bool) [(PV.agg [(PV.int IntKind.i64 i5), (PV.int IntKind.i64 i6)])]) fun (y1 : (Bool)) =>
    bif y1 then
      bif (decide (i5 < (0 : Int))) then
        E (XLwLineWithin_1000035a ())
      else bindO (F 18 (RSh.agg [(CK.int IntKind.i64), (CK.int IntKind.i64)]) [(PV.int IntKind.i64 (w64 ((n0 : Int) - (1 : Int))))]) fun (y2 : ((Int) × (Int))) =>
      bindO (F 17 (RSh.one (CK.int IntKind.i64)) [(PV.agg [(PV.int IntKind.i64 i5), (PV.int IntKind.i64 i6)]), (PV.agg [(PV.int IntKind.i64 y2.1), (PV.int IntKind.i64 y2.2)])]) fun (y3 : (Int)) =>
      bif (decide (y3 > (0 : Int))) then
        E (XLwLineWithin_1000035a ())
      else E (XLwLineWithin_1000035b (n0, c1, i2, i3, i5, i6))
    else E (XLwLineWithin_1000035a ())
  else E (XLwLineWithin_1000035a ())
theorem BLwLineWithin_1000035a_eq (F : FnT) (N : Q → Option (Ext × S)) (E : Ext × Q → Option (Ext × S)) (L0 : Q → Option YLwLineWithin_0) (L2 : Q → Option YLwLineWithin_2) (L1000081 : Q → Option YLwLineWithin_1000081) (L1000057 : Q → Option YLwLineWithin_1000057) (L1000040 : Q → Option YLwLineWithin_1000040) (L1000035 : Q → Option YLwLineWithin_1000035) (L1000028 : Q → Option YLwLineWithin_1000028) (L1000021 : Q → Option YLwLineWithin_1000021) (n0 : Nat) (c1 : List PV) (i2 : Int) (i3 : Int) (i4 : Int) (i5 : Int) (i6 : Int) : semN (callP F ELwLineWithin 20) s3 (loopT [⟨0, YLwLineWithin_0, L0, XLLwLineWithin_0⟩, ⟨2, YLwLineWithin_2, L2, XLLwLineWithin_2⟩, ⟨1000081, YLwLineWithin_1000081, L1000081, XLLwLineWithin_1000081⟩, ⟨1000057, YLwLineWithin_1000057, L1000057, XLLwLineWithin_1000057⟩, ⟨1000040, YLwLineWithin_1000040, L1000040, XLLwLineWithin_1000040⟩, ⟨1000035, YLwLineWithin_1000035, L1000035, XLLwLineWithin_1000035⟩, ⟨1000028, YLwLineWithin_1000028, L1000028, XLLwLineWithin_1000028⟩, ⟨1000021, YLwLineWithin_1000021, L1000021, XLLwLineWithin_1000021⟩]) 400 (blkIn a3.body 1000035) E (TLwLineWithin_1000035a n0 c1 i2 i3 i4 i5 i6) = BLwLineWithin_1000035a F N E L0 L2 L1000081 L1000057 L1000040 L1000035 L1000028 L1000021 n0 c1 i2 i3 i4 i5 i6 := by kernel_rfl
theorem RLwLineWithin_1000035a_of  (n0 : Nat) (c1 : List PV) (i2 : Int) (i3 : Int) (i4 : Int) (i5 : Int) (i6 : Int) {r : Ext × S} (h : BLwLineWithin_1000035a (Fn env) RLwLineWithin_1000035 exO LLwLineWithin_0 LLwLineWithin_2 LLwLineWithin_1000081 LLwLineWithin_1000057 LLwLineWithin_1000040 LLwLineWithin_1000035 LLwLineWithin_1000028 LLwLineWithin_1000021 n0 c1 i2 i3 i4 i5 i6 = some r) : RLwLineWithin_1000035 (TLwLineWithin_1000035a n0 c1 i2 i3 i4 i5 i6) = some r :=
  nd_of ELwLineWithin_ok (by kernel_rfl) (lo_cons (lpO_ok ULwLineWithin) (lo_cons (lpO_ok ULwLineWithin) (lo_cons (lpO_ok ULwLineWithin) (lo_cons (lpO_ok ULwLineWithin) (lo_cons (lpO_ok ULwLineWithin) (lo_cons (lpO_ok ULwLineWithin) (lo_cons (lpO_ok ULwLineWithin) (lo_cons (lpO_ok ULwLineWithin) lo_nil)))))))) (by kernel_rfl) ((BLwLineWithin_1000035a_eq _ RLwLineWithin_1000035 _ _ _ _ _ _ _ _ _ _ _ _ _ _ _ _).trans h)
def BLwLineWithin_1000035b (F : FnT) (_N : Q → Option (Ext × S)) (E : Ext × Q → Option (Ext × S)) (_L0 : Q → Option YLwLineWithin_0) (_L2 : Q → Option YLwLineWithin_2) (_L1000081 : Q → Option YLwLineWithin_1000081) (_L1000057 : Q → Option YLwLineWithin_1000057) (_L1000040 : Q → Option YLwLineWithin_1000040) (_L1000035 : Q → Option YLwLineWithin_1000035) (_L1000028 : Q → Option YLwLineWithin_1000028) (_L1000021 : Q → Option YLwLineWithin_1000021) (n0 : Nat) (c1 : List PV) (n2 : Nat) (c3 : List PV) (n4 : Nat) (c5 : List PV) (i6 : Int) (i7 : Int) (i8 : Int) (i9 : Int) (i10 : Int) (n11 : Nat) (n12 : Nat) : Option (Ext × S) :=
  bif (i8 != (0 : Int)) then
    E (XLwLineWithin_1000035a ())
  else bindO (F 15 (RSh.one CK.bool) [(PV.agg [(PV.int IntKind.i64 i9), (PV.int IntKind.i64 i10)])]) fun (y0 : (Bool)) =>
  bif y0 then
    bindO (F 16 (RSh.one CK.bool) [(PV.agg [(PV.int IntKind.i64 i9), (PV.int IntKind.i64 i10)])]) fun (y1 : (Bool)) =>
    bif y1 then
      bif (decide (i9 < (0 : Int))) then
        E (XLwLineWithin_1000035a ())
      else bindO (F 18 (RSh.agg [(CK.int IntKind.i64), (CK.int IntKind.i64)]) [(PV.int IntKind.i64 (w64 ((n0 : Int) - (1 : Int))))]) fun (y2 : ((Int) × (Int))) =>
      bindO (F 17 (RSh.one (CK.int IntKind.i64)) [(PV.agg [(PV.int IntKind.i64 i9), (PV.int IntKind.i64 i10)]), (PV.agg [(PV.int IntKind.i64 y2.1), (PV.int IntKind.i64 y2.2)])]) fun (y3 : (Int)) =>
      bif (decide (y3 > (0 : Int))) then
        E (XLwLineWithin_1000035a ())
      else E (XLwLineWithin_1000035c (n0, c1, n2, c3, n4, c5, i6, i7, i9, i10, n11, n12))
    else E (XLwLineWithin_1000035a ())
  else E (XLwLineWithin_1000035a ())
theorem BLwLineWithin_1000035b_eq (F : FnT) (N : Q → Option (Ext × S)) (E : Ext × Q → Option (Ext × S)) (L0 : Q → Option YLwLineWithin_0) (L2 : Q → Option YLwLineWithin_2) (L1000081 : Q → Option YLwLineWithin_1000081) (L1000057 : Q → Option YLwLineWithin_1000057) (L1000040 : Q → Option YLwLineWithin_1000040) (L1000035 : Q → Option YLwLineWithin_1000035) (L1000028 : Q → Option YLwLineWithin_1000028) (L1000021 : Q → Option YLwLineWithin_1000021) (n0 : Nat) (c1 : List PV) (n2 : Nat) (c3 : List PV) (n4 : Nat) (c5 : List PV) (i6 : Int) (i7 : Int) (i8 : Int) (i9 : Int) (i10 : Int) (n11 : Nat) (n12 : Nat) : semN (callP F ELwLineWithin 20) s3 (loopT [⟨0, YLwLineWithin_0, L0, XLLwLineWithin_0⟩, ⟨2, YLwLineWithin_2, L2, XLLwLineWithin_2⟩, ⟨1000081, YLwLineWithin_1000081, L1000081, XLLwLineWithin_1000081⟩, ⟨1000057, YLwLineWithin_1000057, L1000057, XLLwLineWithin_1000057⟩, ⟨1000040, YLwLineWithin_1000040, L1000040, XLLwLineWithin_1000040⟩, ⟨1000035, YLwLineWithin_1000035, L1000035, XLLwLineWithin_1000035⟩, ⟨1000028, YLwLineWithin_1000028, L1000028, XLLwLineWithin_1000028⟩, ⟨1000021, YLwLineWithin_1000021, L1000021, XLLwLineWithin_1000021⟩]) 400 (blkIn a3.body 1000035) E (TLwLineWithin_1000035b n0 c1 n2 c3 n4 c5 i6 i7 i8 i9 i10 n11 n12) = BLwLineWithin_1000035b F N E L0 L2 L1000081 L1000057 L1000040 L1000035 L1000028 L1000021 n0 c1 n2 c3 n4 c5 i6 i7 i8 i9 i10 n11 n12 := by kernel_rfl
theorem RLwLineWithin_1000035b_of  (n0 : Nat) (c1 : List PV) (n2 : Nat) (c3 : List PV) (n4 : Nat) (c5 : List PV) (i6 : Int) (i7 : Int) (i8 : Int) (i9 : Int) (i10 : Int) (n11 : Nat) (n12 : Nat) {r : Ext × S} (h : BLwLineWithin_1000035b (Fn env) RLwLineWithin_1000035 exO LLwLineWithin_0 LLwLineWithin_2 LLwLineWithin_1000081 LLwLineWithin_1000057 LLwLineWithin_1000040 LLwLineWithin_1000035 LLwLineWithin_1000028 LLwLineWithin_1000021 n0 c1 n2 c3 n4 c5 i6 i7 i8 i9 i10 n11 n12 = some r) : RLwLineWithin_1000035 (TLwLineWithin_1000035b n0 c1 n2 c3 n4 c5 i6 i7 i8 i9 i10 n11 n12) = some r :=
  nd_of ELwLineWithin_ok (by kernel_rfl) (lo_cons (lpO_ok ULwLineWithin) (lo_cons (lpO_ok ULwLineWithin) (lo_cons (lpO_ok ULwLineWithin) (lo_cons (lpO_ok ULwLineWithin) (lo_cons (lpO_ok ULwLineWithin) (lo_cons (lpO_ok ULwLineWithin) (lo_cons (lpO_ok ULwLineWithin) (lo_cons (lpO_ok ULwLineWithin) lo_nil)))))))) (by kernel_rfl) ((BLwLineWithin_1000035b_eq _ RLwLineWithin_1000035 _ _ _ _ _ _ _ _ _ _ _ _ _ _ _ _ _ _ _ _ _ _).trans h)
def BLwLineWithin_1000028a (F : FnT) (_N : Q → Option (Ext × S)) (E : Ext × Q → Option (Ext × S)) (_L0 : Q → Option YLwLineWithin_0) (_L2 : Q → Option YLwLineWithin_2) (_L1000081 : Q → Option YLwLineWithin_1000081) (_L1000057 : Q → Option YLwLineWithin_1000057) (_L1000040 : Q → Option YLwLineWithin_1000040) (_L1000035 : Q → Option YLwLineWithin_1000035) (_L1000028 : Q → Option YLwLineWithin_1000028) (_L1000021 : Q → Option YLwLineWithin_1000021) (n0 : Nat) (c1 : List PV) (i2 : Int) (i3 : Int) (i4 : Int) (i5 : Int) : Option (Ext × S) :=
  bif (i3 == (2 : Int)) then
    bindO (F 19 (RSh.one (CK.int IntKind.i64)) [(PV.list n0 c1)]) fun (y0 : (Int)) =>
    bif (decide (y0 > (0 : Int))) then
      bindO (F 20 (RSh.one (CK.int IntKind.i64)) [(PV.int IntKind.i64 (w64 ((2 : Int) * (w64 (i4 - (w64 (i2 * i5)))))))]) fun (y1 : (Int)) =>
      bif (decide (y1 > i5)) then
        E (XLwLineWithin_1000028c ())
      else E (XLwLineWithin_1000028a (n0, c1, i2, i3, i4, i5))
    else E (XLwLineWithin_1000028a (n0, c1, i2, i3, i4, i5))
  else E (XLwLineWithin_1000028a (n0, c1, i2, i3, i4, i5))
theorem BLwLineWithin_1000028a_eq (F : FnT) (N : Q → Option (Ext × S)) (E : Ext × Q → Option (Ext × S)) (L0 : Q → Option YLwLineWithin_0) (L2 : Q → Option YLwLineWithin_2) (L1000081 : Q → Option YLwLineWithin_1000081) (L1000057 : Q → Option YLwLineWithin_1000057) (L1000040 : Q → Option YLwLineWithin_1000040) (L1000035 : Q → Option YLwLineWithin_1000035) (L1000028 : Q → Option YLwLineWithin_1000028) (L1000021 : Q → Option YLwLineWithin_1000021) (n0 : Nat) (c1 : List PV) (i2 : Int) (i3 : Int) (i4 : Int) (i5 : Int) : semN (callP F ELwLineWithin 20) s3 (loopT [⟨0, YLwLineWithin_0, L0, XLLwLineWithin_0⟩, ⟨2, YLwLineWithin_2, L2, XLLwLineWithin_2⟩, ⟨1000081, YLwLineWithin_1000081, L1000081, XLLwLineWithin_1000081⟩, ⟨1000057, YLwLineWithin_1000057, L1000057, XLLwLineWithin_1000057⟩, ⟨1000040, YLwLineWithin_1000040, L1000040, XLLwLineWithin_1000040⟩, ⟨1000035, YLwLineWithin_1000035, L1000035, XLLwLineWithin_1000035⟩, ⟨1000028, YLwLineWithin_1000028, L1000028, XLLwLineWithin_1000028⟩, ⟨1000021, YLwLineWithin_1000021, L1000021, XLLwLineWithin_1000021⟩]) 400 (blkIn a3.body 1000028) E (TLwLineWithin_1000028a n0 c1 i2 i3 i4 i5) = BLwLineWithin_1000028a F N E L0 L2 L1000081 L1000057 L1000040 L1000035 L1000028 L1000021 n0 c1 i2 i3 i4 i5 := by kernel_rfl
theorem RLwLineWithin_1000028a_of  (n0 : Nat) (c1 : List PV) (i2 : Int) (i3 : Int) (i4 : Int) (i5 : Int) {r : Ext × S} (h : BLwLineWithin_1000028a (Fn env) RLwLineWithin_1000028 exO LLwLineWithin_0 LLwLineWithin_2 LLwLineWithin_1000081 LLwLineWithin_1000057 LLwLineWithin_1000040 LLwLineWithin_1000035 LLwLineWithin_1000028 LLwLineWithin_1000021 n0 c1 i2 i3 i4 i5 = some r) : RLwLineWithin_1000028 (TLwLineWithin_1000028a n0 c1 i2 i3 i4 i5) = some r :=
  nd_of ELwLineWithin_ok (by kernel_rfl) (lo_cons (lpO_ok ULwLineWithin) (lo_cons (lpO_ok ULwLineWithin) (lo_cons (lpO_ok ULwLineWithin) (lo_cons (lpO_ok ULwLineWithin) (lo_cons (lpO_ok ULwLineWithin) (lo_cons (lpO_ok ULwLineWithin) (lo_cons (lpO_ok ULwLineWithin) (lo_cons (lpO_ok ULwLineWithin) lo_nil)))))))) (by kernel_rfl) ((BLwLineWithin_1000028a_eq _ RLwLineWithin_1000028 _ _ _ _ _ _ _ _ _ _ _ _ _ _ _).trans h)
def BLwLineWithin_1000028b (F : FnT) (_N : Q → Option (Ext × S)) (E : Ext × Q → Option (Ext × S)) (_L0 : Q → Option YLwLineWithin_0) (_L2 : Q → Option YLwLineWithin_2) (_L1000081 : Q → Option YLwLineWithin_1000081) (_L1000057 : Q → Option YLwLineWithin_1000057) (_L1000040 : Q → Option YLwLineWithin_1000040) (_L1000035 : Q → Option YLwLineWithin_1000035) (_L1000028 : Q → Option YLwLineWithin_1000028) (_L1000021 : Q → Option YLwLineWithin_1000021) (n0 : Nat) (c1 : List PV) (n2 : Nat) (c3 : List PV) (n4 : Nat) (c5 : List PV) (i6 : Int) (i7 : Int) (i8 : Int) (i9 : Int) (n10 : Nat) (n11 : Nat) : Option (Ext × S) :=
  bif (i7 == (2 : Int)) then
    bindO (F 19 (RSh.one (CK.int IntKind.i64)) [(PV.list n0 c1)]) fun (y0 : (Int)) =>
    bif (decide (y0 > (0 : Int))) then
      bindO (F 20 (RSh.one (CK.int IntKind.i64)) [(PV.int IntKind.i64 (w64 ((2 : Int) * (w64 (i8 - (w64 (i6 * i9)))))))]) fun (y1 : (Int)) =>
      bif (decide (y1 > i9)) then
        E (XLwLineWithin_1000028c ())
      else E (XLwLineWithin_1000028b (n0, c1, n2, c3, n4, c5, i6, i7, i8, i9, n10, n11))
    else E (XLwLineWithin_1000028b (n0, c1, n2, c3, n4, c5, i6, i7, i8, i9, n10, n11))
  else E (XLwLineWithin_1000028b (n0, c1, n2, c3, n4, c5, i6, i7, i8, i9, n10, n11))
theorem BLwLineWithin_1000028b_eq (F : FnT) (N : Q → Option (Ext × S)) (E : Ext × Q → Option (Ext × S)) (L0 : Q → Option YLwLineWithin_0) (L2 : Q → Option YLwLineWithin_2) (L1000081 : Q → Option YLwLineWithin_1000081) (L1000057 : Q → Option YLwLineWithin_1000057) (L1000040 : Q → Option YLwLineWithin_1000040) (L1000035 : Q → Option YLwLineWithin_1000035) (L1000028 : Q → Option YLwLineWithin_1000028) (L1000021 : Q → Option YLwLineWithin_1000021) (n0 : Nat) (c1 : List PV) (n2 : Nat) (c3 : List PV) (n4 : Nat) (c5 : List PV) (i6 : Int) (i7 : Int) (i8 : Int) (i9 : Int) (n10 : Nat) (n11 : Nat) : semN (callP F ELwLineWithin 20) s3 (loopT [⟨0, YLwLineWithin_0, L0, XLLwLineWithin_0⟩, ⟨2, YLwLineWithin_2, L2, XLLwLineWithin_2⟩, ⟨1000081, YLwLineWithin_1000081, L1000081, XLLwLineWithin_1000081⟩, ⟨1000057, YLwLineWithin_1000057, L1000057, XLLwLineWithin_1000057⟩, ⟨1000040, YLwLineWithin_1000040, L1000040, XLLwLineWithin_1000040⟩, ⟨1000035, YLwLineWithin_1000035, L1000035, XLLwLineWithin_1000035⟩, ⟨1000028, YLwLineWithin_1000028, L1000028, XLLwLineWithin_1000028⟩, ⟨1000021, YLwLineWithin_1000021, L1000021, XLLwLineWithin_1000021⟩]) 400 (blkIn a3.body 1000028) E (TLwLineWithin_1000028b n0 c1 n2 c3 n4 c5 i6 i7 i8 i9 n10 n11) = BLwLineWithin_1000028b F N E L0 L2 L1000081 L1000057 L1000040 L1000035 L1000028 L1000021 n0 c1 n2 c3 n4 c5 i6 i7 i8 i9 n10 n11 := by kernel_rfl
theorem RLwLineWithin_1000028b_of  (n0 : Nat) (c1 : List PV) (n2 : Nat) (c3 : List PV) (n4 : Nat) (c5 : List PV) (i6 : Int) (i7 : Int) (i8 : Int) (i9 : Int) (n10 : Nat) (n11 : Nat) {r : Ext × S} (h : BLwLineWithin_1000028b (Fn env) RLwLineWithin_1000028 exO LLwLineWithin_0 LLwLineWithin_2 LLwLineWithin_1000081 LLwLineWithin_1000057 LLwLineWithin_1000040 LLwLineWithin_1000035 LLwLineWithin_1000028 LLwLineWithin_1000021 n0 c1 n2 c3 n4 c5 i6 i7 i8 i9 n10 n11 = some r) : RLwLineWithin_1000028 (TLwLineWithin_1000028b n0 c1 n2 c3 n4 c5 i6 i7 i8 i9 n10 n11) = some r :=
  nd_of ELwLineWithin_ok (by kernel_rfl) (lo_cons (lpO_ok ULwLineWithin) (lo_cons (lpO_ok ULwLineWithin) (lo_cons (lpO_ok ULwLineWithin) (lo_cons (lpO_ok ULwLineWithin) (lo_cons (lpO_ok ULwLineWithin) (lo_cons (lpO_ok ULwLineWithin) (lo_cons (lpO_ok ULwLineWithin) (lo_cons (lpO_ok ULwLineWithin) lo_nil)))))))) (by kernel_rfl) ((BLwLineWithin_1000028b_eq _ RLwLineWithin_1000028 _ _ _ _ _ _ _ _ _ _ _ _ _ _ _ _ _ _ _ _ _).trans h)
def BLwLineWithin_1000021a (F : FnT) (_N : Q → Option (Ext × S)) (E : Ext × Q → Option (Ext × S)) (_L0 : Q → Option YLwLineWithin_0) (_L2 : Q → Option YLwLineWithin_2) (_L1000081 : Q → Option YLwLineWithin_1000081) (_L1000057 : Q → Option YLwLineWithin_1000057) (_L1000040 : Q → Option YLwLineWithin_1000040) (_L1000035 : Q → Option YLwLineWithin_1000035) (_L1000028 : Q → Option YLwLineWithin_1000028) (_L1000021 : Q → Option YLwLineWithin_1000021) (n0 : Nat) (c1 : List PV) (i2 : Int) (i3 : Int) (i4 : Int) (i5 : Int) : Option (Ext × S) :=
  bindO (F 10 (RSh.one (CK.int IntKind.i64)) [(PV.list 0 [])]) fun (y0 : (Int)) =>
  bif (y0 == (0 : Int)) then
    bindO (F 13 (RSh.one CK.list) [(PV.list 0 [])]) fun (y1 : ((Nat) × (List PV))) =>
    bindO (F 14 (RSh.tup [(Prod.mk true [(CK.int IntKind.i64), (CK.int IntKind.i64)]), (Prod.mk false [(CK.int IntKind.i64)])]) [(PV.list y1.1 y1.2), (PV.int IntKind.i64 i3)]) fun (y2 : ((Int) × ((Int) × (Int)))) =>
    bif (y2.2.2 != (0 : Int)) then
      E (XLwLineWithin_1000021a ())
    else bif (!((y2.1 == i4) && ((y2.2.1 == i5) && true))) then
      E (XLwLineWithin_1000021a ())
    else E (XLwLineWithin_1000021b (n0, c1, i2, i3, i4, i5))
  else E (XLwLineWithin_1000021b (n0, c1, i2, i3, i4, i5))
theorem BLwLineWithin_1000021a_eq (F : FnT) (N : Q → Option (Ext × S)) (E : Ext × Q → Option (Ext × S)) (L0 : Q → Option YLwLineWithin_0) (L2 : Q → Option YLwLineWithin_2) (L1000081 : Q → Option YLwLineWithin_1000081) (L1000057 : Q → Option YLwLineWithin_1000057) (L1000040 : Q → Option YLwLineWithin_1000040) (L1000035 : Q → Option YLwLineWithin_1000035) (L1000028 : Q → Option YLwLineWithin_1000028) (L1000021 : Q → Option YLwLineWithin_1000021) (n0 : Nat) (c1 : List PV) (i2 : Int) (i3 : Int) (i4 : Int) (i5 : Int) : semN (callP F ELwLineWithin 20) s3 (loopT [⟨0, YLwLineWithin_0, L0, XLLwLineWithin_0⟩, ⟨2, YLwLineWithin_2, L2, XLLwLineWithin_2⟩, ⟨1000081, YLwLineWithin_1000081, L1000081, XLLwLineWithin_1000081⟩, ⟨1000057, YLwLineWithin_1000057, L1000057, XLLwLineWithin_1000057⟩, ⟨1000040, YLwLineWithin_1000040, L1000040, XLLwLineWithin_1000040⟩, ⟨1000035, YLwLineWithin_1000035, L1000035, XLLwLineWithin_1000035⟩, ⟨1000028, YLwLineWithin_1000028, L1000028, XLLwLineWithin_1000028⟩, ⟨1000021, YLwLineWithin_1000021, L1000021, XLLwLineWithin_1000021⟩]) 400 (blkIn a3.body 1000021) E (TLwLineWithin_1000021a n0 c1 i2 i3 i4 i5) = BLwLineWithin_1000021a F N E L0 L2 L1000081 L1000057 L1000040 L1000035 L1000028 L1000021 n0 c1 i2 i3 i4 i5 := by kernel_rfl
theorem RLwLineWithin_1000021a_of  (n0 : Nat) (c1 : List PV) (i2 : Int) (i3 : Int) (i4 : Int) (i5 : Int) {r : Ext × S} (h : BLwLineWithin_1000021a (Fn env) RLwLineWithin_1000021 exO LLwLineWithin_0 LLwLineWithin_2 LLwLineWithin_1000081 LLwLineWithin_1000057 LLwLineWithin_1000040 LLwLineWithin_1000035 LLwLineWithin_1000028 LLwLineWithin_1000021 n0 c1 i2 i3 i4 i5 = some r) : RLwLineWithin_1000021 (TLwLineWithin_1000021a n0 c1 i2 i3 i4 i5) = some r :=
  nd_of ELwLineWithin_ok (by kernel_rfl) (lo_cons (lpO_ok ULwLineWithin) (lo_cons (lpO_ok ULwLineWithin) (lo_cons (lpO_ok ULwLineWithin) (lo_cons (lpO_ok ULwLineWithin) (lo_cons (lpO_ok ULwLineWithin) (lo_cons (lpO_ok ULwLineWithin) (lo_cons (lpO_ok ULwLineWithin) (lo_cons (lpO_ok ULwLineWithin) lo_nil)))))))) (by kernel_rfl) ((BLwLineWithin_1000021a_eq _ RLwLineWithin_1000021 _ _ _ _ _ _ _ _ _ _ _ _ _ _ _).trans h)
def BLwLineWithin_1000021b (F : FnT) (_N : Q → Option (Ext × S)) (E : Ext × Q → Option (Ext × S)) (_L0 : Q → Option YLwLineWithin_0) (_L2 : Q → Option YLwLineWithin_2) (_L1000081 : Q → Option YLwLineWithin_1000081) (_L1000057 : Q → Option YLwLineWithin_1000057) (_L1000040 : Q → Option YLwLineWithin_1000040) (_L1000035 : Q → Option YLwLineWithin_1000035) (_L1000028 : Q → Option YLwLineWithin_1000028) (_L1000021 : Q → Option YLwLineWithin_1000021) (n0 : Nat) (c1 : List PV) (n2 : Nat) (c3 : List PV) (n4 : Nat) (c5 : List PV) (i6 : Int) (i7 : Int) (i8 : Int) (i9 : Int) (n10 : Nat) (n11 : Nat) : Option (Ext × S) :=
  bindO (F 10 (RSh.one (CK.int IntKind.i64)) [(PV.list n2 c3)]) fun (y0 : (Int)) =>
  bif (y0 == (0 : Int)) then
    bindO (F 13 (RSh.one CK.list) [(PV.list n2 c3)]) fun (y1 : ((Nat) × (List PV))) =>
    bindO (F 14 (RSh.tup [(Prod.mk true [(CK.int IntKind.i64), (CK.int IntKind.i64)]), (Prod.mk false [(CK.int IntKind.i64)])]) [(PV.list y1.1 y1.2), (PV.int IntKind.i64 i7)]) fun (y2 : ((Int) × ((Int) × (Int)))) =>
    bif (y2.2.2 != (0 : Int)) then
      E (XLwLineWithin_1000021a ())
    else bif (!((y2.1 == i8) && ((y2.2.1 == i9) && true))) then
      E (XLwLineWithin_1000021a ())
    else E (XLwLineWithin_1000021c (n0, c1, n2, c3, n4, c5, i6, i7, i8, i9, n10, n11))
  else E (XLwLineWithin_1000021c (n0, c1, n2, c3, n4, c5, i6, i7, i8, i9, n10, n11))
theorem BLwLineWithin_1000021b_eq (F : FnT) (N : Q → Option (Ext × S)) (E : Ext × Q → Option (Ext × S)) (L0 : Q → Option YLwLineWithin_0) (L2 : Q → Option YLwLineWithin_2) (L1000081 : Q → Option YLwLineWithin_1000081) (L1000057 : Q → Option YLwLineWithin_1000057) (L1000040 : Q → Option YLwLineWithin_1000040) (L1000035 : Q → Option YLwLineWithin_1000035) (L1000028 : Q → Option YLwLineWithin_1000028) (L1000021 : Q → Option YLwLineWithin_1000021) (n0 : Nat) (c1 : List PV) (n2 : Nat) (c3 : List PV) (n4 : Nat) (c5 : List PV) (i6 : Int) (i7 : Int) (i8 : Int) (i9 : Int) (n10 : Nat) (n11 : Nat) : semN (callP F ELwLineWithin 20) s3 (loopT [⟨0, YLwLineWithin_0, L0, XLLwLineWithin_0⟩, ⟨2, YLwLineWithin_2, L2, XLLwLineWithin_2⟩, ⟨1000081, YLwLineWithin_1000081, L1000081, XLLwLineWithin_1000081⟩, ⟨1000057, YLwLineWithin_1000057, L1000057, XLLwLineWithin_1000057⟩, ⟨1000040, YLwLineWithin_1000040, L1000040, XLLwLineWithin_1000040⟩, ⟨1000035, YLwLineWithin_1000035, L1000035, XLLwLineWithin_1000035⟩, ⟨1000028, YLwLineWithin_1000028, L1000028, XLLwLineWithin_1000028⟩, ⟨1000021, YLwLineWithin_1000021, L1000021, XLLwLineWithin_1000021⟩]) 400 (blkIn a3.body 1000021) E (TLwLineWithin_1000021b n0 c1 n2 c3 n4 c5 i6 i7 i8 i9 n10 n11) = BLwLineWithin_1000021b F N E L0 L2 L1000081 L1000057 L1000040 L1000035 L1000028 L1000021 n0 c1 n2 c3 n4 c5 i6 i7 i8 i9 n10 n11 := by kernel_rfl
theorem RLwLineWithin_1000021b_of  (n0 : Nat) (c1 : List PV) (n2 : Nat) (c3 : List PV) (n4 : Nat) (c5 : List PV) (i6 : Int) (i7 : Int) (i8 : Int) (i9 : Int) (n10 : Nat) (n11 : Nat) {r : Ext × S} (h : BLwLineWithin_1000021b (Fn env) RLwLineWithin_1000021 exO LLwLineWithin_0 LLwLineWithin_2 LLwLineWithin_1000081 LLwLineWithin_1000057 LLwLineWithin_1000040 LLwLineWithin_1000035 LLwLineWithin_1000028 LLwLineWithin_1000021 n0 c1 n2 c3 n4 c5 i6 i7 i8 i9 n10 n11 = some r) : RLwLineWithin_1000021 (TLwLineWithin_1000021b n0 c1 n2 c3 n4 c5 i6 i7 i8 i9 n10 n11) = some r :=
  nd_of ELwLineWithin_ok (by kernel_rfl) (lo_cons (lpO_ok ULwLineWithin) (lo_cons (lpO_ok ULwLineWithin) (lo_cons (lpO_ok ULwLineWithin) (lo_cons (lpO_ok ULwLineWithin) (lo_cons (lpO_ok ULwLineWithin) (lo_cons (lpO_ok ULwLineWithin) (lo_cons (lpO_ok ULwLineWithin) (lo_cons (lpO_ok ULwLineWithin) lo_nil)))))))) (by kernel_rfl) ((BLwLineWithin_1000021b_eq _ RLwLineWithin_1000021 _ _ _ _ _ _ _ _ _ _ _ _ _ _ _ _ _ _ _ _ _).trans h)
def tLwLineWithin (F : FnT) (L0 : Q → Option YLwLineWithin_0) (L2 : Q → Option YLwLineWithin_2) (L1000081 : Q → Option YLwLineWithin_1000081) (L1000057 : Q → Option YLwLineWithin_1000057) (_L1000040 : Q → Option YLwLineWithin_1000040) (_L1000035 : Q → Option YLwLineWithin_1000035) (_L1000028 : Q → Option YLwLineWithin_1000028) (_L1000021 : Q → Option YLwLineWithin_1000021) (p0n : Nat) (p0c : List PV) (p1 : Int) : Option (Bool) :=
  bindO (F 9 (RSh.one CK.bool) []) fun (y0 : (Bool)) =>
  bif y0 then
    bindO (L1000081 (TLwLineWithin_1000081a p0n p0c p1)) fun z =>
    Sum.elim (fun _y1 =>
      some true) (fun y2 =>
      bindO (L0 (TLwLineWithin_0a y2.1 y2.2.1 y2.2.2)) fun z =>
      Sum.elim (fun y3 =>
        bindO (F 13 (RSh.one CK.list) [(PV.list y3.1 y3.2)]) fun (y4 : ((Nat) × (List PV))) =>
        bindO (F 12 (RSh.tup [(Prod.mk false [(CK.int IntKind.i64)]), (Prod.mk false [(CK.int IntKind.i64)])]) [(PV.list y4.1 y4.2)]) fun (y5 : ((Int) × (Int))) =>
        bindO (L1000057 (TLwLineWithin_1000057a y3.1 y3.2 y5.1 y5.2)) fun z =>
        Sum.elim (fun _y6 =>
          some false) (fun z0 => Sum.elim (fun y7 =>
          bindO (L2 (TLwLineWithin_2a y7.1 y7.2.1 y7.2.2 (0 : Int))) fun z =>
          Sum.elim (fun _y8 =>
            some false) (fun z0 => Sum.elim (fun _y9 =>
            some true) (fun _y10 =>
            some true) z0) z) (fun y11 =>
          bindO (L2 (TLwLineWithin_2b y11.1 y11.2.1 y11.2.2.1 y11.2.2.2.1 y11.2.2.2.2.1 y11.2.2.2.2.2.1 y11.2.2.2.2.2.2.1 (0 : Int) y11.2.2.2.2.2.2.2.1 y11.2.2.2.2.2.2.2.2)) fun z =>
          Sum.elim (fun _y12 =>
            some false) (fun z0 => Sum.elim (fun _y13 =>
            some true) (fun _y14 =>
            some true) z0) z) z0) z) (fun y15 =>
        bindO (F 13 (RSh.one CK.list) [(PV.list y15.1 y15.2.1)]) fun (y16 : ((Nat) × (List PV))) =>
        bindO (F 12 (RSh.tup [(Prod.mk false [(CK.int IntKind.i64)]), (Prod.mk false [(CK.int IntKind.i64)])]) [(PV.list y16.1 y16.2)]) fun (y17 : ((Int) × (Int))) =>
        bindO (L1000057 (TLwLineWithin_1000057b y15.1 y15.2.1 y15.2.2.1 y15.2.2.2.1 y15.2.2.2.2.1 y15.2.2.2.2.2.1 y17.1 y17.2 y15.2.2.2.2.2.2.1 y15.2.2.2.2.2.2.2)) fun z =>
        Sum.elim (fun _y18 =>
          some false) (fun z0 => Sum.elim (fun y19 =>
          bindO (L2 (TLwLineWithin_2a y19.1 y19.2.1 y19.2.2 (0 : Int))) fun z =>
          Sum.elim (fun _y20 =>
            some false) (fun z0 => Sum.elim (fun _y21 =>
            some true) (fun _y22 =>
            some true) z0) z) (fun y23 =>
          bindO (L2 (TLwLineWithin_2b y23.1 y23.2.1 y23.2.2.1 y23.2.2.2.1 y23.2.2.2.2.1 y23.2.2.2.2.2.1 y23.2.2.2.2.2.2.1 (0 : Int) y23.2.2.2.2.2.2.2.1 y23.2.2.2.2.2.2.2.2)) fun z =>
          Sum.elim (fun _y24 =>
            some false) (fun z0 => Sum.elim (fun _y25 =>
            some true) (fun _y26 =>
            some true) z0) z) z0) z) z) z
  else some false
theorem tLwLineWithin_eq (F : FnT) (L0 : Q → Option YLwLineWithin_0) (L2 : Q → Option YLwLineWithin_2) (L1000081 : Q → Option YLwLineWithin_1000081) (L1000057 : Q → Option YLwLineWithin_1000057) (L1000040 : Q → Option YLwLineWithin_1000040) (L1000035 : Q → Option YLwLineWithin_1000035) (L1000028 : Q → Option YLwLineWithin_1000028) (L1000021 : Q → Option YLwLineWithin_1000021) (p0n : Nat) (p0c : List PV) (p1 : Int) : semF (callP F ELwLineWithin 20) s3 (loopT [⟨0, YLwLineWithin_0, L0, XLLwLineWithin_0⟩, ⟨2, YLwLineWithin_2, L2, XLLwLineWithin_2⟩, ⟨1000081, YLwLineWithin_1000081, L1000081, XLLwLineWithin_1000081⟩, ⟨1000057, YLwLineWithin_1000057, L1000057, XLLwLineWithin_1000057⟩, ⟨1000040, YLwLineWithin_1000040, L1000040, XLLwLineWithin_1000040⟩, ⟨1000035, YLwLineWithin_1000035, L1000035, XLLwLineWithin_1000035⟩, ⟨1000028, YLwLineWithin_1000028, L1000028, XLLwLineWithin_1000028⟩, ⟨1000021, YLwLineWithin_1000021, L1000021, XLLwLineWithin_1000021⟩]) 400 a3 [PV.list p0n p0c, PV.int IntKind.i64 p1] (fun rv => decR (RSh.one CK.bool) rv.pv) = tLwLineWithin F L0 L2 L1000081 L1000057 L1000040 L1000035 L1000028 L1000021 p0n p0c p1 := by kernel_rfl
noncomputable abbrev FLwLineWithin (args : List PV) := Fn env 3 (RSh.one CK.bool) args
theorem FLwLineWithin_of  (p0n : Nat) (p0c : List PV) (p1 : Int) {res : (Bool)} (h : tLwLineWithin (Fn env) LLwLineWithin_0 LLwLineWithin_2 LLwLineWithin_1000081 LLwLineWithin_1000057 LLwLineWithin_1000040 LLwLineWithin_1000035 LLwLineWithin_1000028 LLwLineWithin_1000021 p0n p0c p1 = some res) : FLwLineWithin [PV.list p0n p0c, PV.int IntKind.i64 p1] = some res :=
  fn_of ELwLineWithin_ok rfl rfl (lo_cons (lpO_ok ULwLineWithin) (lo_cons (lpO_ok ULwLineWithin) (lo_cons (lpO_ok ULwLineWithin) (lo_cons (lpO_ok ULwLineWithin) (lo_cons (lpO_ok ULwLineWithin) (lo_cons (lpO_ok ULwLineWithin) (lo_cons (lpO_ok ULwLineWithin) (lo_cons (lpO_ok ULwLineWithin) lo_nil)))))))) ((tLwLineWithin_eq _ _ _ _ _ _ _ _ _ _ _ _).trans h)

end Gv
