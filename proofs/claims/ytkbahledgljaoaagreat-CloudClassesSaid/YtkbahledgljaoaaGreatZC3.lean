/- What the functions do, round by round: ZC3. -/
import Derived.Test.YtkbahledgljaoaaGreatZC1
namespace Gv
open Go
set_option maxRecDepth 100000

/-! ### glidepathlaw08_CloudClasses -/

def Eglidepathlaw08_CloudClasses : List Entry := [.out 8 (RSh.one CK.bool), .out 46 (RSh.one CK.list), .out 45 (RSh.tup [(Prod.mk false [(CK.int IntKind.i64)]), (Prod.mk false [(CK.int IntKind.i64)])]), .out 47 (RSh.tup [(Prod.mk false [(CK.int IntKind.i64)]), (Prod.mk false [(CK.int IntKind.i64)])]), .out 48 (RSh.tup [(Prod.mk false [CK.bool]), (Prod.mk false [(CK.int IntKind.i64)])]), .out 49 (RSh.tup [(Prod.mk false [(CK.int IntKind.i64)]), (Prod.mk false [(CK.int IntKind.i64)])]), .out 50 (RSh.one (CK.int IntKind.i64)), .out 16 (RSh.one (CK.int IntKind.i64)), .out 51 (RSh.one (CK.int IntKind.i64)), .out 31 (RSh.one CK.bool), .out 52 (RSh.one CK.bool)]
theorem Eglidepathlaw08_CloudClasses_ok : ∀ e ∈ Eglidepathlaw08_CloudClasses, EntOK env e := (ent_out (ent_out (ent_out (ent_out (ent_out (ent_out (ent_out (ent_out (ent_out (ent_out (ent_out ent_nil)))))))))))
def Tglidepathlaw08_CloudClasses_1000047a (n0 : Nat) (c1 : List PV) (i2 : Int) (i3 : Int) (i4 : Int) (i5 : Int) (i6 : Int) (b7 : Bool) (i8 : Int) (i9 : Int) (i10 : Int) (i11 : Int) (i12 : Int) : Q := ⟨(tm 159 [(0, (AV.p (PV.list n0 c1))), (2, (AV.p (PV.int IntKind.i64 i2))), (4, (AV.loc 4 0)), (7, (AV.p (PV.int IntKind.i64 i3))), (8, (AV.p (PV.int IntKind.i64 i4))), (9, (AV.p (PV.int IntKind.i64 i5))), (10, (AV.p (PV.int IntKind.i64 i6))), (11, (AV.p (PV.bool b7))), (12, (AV.p (PV.int IntKind.i64 i8))), (13, (AV.p (PV.int IntKind.i64 i9))), (14, (AV.p (PV.int IntKind.i64 i10)))]), (mm 159 [(4, (Bk.pcs true [(PV.int IntKind.i64 i11), (PV.int IntKind.i64 i12)]))])⟩
def Xglidepathlaw08_CloudClasses_1000047a (_y : Unit) : Ext × Q := (Ext.ret, ⟨(tm 159 [(6, (AV.p (PV.bool false)))]), (mm 159 [])⟩)
def Iglidepathlaw08_CloudClasses_1000047a (_q : Ext × S) : Unit := ()
def Xglidepathlaw08_CloudClasses_1000047b (y : Nat × List PV × Int × Int × Int × Bool × Int × Int × Int × Int) : Ext × Q := (Ext.normal, ⟨(tm 159 [(0, (AV.p (PV.list y.1 y.2.1))), (2, (AV.p (PV.int IntKind.i64 y.2.2.1))), (4, (AV.loc 4 0)), (9, (AV.p (PV.int IntKind.i64 y.2.2.2.1))), (10, (AV.p (PV.int IntKind.i64 y.2.2.2.2.1))), (11, (AV.p (PV.bool y.2.2.2.2.2.1))), (12, (AV.p (PV.int IntKind.i64 y.2.2.2.2.2.2.1))), (14, (AV.p (PV.int IntKind.i64 y.2.2.2.2.2.2.2.1)))]), (mm 159 [(4, (Bk.pcs true [(PV.int IntKind.i64 y.2.2.2.2.2.2.2.2.1), (PV.int IntKind.i64 y.2.2.2.2.2.2.2.2.2)]))])⟩)
def Iglidepathlaw08_CloudClasses_1000047b (q : Ext × S) : Nat × List PV × Int × Int × Int × Bool × Int × Int × Int × Int := ((pP_list0 (pA_p (avT q.2 0))), (pP_list1 (pA_p (avT q.2 0))), (pP_int1 (pA_p (avT q.2 2))), (pP_int1 (pA_p (avT q.2 9))), (pP_int1 (pA_p (avT q.2 10))), (pP_bool0 (pA_p (avT q.2 11))), (pP_int1 (pA_p (avT q.2 12))), (pP_int1 (pA_p (avT q.2 14))), (pP_int1 (hdP (pB_pcs1 (avM q.2 4)))), (pP_int1 (hdP (List.tail (pB_pcs1 (avM q.2 4))))))
abbrev Yglidepathlaw08_CloudClasses_1000047 : Type := (Unit) ⊕ ((Nat × List PV × Int × Int × Int × Bool × Int × Int × Int × Int))
def XLglidepathlaw08_CloudClasses_1000047 : XL Yglidepathlaw08_CloudClasses_1000047 := .more Xglidepathlaw08_CloudClasses_1000047a (.one Xglidepathlaw08_CloudClasses_1000047b)
def Iglidepathlaw08_CloudClasses_1000047 (q : Ext × S) : Yglidepathlaw08_CloudClasses_1000047 := bif (cE q.1 == 2) then (Sum.inl (Iglidepathlaw08_CloudClasses_1000047a q)) else (Sum.inr (Iglidepathlaw08_CloudClasses_1000047b q))
theorem XIglidepathlaw08_CloudClasses_1000047a (y : Unit) : Iglidepathlaw08_CloudClasses_1000047 (xe (Xglidepathlaw08_CloudClasses_1000047a y)) = (Sum.inl y) := rfl
theorem XIglidepathlaw08_CloudClasses_1000047b (y : Nat × List PV × Int × Int × Int × Bool × Int × Int × Int × Int) : Iglidepathlaw08_CloudClasses_1000047 (xe (Xglidepathlaw08_CloudClasses_1000047b y)) = (Sum.inr y) := rfl
theorem XIglidepathlaw08_CloudClasses_1000047 (y : Yglidepathlaw08_CloudClasses_1000047) : Iglidepathlaw08_CloudClasses_1000047 (xe (XLglidepathlaw08_CloudClasses_1000047.fn y)) = y := (match y with | .inl y => XIglidepathlaw08_CloudClasses_1000047a y | .inr y => XIglidepathlaw08_CloudClasses_1000047b y)
noncomputable abbrev Lglidepathlaw08_CloudClasses_1000047 : Q → Option Yglidepathlaw08_CloudClasses_1000047 := lpO env a7.body 1000047 XLglidepathlaw08_CloudClasses_1000047
noncomputable abbrev Rglidepathlaw08_CloudClasses_1000047 : Q → Option (Ext × S) := lpR env a7.body 1000047
theorem Lglidepathlaw08_CloudClasses_1000047a_of {s : Q} {y : Unit} (h : Rglidepathlaw08_CloudClasses_1000047 s = exO (Xglidepathlaw08_CloudClasses_1000047a y)) : Lglidepathlaw08_CloudClasses_1000047 s = some (Sum.inl y) := lpO_of Iglidepathlaw08_CloudClasses_1000047 XIglidepathlaw08_CloudClasses_1000047 (y := (Sum.inl y)) h
theorem Lglidepathlaw08_CloudClasses_1000047b_of {s : Q} {y : Nat × List PV × Int × Int × Int × Bool × Int × Int × Int × Int} (h : Rglidepathlaw08_CloudClasses_1000047 s = exO (Xglidepathlaw08_CloudClasses_1000047b y)) : Lglidepathlaw08_CloudClasses_1000047 s = some (Sum.inr y) := lpO_of Iglidepathlaw08_CloudClasses_1000047 XIglidepathlaw08_CloudClasses_1000047 (y := (Sum.inr y)) h
def Tglidepathlaw08_CloudClasses_1000036a (n0 : Nat) (c1 : List PV) (i2 : Int) (i3 : Int) (i4 : Int) (b5 : Bool) (i6 : Int) (i7 : Int) (i8 : Int) (i9 : Int) (i10 : Int) : Q := ⟨(tm 159 [(0, (AV.p (PV.list n0 c1))), (2, (AV.p (PV.int IntKind.i64 i2))), (4, (AV.loc 4 0)), (9, (AV.p (PV.int IntKind.i64 i3))), (10, (AV.p (PV.int IntKind.i64 i4))), (11, (AV.p (PV.bool b5))), (12, (AV.p (PV.int IntKind.i64 i6))), (14, (AV.p (PV.int IntKind.i64 i7))), (15, (AV.p (PV.int IntKind.i64 i8)))]), (mm 159 [(4, (Bk.pcs true [(PV.int IntKind.i64 i9), (PV.int IntKind.i64 i10)]))])⟩
def Xglidepathlaw08_CloudClasses_1000036a (y : Nat × List PV × Int × Int × Int × Bool × Int × Int × Int × Int × Int) : Ext × Q := (Ext.normal, ⟨(tm 159 [(0, (AV.p (PV.list y.1 y.2.1))), (2, (AV.p (PV.int IntKind.i64 y.2.2.1))), (4, (AV.loc 4 0)), (9, (AV.p (PV.int IntKind.i64 y.2.2.2.1))), (10, (AV.p (PV.int IntKind.i64 y.2.2.2.2.1))), (11, (AV.p (PV.bool y.2.2.2.2.2.1))), (12, (AV.p (PV.int IntKind.i64 y.2.2.2.2.2.2.1))), (14, (AV.p (PV.int IntKind.i64 y.2.2.2.2.2.2.2.1))), (15, (AV.p (PV.int IntKind.i64 y.2.2.2.2.2.2.2.2.1)))]), (mm 159 [(4, (Bk.pcs true [(PV.int IntKind.i64 y.2.2.2.2.2.2.2.2.2.1), (PV.int IntKind.i64 y.2.2.2.2.2.2.2.2.2.2)]))])⟩)
def Iglidepathlaw08_CloudClasses_1000036a (q : Ext × S) : Nat × List PV × Int × Int × Int × Bool × Int × Int × Int × Int × Int := ((pP_list0 (pA_p (avT q.2 0))), (pP_list1 (pA_p (avT q.2 0))), (pP_int1 (pA_p (avT q.2 2))), (pP_int1 (pA_p (avT q.2 9))), (pP_int1 (pA_p (avT q.2 10))), (pP_bool0 (pA_p (avT q.2 11))), (pP_int1 (pA_p (avT q.2 12))), (pP_int1 (pA_p (avT q.2 14))), (pP_int1 (pA_p (avT q.2 15))), (pP_int1 (hdP (pB_pcs1 (avM q.2 4)))), (pP_int1 (hdP (List.tail (pB_pcs1 (avM q.2 4))))))
abbrev Yglidepathlaw08_CloudClasses_1000036 : Type := Nat × List PV × Int × Int × Int × Bool × Int × Int × Int × Int × Int
def XLglidepathlaw08_CloudClasses_1000036 : XL Yglidepathlaw08_CloudClasses_1000036 := .one Xglidepathlaw08_CloudClasses_1000036a
def Iglidepathlaw08_CloudClasses_1000036 (q : Ext × S) : Yglidepathlaw08_CloudClasses_1000036 := (Iglidepathlaw08_CloudClasses_1000036a q)
theorem XIglidepathlaw08_CloudClasses_1000036a (y : Nat × List PV × Int × Int × Int × Bool × Int × Int × Int × Int × Int) : Iglidepathlaw08_CloudClasses_1000036 (xe (Xglidepathlaw08_CloudClasses_1000036a y)) = y := rfl
theorem XIglidepathlaw08_CloudClasses_1000036 (y : Yglidepathlaw08_CloudClasses_1000036) : Iglidepathlaw08_CloudClasses_1000036 (xe (XLglidepathlaw08_CloudClasses_1000036.fn y)) = y := XIglidepathlaw08_CloudClasses_1000036a y
noncomputable abbrev Lglidepathlaw08_CloudClasses_1000036 : Q → Option Yglidepathlaw08_CloudClasses_1000036 := lpO env a7.body 1000036 XLglidepathlaw08_CloudClasses_1000036
noncomputable abbrev Rglidepathlaw08_CloudClasses_1000036 : Q → Option (Ext × S) := lpR env a7.body 1000036
theorem Lglidepathlaw08_CloudClasses_1000036a_of {s : Q} {y : Nat × List PV × Int × Int × Int × Bool × Int × Int × Int × Int × Int} (h : Rglidepathlaw08_CloudClasses_1000036 s = exO (Xglidepathlaw08_CloudClasses_1000036a y)) : Lglidepathlaw08_CloudClasses_1000036 s = some y := lpO_of Iglidepathlaw08_CloudClasses_1000036 XIglidepathlaw08_CloudClasses_1000036 (y := y) h
def Tglidepathlaw08_CloudClasses_1000032a (n0 : Nat) (c1 : List PV) (i2 : Int) (i3 : Int) (i4 : Int) (b5 : Bool) (i6 : Int) (i7 : Int) (i8 : Int) (i9 : Int) (i10 : Int) : Q := ⟨(tm 159 [(0, (AV.p (PV.list n0 c1))), (2, (AV.p (PV.int IntKind.i64 i2))), (4, (AV.loc 4 0)), (9, (AV.p (PV.int IntKind.i64 i3))), (10, (AV.p (PV.int IntKind.i64 i4))), (11, (AV.p (PV.bool b5))), (12, (AV.p (PV.int IntKind.i64 i6))), (14, (AV.p (PV.int IntKind.i64 i7))), (15, (AV.p (PV.int IntKind.i64 i8)))]), (mm 159 [(4, (Bk.pcs true [(PV.int IntKind.i64 i9), (PV.int IntKind.i64 i10)]))])⟩
def Xglidepathlaw08_CloudClasses_1000032a (_y : Unit) : Ext × Q := (Ext.ret, ⟨(tm 159 [(6, (AV.p (PV.bool false)))]), (mm 159 [])⟩)
def Iglidepathlaw08_CloudClasses_1000032a (_q : Ext × S) : Unit := ()
def Xglidepathlaw08_CloudClasses_1000032b (y : Nat × List PV × Int × Bool × Int × Int × Int × Int × Int) : Ext × Q := (Ext.normal, ⟨(tm 159 [(0, (AV.p (PV.list y.1 y.2.1))), (2, (AV.p (PV.int IntKind.i64 y.2.2.1))), (4, (AV.loc 4 0)), (11, (AV.p (PV.bool y.2.2.2.1))), (12, (AV.p (PV.int IntKind.i64 y.2.2.2.2.1))), (14, (AV.p (PV.int IntKind.i64 y.2.2.2.2.2.1))), (15, (AV.p (PV.int IntKind.i64 y.2.2.2.2.2.2.1)))]), (mm 159 [(4, (Bk.pcs true [(PV.int IntKind.i64 y.2.2.2.2.2.2.2.1), (PV.int IntKind.i64 y.2.2.2.2.2.2.2.2)]))])⟩)
def Iglidepathlaw08_CloudClasses_1000032b (q : Ext × S) : Nat × List PV × Int × Bool × Int × Int × Int × Int × Int := ((pP_list0 (pA_p (avT q.2 0))), (pP_list1 (pA_p (avT q.2 0))), (pP_int1 (pA_p (avT q.2 2))), (pP_bool0 (pA_p (avT q.2 11))), (pP_int1 (pA_p (avT q.2 12))), (pP_int1 (pA_p (avT q.2 14))), (pP_int1 (pA_p (avT q.2 15))), (pP_int1 (hdP (pB_pcs1 (avM q.2 4)))), (pP_int1 (hdP (List.tail (pB_pcs1 (avM q.2 4))))))
abbrev Yglidepathlaw08_CloudClasses_1000032 : Type := (Unit) ⊕ ((Nat × List PV × Int × Bool × Int × Int × Int × Int × Int))
def XLglidepathlaw08_CloudClasses_1000032 : XL Yglidepathlaw08_CloudClasses_1000032 := .more Xglidepathlaw08_CloudClasses_1000032a (.one Xglidepathlaw08_CloudClasses_1000032b)
def Iglidepathlaw08_CloudClasses_1000032 (q : Ext × S) : Yglidepathlaw08_CloudClasses_1000032 := bif (cE q.1 == 2) then (Sum.inl (Iglidepathlaw08_CloudClasses_1000032a q)) else (Sum.inr (Iglidepathlaw08_CloudClasses_1000032b q))
theorem XIglidepathlaw08_CloudClasses_1000032a (y : Unit) : Iglidepathlaw08_CloudClasses_1000032 (xe (Xglidepathlaw08_CloudClasses_1000032a y)) = (Sum.inl y) := rfl
theorem XIglidepathlaw08_CloudClasses_1000032b (y : Nat × List PV × Int × Bool × Int × Int × Int × Int × Int) : Iglidepathlaw08_CloudClasses_1000032 (xe (Xglidepathlaw08_CloudClasses_1000032b y)) = (Sum.inr y) := rfl
theorem XIglidepathlaw08_CloudClasses_1000032 (y : Yglidepathlaw08_CloudClasses_1000032) : Iglidepathlaw08_CloudClasses_1000032 (xe (XLglidepathlaw08_CloudClasses_1000032.fn y)) = y := (match y with | .inl y => XIglidepathlaw08_CloudClasses_1000032a y | .inr y => XIglidepathlaw08_CloudClasses_1000032b y)
noncomputable abbrev Lglidepathlaw08_CloudClasses_1000032 : Q → Option Yglidepathlaw08_CloudClasses_1000032 := lpO env a7.body 1000032 XLglidepathlaw08_CloudClasses_1000032
noncomputable abbrev Rglidepathlaw08_CloudClasses_1000032 : Q → Option (Ext × S) := lpR env a7.body 1000032
theorem Lglidepathlaw08_CloudClasses_1000032a_of {s : Q} {y : Unit} (h : Rglidepathlaw08_CloudClasses_1000032 s = exO (Xglidepathlaw08_CloudClasses_1000032a y)) : Lglidepathlaw08_CloudClasses_1000032 s = some (Sum.inl y) := lpO_of Iglidepathlaw08_CloudClasses_1000032 XIglidepathlaw08_CloudClasses_1000032 (y := (Sum.inl y)) h
theorem Lglidepathlaw08_CloudClasses_1000032b_of {s : Q} {y : Nat × List PV × Int × Bool × Int × Int × Int × Int × Int} (h : Rglidepathlaw08_CloudClasses_1000032 s = exO (Xglidepathlaw08_CloudClasses_1000032b y)) : Lglidepathlaw08_CloudClasses_1000032 s = some (Sum.inr y) := lpO_of Iglidepathlaw08_CloudClasses_1000032 XIglidepathlaw08_CloudClasses_1000032 (y := (Sum.inr y)) h
def Tglidepathlaw08_CloudClasses_1000025a (n0 : Nat) (c1 : List PV) (i2 : Int) (b3 : Bool) (i4 : Int) (i5 : Int) (i6 : Int) (i7 : Int) (i8 : Int) : Q := ⟨(tm 159 [(0, (AV.p (PV.list n0 c1))), (2, (AV.p (PV.int IntKind.i64 i2))), (4, (AV.loc 4 0)), (11, (AV.p (PV.bool b3))), (12, (AV.p (PV.int IntKind.i64 i4))), (14, (AV.p (PV.int IntKind.i64 i5))), (15, (AV.p (PV.int IntKind.i64 i6)))]), (mm 159 [(4, (Bk.pcs true [(PV.int IntKind.i64 i7), (PV.int IntKind.i64 i8)]))])⟩
def Xglidepathlaw08_CloudClasses_1000025a (y : Nat × List PV × Int × Bool × Int × Int × Int × Int × Int) : Ext × Q := (Ext.normal, ⟨(tm 159 [(0, (AV.p (PV.list y.1 y.2.1))), (2, (AV.p (PV.int IntKind.i64 y.2.2.1))), (4, (AV.loc 4 0)), (11, (AV.p (PV.bool y.2.2.2.1))), (12, (AV.p (PV.int IntKind.i64 y.2.2.2.2.1))), (14, (AV.p (PV.int IntKind.i64 y.2.2.2.2.2.1))), (15, (AV.p (PV.int IntKind.i64 y.2.2.2.2.2.2.1)))]), (mm 159 [(4, (Bk.pcs true [(PV.int IntKind.i64 y.2.2.2.2.2.2.2.1), (PV.int IntKind.i64 y.2.2.2.2.2.2.2.2)]))])⟩)
def Iglidepathlaw08_CloudClasses_1000025a (q : Ext × S) : Nat × List PV × Int × Bool × Int × Int × Int × Int × Int := ((pP_list0 (pA_p (avT q.2 0))), (pP_list1 (pA_p (avT q.2 0))), (pP_int1 (pA_p (avT q.2 2))), (pP_bool0 (pA_p (avT q.2 11))), (pP_int1 (pA_p (avT q.2 12))), (pP_int1 (pA_p (avT q.2 14))), (pP_int1 (pA_p (avT q.2 15))), (pP_int1 (hdP (pB_pcs1 (avM q.2 4)))), (pP_int1 (hdP (List.tail (pB_pcs1 (avM q.2 4))))))
abbrev Yglidepathlaw08_CloudClasses_1000025 : Type := Nat × List PV × Int × Bool × Int × Int × Int × Int × Int
def XLglidepathlaw08_CloudClasses_1000025 : XL Yglidepathlaw08_CloudClasses_1000025 := .one Xglidepathlaw08_CloudClasses_1000025a
def Iglidepathlaw08_CloudClasses_1000025 (q : Ext × S) : Yglidepathlaw08_CloudClasses_1000025 := (Iglidepathlaw08_CloudClasses_1000025a q)
theorem XIglidepathlaw08_CloudClasses_1000025a (y : Nat × List PV × Int × Bool × Int × Int × Int × Int × Int) : Iglidepathlaw08_CloudClasses_1000025 (xe (Xglidepathlaw08_CloudClasses_1000025a y)) = y := rfl
theorem XIglidepathlaw08_CloudClasses_1000025 (y : Yglidepathlaw08_CloudClasses_1000025) : Iglidepathlaw08_CloudClasses_1000025 (xe (XLglidepathlaw08_CloudClasses_1000025.fn y)) = y := XIglidepathlaw08_CloudClasses_1000025a y
noncomputable abbrev Lglidepathlaw08_CloudClasses_1000025 : Q → Option Yglidepathlaw08_CloudClasses_1000025 := lpO env a7.body 1000025 XLglidepathlaw08_CloudClasses_1000025
noncomputable abbrev Rglidepathlaw08_CloudClasses_1000025 : Q → Option (Ext × S) := lpR env a7.body 1000025
theorem Lglidepathlaw08_CloudClasses_1000025a_of {s : Q} {y : Nat × List PV × Int × Bool × Int × Int × Int × Int × Int} (h : Rglidepathlaw08_CloudClasses_1000025 s = exO (Xglidepathlaw08_CloudClasses_1000025a y)) : Lglidepathlaw08_CloudClasses_1000025 s = some y := lpO_of Iglidepathlaw08_CloudClasses_1000025 XIglidepathlaw08_CloudClasses_1000025 (y := y) h
def Tglidepathlaw08_CloudClasses_1000012a (n0 : Nat) (c1 : List PV) (i2 : Int) (b3 : Bool) (i4 : Int) (i5 : Int) (i6 : Int) : Q := ⟨(tm 159 [(0, (AV.p (PV.list n0 c1))), (2, (AV.p (PV.int IntKind.i64 i2))), (4, (AV.loc 4 0)), (11, (AV.p (PV.bool b3))), (12, (AV.p (PV.int IntKind.i64 i4)))]), (mm 159 [(4, (Bk.pcs true [(PV.int IntKind.i64 i5), (PV.int IntKind.i64 i6)]))])⟩
def Xglidepathlaw08_CloudClasses_1000012a (_y : Unit) : Ext × Q := (Ext.ret, ⟨(tm 159 [(6, (AV.p (PV.bool false)))]), (mm 159 [])⟩)
def Iglidepathlaw08_CloudClasses_1000012a (_q : Ext × S) : Unit := ()
def Xglidepathlaw08_CloudClasses_1000012b (y : Nat × List PV × Int × Bool × Int × Int) : Ext × Q := (Ext.normal, ⟨(tm 159 [(0, (AV.p (PV.list y.1 y.2.1))), (2, (AV.p (PV.int IntKind.i64 y.2.2.1))), (4, (AV.loc 4 0)), (11, (AV.p (PV.bool y.2.2.2.1)))]), (mm 159 [(4, (Bk.pcs true [(PV.int IntKind.i64 y.2.2.2.2.1), (PV.int IntKind.i64 y.2.2.2.2.2)]))])⟩)
def Iglidepathlaw08_CloudClasses_1000012b (q : Ext × S) : Nat × List PV × Int × Bool × Int × Int := ((pP_list0 (pA_p (avT q.2 0))), (pP_list1 (pA_p (avT q.2 0))), (pP_int1 (pA_p (avT q.2 2))), (pP_bool0 (pA_p (avT q.2 11))), (pP_int1 (hdP (pB_pcs1 (avM q.2 4)))), (pP_int1 (hdP (List.tail (pB_pcs1 (avM q.2 4))))))
abbrev Yglidepathlaw08_CloudClasses_1000012 : Type := (Unit) ⊕ ((Nat × List PV × Int × Bool × Int × Int))
def XLglidepathlaw08_CloudClasses_1000012 : XL Yglidepathlaw08_CloudClasses_1000012 := .more Xglidepathlaw08_CloudClasses_1000012a (.one Xglidepathlaw08_CloudClasses_1000012b)
def Iglidepathlaw08_CloudClasses_1000012 (q : Ext × S) : Yglidepathlaw08_CloudClasses_1000012 := bif (cE q.1 == 2) then (Sum.inl (Iglidepathlaw08_CloudClasses_1000012a q)) else (Sum.inr (Iglidepathlaw08_CloudClasses_1000012b q))
theorem XIglidepathlaw08_CloudClasses_1000012a (y : Unit) : Iglidepathlaw08_CloudClasses_1000012 (xe (Xglidepathlaw08_CloudClasses_1000012a y)) = (Sum.inl y) := rfl
theorem XIglidepathlaw08_CloudClasses_1000012b (y : Nat × List PV × Int × Bool × Int × Int) : Iglidepathlaw08_CloudClasses_1000012 (xe (Xglidepathlaw08_CloudClasses_1000012b y)) = (Sum.inr y) := rfl
theorem XIglidepathlaw08_CloudClasses_1000012 (y : Yglidepathlaw08_CloudClasses_1000012) : Iglidepathlaw08_CloudClasses_1000012 (xe (XLglidepathlaw08_CloudClasses_1000012.fn y)) = y := (match y with | .inl y => XIglidepathlaw08_CloudClasses_1000012a y | .inr y => XIglidepathlaw08_CloudClasses_1000012b y)
noncomputable abbrev Lglidepathlaw08_CloudClasses_1000012 : Q → Option Yglidepathlaw08_CloudClasses_1000012 := lpO env a7.body 1000012 XLglidepathlaw08_CloudClasses_1000012
noncomputable abbrev Rglidepathlaw08_CloudClasses_1000012 : Q → Option (Ext × S) := lpR env a7.body 1000012
theorem Lglidepathlaw08_CloudClasses_1000012a_of {s : Q} {y : Unit} (h : Rglidepathlaw08_CloudClasses_1000012 s = exO (Xglidepathlaw08_CloudClasses_1000012a y)) : Lglidepathlaw08_CloudClasses_1000012 s = some (Sum.inl y) := lpO_of Iglidepathlaw08_CloudClasses_1000012 XIglidepathlaw08_CloudClasses_1000012 (y := (Sum.inl y)) h
theorem Lglidepathlaw08_CloudClasses_1000012b_of {s : Q} {y : Nat × List PV × Int × Bool × Int × Int} (h : Rglidepathlaw08_CloudClasses_1000012 s = exO (Xglidepathlaw08_CloudClasses_1000012b y)) : Lglidepathlaw08_CloudClasses_1000012 s = some (Sum.inr y) := lpO_of Iglidepathlaw08_CloudClasses_1000012 XIglidepathlaw08_CloudClasses_1000012 (y := (Sum.inr y)) h
theorem Uglidepathlaw08_CloudClasses : uniq ((blocksOf a7.body).map (·.1)) = true := by kernel_rfl
def Bglidepathlaw08_CloudClasses_1000047a (_F : FnT) (_N : Q → Option (Ext × S)) (E : Ext × Q → Option (Ext × S)) (_L1000047 : Q → Option Yglidepathlaw08_CloudClasses_1000047) (_L1000036 : Q → Option Yglidepathlaw08_CloudClasses_1000036) (_L1000032 : Q → Option Yglidepathlaw08_CloudClasses_1000032) (_L1000025 : Q → Option Yglidepathlaw08_CloudClasses_1000025) (_L1000012 : Q → Option Yglidepathlaw08_CloudClasses_1000012) (n0 : Nat) (c1 : List PV) (i2 : Int) (i3 : Int) (i4 : Int) (i5 : Int) (i6 : Int) (b7 : Bool) (i8 : Int) (i9 : Int) (i10 : Int) (i11 : Int) (i12 : Int) : Option (Ext × S) :=
  bif (i4 != i10) then
    E (Xglidepathlaw08_CloudClasses_1000047a ())
  else bif (i3 != i9) then
    E (Xglidepathlaw08_CloudClasses_1000047a ())
  else E (Xglidepathlaw08_CloudClasses_1000047b (n0, c1, i2, i5, i6, b7, i8, i10, i11, i12))
theorem Bglidepathlaw08_CloudClasses_1000047a_eq (F : FnT) (N : Q → Option (Ext × S)) (E : Ext × Q → Option (Ext × S)) (L1000047 : Q → Option Yglidepathlaw08_CloudClasses_1000047) (L1000036 : Q → Option Yglidepathlaw08_CloudClasses_1000036) (L1000032 : Q → Option Yglidepathlaw08_CloudClasses_1000032) (L1000025 : Q → Option Yglidepathlaw08_CloudClasses_1000025) (L1000012 : Q → Option Yglidepathlaw08_CloudClasses_1000012) (n0 : Nat) (c1 : List PV) (i2 : Int) (i3 : Int) (i4 : Int) (i5 : Int) (i6 : Int) (b7 : Bool) (i8 : Int) (i9 : Int) (i10 : Int) (i11 : Int) (i12 : Int) : semN (callP F Eglidepathlaw08_CloudClasses 20) s7 (loopT [⟨1000047, Yglidepathlaw08_CloudClasses_1000047, L1000047, XLglidepathlaw08_CloudClasses_1000047⟩, ⟨1000036, Yglidepathlaw08_CloudClasses_1000036, L1000036, XLglidepathlaw08_CloudClasses_1000036⟩, ⟨1000032, Yglidepathlaw08_CloudClasses_1000032, L1000032, XLglidepathlaw08_CloudClasses_1000032⟩, ⟨1000025, Yglidepathlaw08_CloudClasses_1000025, L1000025, XLglidepathlaw08_CloudClasses_1000025⟩, ⟨1000012, Yglidepathlaw08_CloudClasses_1000012, L1000012, XLglidepathlaw08_CloudClasses_1000012⟩]) 400 (blkIn a7.body 1000047) E (Tglidepathlaw08_CloudClasses_1000047a n0 c1 i2 i3 i4 i5 i6 b7 i8 i9 i10 i11 i12) = Bglidepathlaw08_CloudClasses_1000047a F N E L1000047 L1000036 L1000032 L1000025 L1000012 n0 c1 i2 i3 i4 i5 i6 b7 i8 i9 i10 i11 i12 := by kernel_rfl
theorem Rglidepathlaw08_CloudClasses_1000047a_of  (n0 : Nat) (c1 : List PV) (i2 : Int) (i3 : Int) (i4 : Int) (i5 : Int) (i6 : Int) (b7 : Bool) (i8 : Int) (i9 : Int) (i10 : Int) (i11 : Int) (i12 : Int) {r : Ext × S} (h : Bglidepathlaw08_CloudClasses_1000047a (Fn env) Rglidepathlaw08_CloudClasses_1000047 exO Lglidepathlaw08_CloudClasses_1000047 Lglidepathlaw08_CloudClasses_1000036 Lglidepathlaw08_CloudClasses_1000032 Lglidepathlaw08_CloudClasses_1000025 Lglidepathlaw08_CloudClasses_1000012 n0 c1 i2 i3 i4 i5 i6 b7 i8 i9 i10 i11 i12 = some r) : Rglidepathlaw08_CloudClasses_1000047 (Tglidepathlaw08_CloudClasses_1000047a n0 c1 i2 i3 i4 i5 i6 b7 i8 i9 i10 i11 i12) = some r :=
  nd_of Eglidepathlaw08_CloudClasses_ok (by kernel_rfl) (lo_cons (lpO_ok Uglidepathlaw08_CloudClasses) (lo_cons (lpO_ok Uglidepathlaw08_CloudClasses) (lo_cons (lpO_ok Uglidepathlaw08_CloudClasses) (lo_cons (lpO_ok Uglidepathlaw08_CloudClasses) (lo_cons (lpO_ok Uglidepathlaw08_CloudClasses) lo_nil))))) (by kernel_rfl) ((Bglidepathlaw08_CloudClasses_1000047a_eq _ Rglidepathlaw08_CloudClasses_1000047 _ _ _ _ _ _ _ _ _ _ _ _ _ _ _ _ _ _ _).trans h)
def Bglidepathlaw08_CloudClasses_1000036a (F : FnT) (_N : Q → Option (Ext × S)) (E : Ext × Q → Option (Ext × S)) (_L1000047 : Q → Option Yglidepathlaw08_CloudClasses_1000047) (_L1000036 : Q → Option Yglidepathlaw08_CloudClasses_1000036) (_L1000032 : Q → Option Yglidepathlaw08_CloudClasses_1000032) (_L1000025 : Q → Option Yglidepathlaw08_CloudClasses_1000025) (_L1000012 : Q → Option Yglidepathlaw08_CloudClasses_1000012) (n0 : Nat) (c1 : List PV) (i2 : Int) (i3 : Int) (i4 : Int) (b5 : Bool) (i6 : Int) (i7 : Int) (i8 : Int) (i9 : Int) (i10 : Int) : Option (Ext × S) :=
  bif (i8 == (0 : Int)) then
    bindO (F 51 (RSh.one (CK.int IntKind.i64)) [(PV.list n0 c1), (PV.agg [(PV.int IntKind.i64 i9), (PV.int IntKind.i64 i10)])]) fun (y0 : (Int)) =>
    bif (decide (y0 < (0 : Int))) then
      E (Xglidepathlaw08_CloudClasses_1000036a (n0, c1, i2, i3, i4, b5, i6, i7, (12 : Int), i9, i10))
    else E (Xglidepathlaw08_CloudClasses_1000036a (n0, c1, i2, i3, i4, b5, i6, i7, i8, i9, i10))
  else E (Xglidepathlaw08_CloudClasses_1000036a (n0, c1, i2, i3, i4, b5, i6, i7, i8, i9, i10))
theorem Bglidepathlaw08_CloudClasses_1000036a_eq (F : FnT) (N : Q → Option (Ext × S)) (E : Ext × Q → Option (Ext × S)) (L1000047 : Q → Option Yglidepathlaw08_CloudClasses_1000047) (L1000036 : Q → Option Yglidepathlaw08_CloudClasses_1000036) (L1000032 : Q → Option Yglidepathlaw08_CloudClasses_1000032) (L1000025 : Q → Option Yglidepathlaw08_CloudClasses_1000025) (L1000012 : Q → Option Yglidepathlaw08_CloudClasses_1000012) (n0 : Nat) (c1 : List PV) (i2 : Int) (i3 : Int) (i4 : Int) (b5 : Bool) (i6 : Int) (i7 : Int) (i8 : Int) (i9 : Int) (i10 : Int) : semN (callP F Eglidepathlaw08_CloudClasses 20) s7 (loopT [⟨1000047, Yglidepathlaw08_CloudClasses_1000047, L1000047, XLglidepathlaw08_CloudClasses_1000047⟩, ⟨1000036, Yglidepathlaw08_CloudClasses_1000036, L1000036, XLglidepathlaw08_CloudClasses_1000036⟩, ⟨1000032, Yglidepathlaw08_CloudClasses_1000032, L1000032, XLglidepathlaw08_CloudClasses_1000032⟩, ⟨1000025, Yglidepathlaw08_CloudClasses_1000025, L1000025, XLglidepathlaw08_CloudClasses_1000025⟩, ⟨1000012, Yglidepathlaw08_CloudClasses_1000012, L1000012, XLglidepathlaw08_CloudClasses_1000012⟩]) 400 (blkIn a7.body 1000036) E (Tglidepathlaw08_CloudClasses_1000036a n0 c1 i2 i3 i4 b5 i6 i7 i8 i9 i10) = Bglidepathlaw08_CloudClasses_1000036a F N E L1000047 L1000036 L1000032 L1000025 L1000012 n0 c1 i2 i3 i4 b5 i6 i7 i8 i9 i10 := by kernel_rfl
theorem Rglidepathlaw08_CloudClasses_1000036a_of  (n0 : Nat) (c1 : List PV) (i2 : Int) (i3 : Int) (i4 : Int) (b5 : Bool) (i6 : Int) (i7 : Int) (i8 : Int) (i9 : Int) (i10 : Int) {r : Ext × S} (h : Bglidepathlaw08_CloudClasses_1000036a (Fn env) Rglidepathlaw08_CloudClasses_1000036 exO Lglidepathlaw08_CloudClasses_1000047 Lglidepathlaw08_CloudClasses_1000036 Lglidepathlaw08_CloudClasses_1000032 Lglidepathlaw08_CloudClasses_1000025 Lglidepathlaw08_CloudClasses_1000012 n0 c1 i2 i3 i4 b5 i6 i7 i8 i9 i10 = some r) : Rglidepathlaw08_CloudClasses_1000036 (Tglidepathlaw08_CloudClasses_1000036a n0 c1 i2 i3 i4 b5 i6 i7 i8 i9 i10) = some r :=
  nd_of Eglidepathlaw08_CloudClasses_ok (by kernel_rfl) (lo_cons (lpO_ok Uglidepathlaw08_CloudClasses) (lo_cons (lpO_ok Uglidepathlaw08_CloudClasses) (lo_cons (lpO_ok Uglidepathlaw08_CloudClasses) (lo_cons (lpO_ok Uglidepathlaw08_CloudClasses) (lo_cons (lpO_ok Uglidepathlaw08_CloudClasses) lo_nil))))) (by kernel_rfl) ((Bglidepathlaw08_CloudClasses_1000036a_eq _ Rglidepathlaw08_CloudClasses_1000036 _ _ _ _ _ _ _ _ _ _ _ _ _ _ _ _ _).trans h)
def Bglidepathlaw08_CloudClasses_1000032a (F : FnT) (_N : Q → Option (Ext × S)) (E : Ext × Q → Option (Ext × S)) (_L1000047 : Q → Option Yglidepathlaw08_CloudClasses_1000047) (_L1000036 : Q → Option Yglidepathlaw08_CloudClasses_1000036) (_L1000032 : Q → Option Yglidepathlaw08_CloudClasses_1000032) (_L1000025 : Q → Option Yglidepathlaw08_CloudClasses_1000025) (_L1000012 : Q → Option Yglidepathlaw08_CloudClasses_1000012) (n0 : Nat) (c1 : List PV) (i2 : Int) (i3 : Int) (i4 : Int) (b5 : Bool) (i6 : Int) (i7 : Int) (i8 : Int) (i9 : Int) (i10 : Int) : Option (Ext × S) :=
  bif (i8 != (0 : Int)) then
    bif (i4 != i8) then
      E (Xglidepathlaw08_CloudClasses_1000032a ())
    else bif (i3 != (0 : Int)) then
      E (Xglidepathlaw08_CloudClasses_1000032a ())
    else bif (i8 == (0 : Int)) then
      bif (i4 != (0 : Int)) then
        E (Xglidepathlaw08_CloudClasses_1000032a ())
      else bindO (F 51 (RSh.one (CK.int IntKind.i64)) [(PV.list n0 c1), (PV.agg [(PV.int IntKind.i64 i9), (PV.int IntKind.i64 i10)])]) fun (y0 : (Int)) =>
      bif (i3 != y0) then
        E (Xglidepathlaw08_CloudClasses_1000032a ())
      else E (Xglidepathlaw08_CloudClasses_1000032b (n0, c1, i2, b5, i6, i7, i8, i9, i10))
    else E (Xglidepathlaw08_CloudClasses_1000032b (n0, c1, i2, b5, i6, i7, i8, i9, i10))
  else bif (i8 == (0 : Int)) then
    bif (i4 != (0 : Int)) then
      E (Xglidepathlaw08_CloudClasses_1000032a ())
    else bindO (F 51 (RSh.one (CK.int IntKind.i64)) [(PV.list n0 c1), (PV.agg [(PV.int IntKind.i64 i9), (PV.int IntKind.i64 i10)])]) fun (y1 : (Int)) =>
    bif (i3 != y1) then
      E (Xglidepathlaw08_CloudClasses_1000032a ())
    else E (Xglidepathlaw08_CloudClasses_1000032b (n0, c1, i2, b5, i6, i7, i8, i9, i10))
  else E (Xglidepathlaw08_CloudClasses_1000032b (n0, c1, i2, b5, i6, i7, i8, i9, i10))
theorem Bglidepathlaw08_CloudClasses_1000032a_eq (F : FnT) (N : Q → Option (Ext × S)) (E : Ext × Q → Option (Ext × S)) (L1000047 : Q → Option Yglidepathlaw08_CloudClasses_1000047) (L1000036 : Q → Option Yglidepathlaw08_CloudClasses_1000036) (L1000032 : Q → Option Yglidepathlaw08_CloudClasses_1000032) (L1000025 : Q → Option Yglidepathlaw08_CloudClasses_1000025) (L1000012 : Q → Option Yglidepathlaw08_CloudClasses_1000012) (n0 : Nat) (c1 : List PV) (i2 : Int) (i3 : Int) (i4 : Int) (b5 : Bool) (i6 : Int) (i7 : Int) (i8 : Int) (i9 : Int) (i10 : Int) : semN (callP F Eglidepathlaw08_CloudClasses 20) s7 (loopT [⟨1000047, Yglidepathlaw08_CloudClasses_1000047, L1000047, XLglidepathlaw08_CloudClasses_1000047⟩, ⟨1000036, Yglidepathlaw08_CloudClasses_1000036, L1000036, XLglidepathlaw08_CloudClasses_1000036⟩, ⟨1000032, Yglidepathlaw08_CloudClasses_1000032, L1000032, XLglidepathlaw08_CloudClasses_1000032⟩, ⟨1000025, Yglidepathlaw08_CloudClasses_1000025, L1000025, XLglidepathlaw08_CloudClasses_1000025⟩, ⟨1000012, Yglidepathlaw08_CloudClasses_1000012, L1000012, XLglidepathlaw08_CloudClasses_1000012⟩]) 400 (blkIn a7.body 1000032) E (Tglidepathlaw08_CloudClasses_1000032a n0 c1 i2 i3 i4 b5 i6 i7 i8 i9 i10) = Bglidepathlaw08_CloudClasses_1000032a F N E L1000047 L1000036 L1000032 L1000025 L1000012 n0 c1 i2 i3 i4 b5 i6 i7 i8 i9 i10 := by kernel_rfl
theorem Rglidepathlaw08_CloudClasses_1000032a_of  (n0 : Nat) (c1 : List PV) (i2 : Int) (i3 : Int) (i4 : Int) (b5 : Bool) (i6 : Int) (i7 : Int) (i8 : Int) (i9 : Int) (i10 : Int) {r : Ext × S} (h : Bglidepathlaw08_CloudClasses_1000032a (Fn env) Rglidepathlaw08_CloudClasses_1000032 exO Lglidepathlaw08_CloudClasses_1000047 Lglidepathlaw08_CloudClasses_1000036 Lglidepathlaw08_CloudClasses_1000032 Lglidepathlaw08_CloudClasses_1000025 Lglidepathlaw08_CloudClasses_1000012 n0 c1 i2 i3 i4 b5 i6 i7 i8 i9 i10 = some r) : Rglidepathlaw08_CloudClasses_1000032 (Tglidepathlaw08_CloudClasses_1000032a n0 c1 i2 i3 i4 b5 i6 i7 i8 i9 i10) = some r :=
  nd_of Eglidepathlaw08_CloudClasses_ok (by kernel_rfl) (lo_cons (lpO_ok Uglidepathlaw08_CloudClasses) (lo_cons (lpO_ok Uglidepathlaw08_CloudClasses) (lo_cons (lpO_ok Uglidepathlaw08_CloudClasses) (lo_cons (lpO_ok Uglidepathlaw08_CloudClasses) (lo_cons (lpO_ok Uglidepathlaw08_CloudClasses) lo_nil))))) (by kernel_rfl) ((Bglidepathlaw08_CloudClasses_1000032a_eq _ Rglidepathlaw08_CloudClasses_1000032 _ _ _ _ _ _ _ _ _ _ _ _ _ _ _ _ _).trans h)
def Bglidepathlaw08_CloudClasses_1000025a (F : FnT) (_N : Q → Option (Ext × S)) (E : Ext × Q → Option (Ext × S)) (_L1000047 : Q → Option Yglidepathlaw08_CloudClasses_1000047) (_L1000036 : Q → Option Yglidepathlaw08_CloudClasses_1000036) (_L1000032 : Q → Option Yglidepathlaw08_CloudClasses_1000032) (_L1000025 : Q → Option Yglidepathlaw08_CloudClasses_1000025) (_L1000012 : Q → Option Yglidepathlaw08_CloudClasses_1000012) (n0 : Nat) (c1 : List PV) (i2 : Int) (b3 : Bool) (i4 : Int) (i5 : Int) (i6 : Int) (i7 : Int) (i8 : Int) : Option (Ext × S) :=
  bif (i5 == (0 : Int)) then
    bindO (F 31 (RSh.one CK.bool) [(PV.int IntKind.i64 i2), (PV.int IntKind.i64 (0 : Int)), (PV.int IntKind.i64 (10 : Int))]) fun (y0 : (Bool)) =>
    bif y0 then
      E (Xglidepathlaw08_CloudClasses_1000025a (n0, c1, i2, b3, i4, i5, i6, i7, i8))
    else E (Xglidepathlaw08_CloudClasses_1000025a (n0, c1, i2, b3, i4, (2 : Int), i6, i7, i8))
  else E (Xglidepathlaw08_CloudClasses_1000025a (n0, c1, i2, b3, i4, i5, i6, i7, i8))
theorem Bglidepathlaw08_CloudClasses_1000025a_eq (F : FnT) (N : Q → Option (Ext × S)) (E : Ext × Q → Option (Ext × S)) (L1000047 : Q → Option Yglidepathlaw08_CloudClasses_1000047) (L1000036 : Q → Option Yglidepathlaw08_CloudClasses_1000036) (L1000032 : Q → Option Yglidepathlaw08_CloudClasses_1000032) (L1000025 : Q → Option Yglidepathlaw08_CloudClasses_1000025) (L1000012 : Q → Option Yglidepathlaw08_CloudClasses_1000012) (n0 : Nat) (c1 : List PV) (i2 : Int) (b3 : Bool) (i4 : Int) (i5 : Int) (i6 : Int) (i7 : Int) (i8 : Int) : semN (callP F Eglidepathlaw08_CloudClasses 20) s7 (loopT [⟨1000047, Yglidepathlaw08_CloudClasses_1000047, L1000047, XLglidepathlaw08_CloudClasses_1000047⟩, ⟨1000036, Yglidepathlaw08_CloudClasses_1000036, L1000036, XLglidepathlaw08_CloudClasses_1000036⟩, ⟨1000032, Yglidepathlaw08_CloudClasses_1000032, L1000032, XLglidepathlaw08_CloudClasses_1000032⟩, ⟨1000025, Yglidepathlaw08_CloudClasses_1000025, L1000025, XLglidepathlaw08_CloudClasses_1000025⟩, ⟨1000012, Yglidepathlaw08_CloudClasses_1000012, L1000012, XLglidepathlaw08_CloudClasses_1000012⟩]) 400 (blkIn a7.body 1000025) E (Tglidepathlaw08_CloudClasses_1000025a n0 c1 i2 b3 i4 i5 i6 i7 i8) = Bglidepathlaw08_CloudClasses_1000025a F N E L1000047 L1000036 L1000032 L1000025 L1000012 n0 c1 i2 b3 i4 i5 i6 i7 i8 := by kernel_rfl
theorem Rglidepathlaw08_CloudClasses_1000025a_of  (n0 : Nat) (c1 : List PV) (i2 : Int) (b3 : Bool) (i4 : Int) (i5 : Int) (i6 : Int) (i7 : Int) (i8 : Int) {r : Ext × S} (h : Bglidepathlaw08_CloudClasses_1000025a (Fn env) Rglidepathlaw08_CloudClasses_1000025 exO Lglidepathlaw08_CloudClasses_1000047 Lglidepathlaw08_CloudClasses_1000036 Lglidepathlaw08_CloudClasses_1000032 Lglidepathlaw08_CloudClasses_1000025 Lglidepathlaw08_CloudClasses_1000012 n0 c1 i2 b3 i4 i5 i6 i7 i8 = some r) : Rglidepathlaw08_CloudClasses_1000025 (Tglidepathlaw08_CloudClasses_1000025a n0 c1 i2 b3 i4 i5 i6 i7 i8) = some r :=
  nd_of Eglidepathlaw08_CloudClasses_ok (by kernel_rfl) (lo_cons (lpO_ok Uglidepathlaw08_CloudClasses) (lo_cons (lpO_ok Uglidepathlaw08_CloudClasses) (lo_cons (lpO_ok Uglidepathlaw08_CloudClasses) (lo_cons (lpO_ok Uglidepathlaw08_CloudClasses) (lo_cons (lpO_ok Uglidepathlaw08_CloudClasses) lo_nil))))) (by kernel_rfl) ((Bglidepathlaw08_CloudClasses_1000025a_eq _ Rglidepathlaw08_CloudClasses_1000025 _ _ _ _ _ _ _ _ _ _ _ _ _ _ _).trans h)
def Bglidepathlaw08_CloudClasses_1000012a (F : FnT) (_N : Q → Option (Ext × S)) (E : Ext × Q → Option (Ext × S)) (_L1000047 : Q → Option Yglidepathlaw08_CloudClasses_1000047) (_L1000036 : Q → Option Yglidepathlaw08_CloudClasses_1000036) (_L1000032 : Q → Option Yglidepathlaw08_CloudClasses_1000032) (_L1000025 : Q → Option Yglidepathlaw08_CloudClasses_1000025) (_L1000012 : Q → Option Yglidepathlaw08_CloudClasses_1000012) (n0 : Nat) (c1 : List PV) (i2 : Int) (b3 : Bool) (i4 : Int) (i5 : Int) (i6 : Int) : Option (Ext × S) :=
  bif (i4 != (0 : Int)) then
    E (Xglidepathlaw08_CloudClasses_1000012a ())
  else bif b3 then
    bindO (F 52 (RSh.one CK.bool) [(PV.list n0 c1), (PV.agg [(PV.int IntKind.i64 i5), (PV.int IntKind.i64 i6)]), (PV.int IntKind.i64 i2)]) fun (y0 : (Bool)) =>
    bif y0 then
      E (Xglidepathlaw08_CloudClasses_1000012b (n0, c1, i2, b3, i5, i6))
    else E (Xglidepathlaw08_CloudClasses_1000012a ())
  else bindO (F 52 (RSh.one CK.bool) [(PV.list n0 c1), (PV.agg [(PV.int IntKind.i64 i5), (PV.int IntKind.i64 i6)]), (PV.int IntKind.i64 i2)]) fun (y1 : (Bool)) =>
  bif y1 then
    E (Xglidepathlaw08_CloudClasses_1000012a ())
  else E (Xglidepathlaw08_CloudClasses_1000012b (n0, c1, i2, b3, i5, i6))
theorem Bglidepathlaw08_CloudClasses_1000012a_eq (F : FnT) (N : Q → Option (Ext × S)) (E : Ext × Q → Option (Ext × S)) (L1000047 : Q → Option Yglidepathlaw08_CloudClasses_1000047) (L1000036 : Q → Option Yglidepathlaw08_CloudClasses_1000036) (L1000032 : Q → Option Yglidepathlaw08_CloudClasses_1000032) (L1000025 : Q → Option Yglidepathlaw08_CloudClasses_1000025) (L1000012 : Q → Option Yglidepathlaw08_CloudClasses_1000012) (n0 : Nat) (c1 : List PV) (i2 : Int) (b3 : Bool) (i4 : Int) (i5 : Int) (i6 : Int) : semN (callP F Eglidepathlaw08_CloudClasses 20) s7 (loopT [⟨1000047, Yglidepathlaw08_CloudClasses_1000047, L1000047, XLglidepathlaw08_CloudClasses_1000047⟩, ⟨1000036, Yglidepathlaw08_CloudClasses_1000036, L1000036, XLglidepathlaw08_CloudClasses_1000036⟩, ⟨1000032, Yglidepathlaw08_CloudClasses_1000032, L1000032, XLglidepathlaw08_CloudClasses_1000032⟩, ⟨1000025, Yglidepathlaw08_CloudClasses_1000025, L1000025, XLglidepathlaw08_CloudClasses_1000025⟩, ⟨1000012, Yglidepathlaw08_CloudClasses_1000012, L1000012, XLglidepathlaw08_CloudClasses_1000012⟩]) 400 (blkIn a7.body 1000012) E (Tglidepathlaw08_CloudClasses_1000012a n0 c1 i2 b3 i4 i5 i6) = Bglidepathlaw08_CloudClasses_1000012a F N E L1000047 L1000036 L1000032 L1000025 L1000012 n0 c1 i2 b3 i4 i5 i6 := by kernel_rfl
theorem Rglidepathlaw08_CloudClasses_1000012a_of  (n0 : Nat) (c1 : List PV) (i2 : Int) (b3 : Bool) (i4 : Int) (i5 : Int) (i6 : Int) {r : Ext × S} (h : Bglidepathlaw08_CloudClasses_1000012a (Fn env) Rglidepathlaw08_CloudClasses_1000012 exO Lglidepathlaw08_CloudClasses_1000047 Lglidepathlaw08_CloudClasses_1000036 Lglidepathlaw08_CloudClasses_1000032 Lglidepathlaw08_CloudClasses_1000025 Lglidepathlaw08_CloudClasses_1000012 n0 c1 i2 b3 i4 i5 i6 = some r) : Rglidepathlaw08_CloudClasses_1000012 (Tglidepathlaw08_CloudClasses_1000012a n0 c1 i2 b3 i4 i5 i6) = some r :=
  nd_of Eglidepathlaw08_CloudClasses_ok (by kernel_rfl) (lo_cons (lpO_ok Uglidepathlaw08_CloudClasses) (lo_cons (lpO_ok Uglidepathlaw08_CloudClasses) (lo_cons (lpO_ok Uglidepathlaw08_CloudClasses) (lo_cons (lpO_ok Uglidepathlaw08_CloudClasses) (lo_cons (lpO_ok Uglidepathlaw08_CloudClasses) lo_nil))))) (by kernel_rfl) ((Bglidepathlaw08_CloudClasses_1000012a_eq _ Rglidepathlaw08_CloudClasses_1000012 _ _ _ _ _ _ _ _ _ _ _ _ _).trans h)
def tglidepathlaw08_CloudClasses (F : FnT) (L1000047 : Q → Option Yglidepathlaw08_CloudClasses_1000047) (L1000036 : Q → Option Yglidepathlaw08_CloudClasses_1000036) (L1000032 : Q → Option Yglidepathlaw08_CloudClasses_1000032) (L1000025 : Q → Option Yglidepathlaw08_CloudClasses_1000025) (L1000012 : Q → Option Yglidepathlaw08_CloudClasses_1000012) (p0n : Nat) (p0c : List PV) (p1_0 : Int) (p1_1 : Int) (p2 : Int) : Option (Bool) :=
  bindO (F 8 (RSh.one CK.bool) []) fun (y0 : (Bool)) =>
  bif y0 then
    bif (decide ((p0n : Int) > (12 : Int))) then
      some true
    else bindO (F 46 (RSh.one CK.list) [(PV.list p0n p0c)]) fun (y1 : ((Nat) × (List PV))) =>
    bindO (F 45 (RSh.tup [(Prod.mk false [(CK.int IntKind.i64)]), (Prod.mk false [(CK.int IntKind.i64)])]) [(PV.list y1.1 y1.2)]) fun (y2 : ((Int) × (Int))) =>
    bindO (F 46 (RSh.one CK.list) [(PV.list p0n p0c)]) fun (y3 : ((Nat) × (List PV))) =>
    bindO (F 47 (RSh.tup [(Prod.mk false [(CK.int IntKind.i64)]), (Prod.mk false [(CK.int IntKind.i64)])]) [(PV.list y3.1 y3.2), (PV.agg [(PV.int IntKind.i64 p1_0), (PV.int IntKind.i64 p1_1)])]) fun (y4 : ((Int) × (Int))) =>
    bindO (F 46 (RSh.one CK.list) [(PV.list p0n p0c)]) fun (y5 : ((Nat) × (List PV))) =>
    bindO (F 48 (RSh.tup [(Prod.mk false [CK.bool]), (Prod.mk false [(CK.int IntKind.i64)])]) [(PV.list y5.1 y5.2), (PV.agg [(PV.int IntKind.i64 p1_0), (PV.int IntKind.i64 p1_1)]), (PV.int IntKind.i64 p2)]) fun (y6 : ((Bool) × (Int))) =>
    bif y6.1 then
      bindO (F 49 (RSh.tup [(Prod.mk false [(CK.int IntKind.i64)]), (Prod.mk false [(CK.int IntKind.i64)])]) [(PV.list p0n p0c)]) fun (y7 : ((Int) × (Int))) =>
      bindO (L1000047 (Tglidepathlaw08_CloudClasses_1000047a p0n p0c p2 y2.1 y2.2 y4.1 y4.2 true y6.2 y7.1 y7.2 p1_0 p1_1)) fun z =>
      Sum.elim (fun _y8 =>
        some false) (fun y9 =>
        bindO (F 50 (RSh.one (CK.int IntKind.i64)) [(PV.agg [(PV.int IntKind.i64 y9.2.2.2.2.2.2.2.2.1), (PV.int IntKind.i64 y9.2.2.2.2.2.2.2.2.2)])]) fun (y10 : (Int)) =>
        bindO (F 16 (RSh.one (CK.int IntKind.i64)) [(PV.int IntKind.i64 y9.2.2.2.2.2.2.2.1), (PV.int IntKind.i64 y10)]) fun (y11 : (Int)) =>
        bindO (L1000036 (Tglidepathlaw08_CloudClasses_1000036a y9.1 y9.2.1 y9.2.2.1 y9.2.2.2.1 y9.2.2.2.2.1 y9.2.2.2.2.2.1 y9.2.2.2.2.2.2.1 y11 y11 y9.2.2.2.2.2.2.2.2.1 y9.2.2.2.2.2.2.2.2.2)) fun y12 =>
        bindO (L1000032 (Tglidepathlaw08_CloudClasses_1000032a y12.1 y12.2.1 y12.2.2.1 y12.2.2.2.1 y12.2.2.2.2.1 y12.2.2.2.2.2.1 y12.2.2.2.2.2.2.1 y12.2.2.2.2.2.2.2.1 y12.2.2.2.2.2.2.2.2.1 y12.2.2.2.2.2.2.2.2.2.1 y12.2.2.2.2.2.2.2.2.2.2)) fun z =>
        Sum.elim (fun _y13 =>
          some false) (fun y14 =>
          bindO (L1000025 (Tglidepathlaw08_CloudClasses_1000025a y14.1 y14.2.1 y14.2.2.1 y14.2.2.2.1 y14.2.2.2.2.1 y14.2.2.2.2.2.1 y14.2.2.2.2.2.2.1 y14.2.2.2.2.2.2.2.1 y14.2.2.2.2.2.2.2.2)) fun y15 =>
          bindO (F 16 (RSh.one (CK.int IntKind.i64)) [(PV.int IntKind.i64 y15.2.2.2.2.2.1), (PV.int IntKind.i64 y15.2.2.2.2.2.2.1)]) fun (y16 : (Int)) =>
          bif (y16 != (0 : Int)) then
            bif (y15.2.2.2.2.1 == y16) then
              bif y15.2.2.2.1 then
                some false
              else some true
            else some false
          else bindO (L1000012 (Tglidepathlaw08_CloudClasses_1000012a y15.1 y15.2.1 y15.2.2.1 y15.2.2.2.1 y15.2.2.2.2.1 y15.2.2.2.2.2.2.2.1 y15.2.2.2.2.2.2.2.2)) fun z =>
          Sum.elim (fun _y17 =>
            some false) (fun y18 =>
            bindO (F 46 (RSh.one CK.list) [(PV.list y18.1 y18.2.1)]) fun (y19 : ((Nat) × (List PV))) =>
            bindO (F 48 (RSh.tup [(Prod.mk false [CK.bool]), (Prod.mk false [(CK.int IntKind.i64)])]) [(PV.list y19.1 y19.2), (PV.agg [(PV.int IntKind.i64 y18.2.2.2.2.1), (PV.int IntKind.i64 y18.2.2.2.2.2)]), (PV.int IntKind.i64 (w64 (Int.tdiv y18.2.2.1 (2 : Int))))]) fun (y20 : ((Bool) × (Int))) =>
            bif y20.1 then
              bindO (F 46 (RSh.one CK.list) [(PV.list y18.1 y18.2.1)]) fun (y21 : ((Nat) × (List PV))) =>
              bindO (F 48 (RSh.tup [(Prod.mk false [CK.bool]), (Prod.mk false [(CK.int IntKind.i64)])]) [(PV.list y21.1 y21.2), (PV.agg [(PV.int IntKind.i64 y18.2.2.2.2.1), (PV.int IntKind.i64 y18.2.2.2.2.2)]), (PV.int IntKind.i64 (0 : Int))]) fun (y22 : ((Bool) × (Int))) =>
              bif y22.1 then
                bif (y20.2 == (0 : Int)) then
                  bif (y22.2 == (0 : Int)) then
                    bif y18.2.2.2.1 then
                      some true
                    else some true
                  else some false
                else some false
              else bif (y20.2 == (0 : Int)) then
                bif (y22.2 == (0 : Int)) then
                  some false
                else some false
              else some false
            else bindO (F 46 (RSh.one CK.list) [(PV.list y18.1 y18.2.1)]) fun (y23 : ((Nat) × (List PV))) =>
            bindO (F 48 (RSh.tup [(Prod.mk false [CK.bool]), (Prod.mk false [(CK.int IntKind.i64)])]) [(PV.list y23.1 y23.2), (PV.agg [(PV.int IntKind.i64 y18.2.2.2.2.1), (PV.int IntKind.i64 y18.2.2.2.2.2)]), (PV.int IntKind.i64 (0 : Int))]) fun (y24 : ((Bool) × (Int))) =>
            bif y24.1 then
              bif (y20.2 == (0 : Int)) then
                bif (y24.2 == (0 : Int)) then
                  bif y18.2.2.2.1 then
                    some false
                  else some true
                else some false
              else some false
            else bif (y20.2 == (0 : Int)) then
              bif (y24.2 == (0 : Int)) then
                some false
              else some false
            else some false) z) z) z
    else bindO (F 49 (RSh.tup [(Prod.mk false [(CK.int IntKind.i64)]), (Prod.mk false [(CK.int IntKind.i64)])]) [(PV.list p0n p0c)]) fun (y25 : ((Int) × (Int))) =>
    bindO (L1000047 (Tglidepathlaw08_CloudClasses_1000047a p0n p0c p2 y2.1 y2.2 y4.1 y4.2 false y6.2 y25.1 y25.2 p1_0 p1_1)) fun z =>
    Sum.elim (fun _y26 =>
      some false) (fun y27 =>
      bindO (F 50 (RSh.one (CK.int IntKind.i64)) [(PV.agg [(PV.int IntKind.i64 y27.2.2.2.2.2.2.2.2.1), (PV.int IntKind.i64 y27.2.2.2.2.2.2.2.2.2)])]) fun (y28 : (Int)) =>
      bindO (F 16 (RSh.one (CK.int IntKind.i64)) [(PV.int IntKind.i64 y27.2.2.2.2.2.2.2.1), (PV.int IntKind.i64 y28)]) fun (y29 : (Int)) =>
      bindO (L1000036 (Tglidepathlaw08_CloudClasses_1000036a y27.1 y27.2.1 y27.2.2.1 y27.2.2.2.1 y27.2.2.2.2.1 y27.2.2.2.2.2.1 y27.2.2.2.2.2.2.1 y29 y29 y27.2.2.2.2.2.2.2.2.1 y27.2.2.2.2.2.2.2.2.2)) fun y30 =>
      bindO (L1000032 (Tglidepathlaw08_CloudClasses_1000032a y30.1 y30.2.1 y30.2.2.1 y30.2.2.2.1 y30.2.2.2.2.1 y30.2.2.2.2.2.1 y30.2.2.2.2.2.2.1 y30.2.2.2.2.2.2.2.1 y30.2.2.2.2.2.2.2.2.1 y30.2.2.2.2.2.2.2.2.2.1 y30.2.2.2.2.2.2.2.2.2.2)) fun z =>
      Sum.elim (fun _y31 =>
        some false) (fun y32 =>
        bindO (L1000025 (Tglidepathlaw08_CloudClasses_1000025a y32.1 y32.2.1 y32.2.2.1 y32.2.2.2.1 y32.2.2.2.2.1 y32.2.2.2.2.2.1 y32.2.2.2.2.2.2.1 y32.2.2.2.2.2.2.2.1 y32.2.2.2.2.2.2.2.2)) fun y33 =>
        bindO (F 16 (RSh.one (CK.int IntKind.i64)) [(PV.int IntKind.i64 y33.2.2.2.2.2.1), (PV.int IntKind.i64 y33.2.2.2.2.2.2.1)]) fun (y34 : (Int)) =>
        bif (y34 != (0 : Int)) then
          bif (y33.2.2.2.2.1 == y34) then
            bif y33.2.2.2.1 then
              some false
            else some true
          else some false
        else bindO (L1000012 (Tglidepathlaw08_CloudClasses_1000012a y33.1 y33.2.1 y33.2.2.1 y33.2.2.2.1 y33.2.2.2.2.1 y33.2.2.2.2.2.2.2.1 y33.2.2.2.2.2.2.2.2)) fun z =>
        Sum.elim (fun _y35 =>
          some false) (fun y36 =>
          bindO (F 46 (RSh.one CK.list) [(PV.list y36.1 y36.2.1)]) fun (y37 : ((Nat) × (List PV))) =>
          bindO (F 48 (RSh.tup [(Prod.mk false [CK.bool]), (Prod.mk false [(CK.int IntKind.i64)])]) [(PV.list y37.1 y37.2), (PV.agg [(PV.int IntKind.i64 y36.2.2.2.2.1), (PV.int IntKind.i64 y36.2.2.2.2.2)]), (PV.int IntKind.i64 (w64 (Int.tdiv y36.2.2.1 (2 : Int))))]) fun (y38 : ((Bool) × (Int))) =>
          bif y38.1 then
            bindO (F 46 (RSh.one CK.list) [(PV.list y36.1 y36.2.1)]) fun (y39 : ((Nat) × (List PV))) =>
            bindO (F 48 (RSh.tup [(Prod.mk false [CK.bool]), (Prod.mk false [(CK.int IntKind.i64)])]) [(PV.list y39.1 y39.2), (PV.agg [(PV.int IntKind.i64 y36.2.2.2.2.1), (PV.int IntKind.i64 y36.2.2.2.2.2)]), (PV.int IntKind.i64 (0 : Int))]) fun (y40 : ((Bool) × (Int))) =>
            bif y40.1 then
              bif (y38.2 == (0 : Int)) then
                bif (y40.2 == (0 : Int)) then
                  bif y36.2.2.2.1 then
                    some true
                  else some true
                else some false
              else some false
            else bif (y38.2 == (0 : Int)) then
              bif (y40.2 == (0 : Int)) then
                some false
              else some false
            else some false
          else bindO (F 46 (RSh.one CK.list) [(PV.list y36.1 y36.2.1)]) fun (y41 : ((Nat) × (List PV))) =>
          bindO (F 48 (RSh.tup [(Prod.mk false [CK.bool]), (Prod.mk false [(CK.int IntKind.i64)])]) [(PV.list y41.1 y41.2), (PV.agg [(PV.int IntKind.i64 y36.2.2.2.2.1), (PV.int IntKind.i64 y36.2.2.2.2.2)]), (PV.int IntKind.i64 (0 : Int))]) fun (y42 : ((Bool) × (Int))) =>
          bif y42.1 then
            bif (y38.2 == (0 : Int)) then
              bif (y42.2 == (0 : Int)) then
                bif y36.2.2.2.1 then
                  some false
                else some true
              else some false
            else some false
          else bif (y38.2 == (0 : Int)) then
            bif (y42.2 == (0 : Int)) then
              some false
            else some false
          else some false) z) z) z
  else some false
theorem tglidepathlaw08_CloudClasses_eq (F : FnT) (L1000047 : Q → Option Yglidepathlaw08_CloudClasses_1000047) (L1000036 : Q → Option Yglidepathlaw08_CloudClasses_1000036) (L1000032 : Q → Option Yglidepathlaw08_CloudClasses_1000032) (L1000025 : Q → Option Yglidepathlaw08_CloudClasses_1000025) (L1000012 : Q → Option Yglidepathlaw08_CloudClasses_1000012) (p0n : Nat) (p0c : List PV) (p1_0 : Int) (p1_1 : Int) (p2 : Int) : semF (callP F Eglidepathlaw08_CloudClasses 20) s7 (loopT [⟨1000047, Yglidepathlaw08_CloudClasses_1000047, L1000047, XLglidepathlaw08_CloudClasses_1000047⟩, ⟨1000036, Yglidepathlaw08_CloudClasses_1000036, L1000036, XLglidepathlaw08_CloudClasses_1000036⟩, ⟨1000032, Yglidepathlaw08_CloudClasses_1000032, L1000032, XLglidepathlaw08_CloudClasses_1000032⟩, ⟨1000025, Yglidepathlaw08_CloudClasses_1000025, L1000025, XLglidepathlaw08_CloudClasses_1000025⟩, ⟨1000012, Yglidepathlaw08_CloudClasses_1000012, L1000012, XLglidepathlaw08_CloudClasses_1000012⟩]) 400 a7 [PV.list p0n p0c, PV.agg [PV.int IntKind.i64 p1_0, PV.int IntKind.i64 p1_1], PV.int IntKind.i64 p2] (fun rv => decR (RSh.one CK.bool) rv.pv) = tglidepathlaw08_CloudClasses F L1000047 L1000036 L1000032 L1000025 L1000012 p0n p0c p1_0 p1_1 p2 := by kernel_rfl
noncomputable abbrev Fglidepathlaw08_CloudClasses (args : List PV) := Fn env 7 (RSh.one CK.bool) args
theorem Fglidepathlaw08_CloudClasses_of  (p0n : Nat) (p0c : List PV) (p1_0 : Int) (p1_1 : Int) (p2 : Int) {res : (Bool)} (h : tglidepathlaw08_CloudClasses (Fn env) Lglidepathlaw08_CloudClasses_1000047 Lglidepathlaw08_CloudClasses_1000036 Lglidepathlaw08_CloudClasses_1000032 Lglidepathlaw08_CloudClasses_1000025 Lglidepathlaw08_CloudClasses_1000012 p0n p0c p1_0 p1_1 p2 = some res) : Fglidepathlaw08_CloudClasses [PV.list p0n p0c, PV.agg [PV.int IntKind.i64 p1_0, PV.int IntKind.i64 p1_1], PV.int IntKind.i64 p2] = some res :=
  fn_of Eglidepathlaw08_CloudClasses_ok rfl rfl (lo_cons (lpO_ok Uglidepathlaw08_CloudClasses) (lo_cons (lpO_ok Uglidepathlaw08_CloudClasses) (lo_cons (lpO_ok Uglidepathlaw08_CloudClasses) (lo_cons (lpO_ok Uglidepathlaw08_CloudClasses) (lo_cons (lpO_ok Uglidepathlaw08_CloudClasses) lo_nil))))) ((tglidepathlaw08_CloudClasses_eq _ _ _ _ _ _ _ _ _ _ _).trans h)

end Gv
