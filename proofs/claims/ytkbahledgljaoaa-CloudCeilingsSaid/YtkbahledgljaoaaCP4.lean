/- What the functions do, round by round: CP4. -/
import Derived.Test.YtkbahledgljaoaaCP3
namespace Gv
open Go
set_option maxRecDepth 100000

/-! ### glidepathlaw08_CloudCeilings -/

def Eglidepathlaw08_CloudCeilings : List Entry := [.out 10 (RSh.one CK.bool), .out 34 (RSh.one CK.list), .out 33 (RSh.tup [(Prod.mk false [(CK.int IntKind.i64)]), (Prod.mk false [(CK.int IntKind.i64)])]), .out 35 (RSh.tup [(Prod.mk false [(CK.int IntKind.i64)]), (Prod.mk false [(CK.int IntKind.i64)])]), .out 16 (RSh.one CK.list), .out 36 (RSh.tup [(Prod.mk false [(CK.int IntKind.i64)]), (Prod.mk false [(CK.int IntKind.i64)])]), .out 37 (RSh.tup [(Prod.mk false [(CK.int IntKind.i64)]), (Prod.mk false [(CK.int IntKind.i64)])]), .out 38 (RSh.one (CK.int IntKind.i64)), .out 39 (RSh.one (CK.int IntKind.i64)), .out 14 (RSh.one CK.bool), .out 40 (RSh.tup [(Prod.mk false [(CK.int IntKind.i64)]), (Prod.mk false [CK.bool])])]
theorem Eglidepathlaw08_CloudCeilings_ok : ∀ e ∈ Eglidepathlaw08_CloudCeilings, EntOK env e := (ent_out (ent_out (ent_out (ent_out (ent_out (ent_out (ent_out (ent_out (ent_out (ent_out (ent_out ent_nil)))))))))))
def Tglidepathlaw08_CloudCeilings_1000052a (n0 : Nat) (c1 : List PV) (i2 : Int) (n3 : Nat) (c4 : List PV) : Q := ⟨(tm 124 [(0, (AV.p (PV.list n0 c1))), (1, (AV.p (PV.int IntKind.i64 i2))), (2, (AV.p (PV.list n3 c4)))]), (mm 124 [])⟩
def Xglidepathlaw08_CloudCeilings_1000052a (y : Unit) : Ext × Q := (Ext.ret, ⟨(tm 124 [(6, (AV.p (PV.bool true)))]), (mm 124 [])⟩)
def Iglidepathlaw08_CloudCeilings_1000052a (q : Ext × S) : Unit := ()
def Xglidepathlaw08_CloudCeilings_1000052b (y : Nat × List PV × Int × Nat × List PV) : Ext × Q := (Ext.normal, ⟨(tm 124 [(0, (AV.p (PV.list y.1 y.2.1))), (1, (AV.p (PV.int IntKind.i64 y.2.2.1))), (2, (AV.p (PV.list y.2.2.2.1 y.2.2.2.2)))]), (mm 124 [])⟩)
def Iglidepathlaw08_CloudCeilings_1000052b (q : Ext × S) : Nat × List PV × Int × Nat × List PV := ((pP_list0 (pA_p (avT q.2 0))), (pP_list1 (pA_p (avT q.2 0))), (pP_int1 (pA_p (avT q.2 1))), (pP_list0 (pA_p (avT q.2 2))), (pP_list1 (pA_p (avT q.2 2))))
abbrev Yglidepathlaw08_CloudCeilings_1000052 : Type := (Unit) ⊕ ((Nat × List PV × Int × Nat × List PV))
def XLglidepathlaw08_CloudCeilings_1000052 : XL Yglidepathlaw08_CloudCeilings_1000052 := .more Xglidepathlaw08_CloudCeilings_1000052a (.one Xglidepathlaw08_CloudCeilings_1000052b)
def Iglidepathlaw08_CloudCeilings_1000052 (q : Ext × S) : Yglidepathlaw08_CloudCeilings_1000052 := bif (cE q.1 == 2) then (Sum.inl (Iglidepathlaw08_CloudCeilings_1000052a q)) else (Sum.inr (Iglidepathlaw08_CloudCeilings_1000052b q))
theorem XIglidepathlaw08_CloudCeilings_1000052a (y : Unit) : Iglidepathlaw08_CloudCeilings_1000052 (xe (Xglidepathlaw08_CloudCeilings_1000052a y)) = (Sum.inl y) := rfl
theorem XIglidepathlaw08_CloudCeilings_1000052b (y : Nat × List PV × Int × Nat × List PV) : Iglidepathlaw08_CloudCeilings_1000052 (xe (Xglidepathlaw08_CloudCeilings_1000052b y)) = (Sum.inr y) := rfl
theorem XIglidepathlaw08_CloudCeilings_1000052 (y : Yglidepathlaw08_CloudCeilings_1000052) : Iglidepathlaw08_CloudCeilings_1000052 (xe (XLglidepathlaw08_CloudCeilings_1000052.fn y)) = y := (match y with | .inl y => XIglidepathlaw08_CloudCeilings_1000052a y | .inr y => XIglidepathlaw08_CloudCeilings_1000052b y)
noncomputable abbrev Lglidepathlaw08_CloudCeilings_1000052 : Q → Option Yglidepathlaw08_CloudCeilings_1000052 := lpO env a7.body 1000052 XLglidepathlaw08_CloudCeilings_1000052
noncomputable abbrev Rglidepathlaw08_CloudCeilings_1000052 : Q → Option (Ext × S) := lpR env a7.body 1000052
theorem Lglidepathlaw08_CloudCeilings_1000052a_of {s : Q} {y : Unit} (h : Rglidepathlaw08_CloudCeilings_1000052 s = exO (Xglidepathlaw08_CloudCeilings_1000052a y)) : Lglidepathlaw08_CloudCeilings_1000052 s = some (Sum.inl y) := lpO_of Iglidepathlaw08_CloudCeilings_1000052 XIglidepathlaw08_CloudCeilings_1000052 (y := (Sum.inl y)) h
theorem Lglidepathlaw08_CloudCeilings_1000052b_of {s : Q} {y : Nat × List PV × Int × Nat × List PV} (h : Rglidepathlaw08_CloudCeilings_1000052 s = exO (Xglidepathlaw08_CloudCeilings_1000052b y)) : Lglidepathlaw08_CloudCeilings_1000052 s = some (Sum.inr y) := lpO_of Iglidepathlaw08_CloudCeilings_1000052 XIglidepathlaw08_CloudCeilings_1000052 (y := (Sum.inr y)) h
def Tglidepathlaw08_CloudCeilings_1000037a (n0 : Nat) (c1 : List PV) (i2 : Int) (n3 : Nat) (c4 : List PV) (i5 : Int) (i6 : Int) (i7 : Int) (i8 : Int) (i9 : Int) (i10 : Int) (i11 : Int) (i12 : Int) : Q := ⟨(tm 124 [(0, (AV.p (PV.list n0 c1))), (1, (AV.p (PV.int IntKind.i64 i2))), (2, (AV.p (PV.list n3 c4))), (7, (AV.p (PV.int IntKind.i64 i5))), (8, (AV.p (PV.int IntKind.i64 i6))), (9, (AV.p (PV.int IntKind.i64 i7))), (10, (AV.p (PV.int IntKind.i64 i8))), (11, (AV.p (PV.int IntKind.i64 i9))), (12, (AV.p (PV.int IntKind.i64 i10))), (13, (AV.p (PV.int IntKind.i64 i11))), (14, (AV.p (PV.int IntKind.i64 i12)))]), (mm 124 [])⟩
def Xglidepathlaw08_CloudCeilings_1000037a (y : Unit) : Ext × Q := (Ext.ret, ⟨(tm 124 [(6, (AV.p (PV.bool false)))]), (mm 124 [])⟩)
def Iglidepathlaw08_CloudCeilings_1000037a (q : Ext × S) : Unit := ()
def Xglidepathlaw08_CloudCeilings_1000037b (y : Nat × List PV × Int × Nat × List PV × Int × Int × Int × Int × Int) : Ext × Q := (Ext.normal, ⟨(tm 124 [(0, (AV.p (PV.list y.1 y.2.1))), (1, (AV.p (PV.int IntKind.i64 y.2.2.1))), (2, (AV.p (PV.list y.2.2.2.1 y.2.2.2.2.1))), (9, (AV.p (PV.int IntKind.i64 y.2.2.2.2.2.1))), (10, (AV.p (PV.int IntKind.i64 y.2.2.2.2.2.2.1))), (11, (AV.p (PV.int IntKind.i64 y.2.2.2.2.2.2.2.1))), (12, (AV.p (PV.int IntKind.i64 y.2.2.2.2.2.2.2.2.1))), (14, (AV.p (PV.int IntKind.i64 y.2.2.2.2.2.2.2.2.2)))]), (mm 124 [])⟩)
def Iglidepathlaw08_CloudCeilings_1000037b (q : Ext × S) : Nat × List PV × Int × Nat × List PV × Int × Int × Int × Int × Int := ((pP_list0 (pA_p (avT q.2 0))), (pP_list1 (pA_p (avT q.2 0))), (pP_int1 (pA_p (avT q.2 1))), (pP_list0 (pA_p (avT q.2 2))), (pP_list1 (pA_p (avT q.2 2))), (pP_int1 (pA_p (avT q.2 9))), (pP_int1 (pA_p (avT q.2 10))), (pP_int1 (pA_p (avT q.2 11))), (pP_int1 (pA_p (avT q.2 12))), (pP_int1 (pA_p (avT q.2 14))))
abbrev Yglidepathlaw08_CloudCeilings_1000037 : Type := (Unit) ⊕ ((Nat × List PV × Int × Nat × List PV × Int × Int × Int × Int × Int))
def XLglidepathlaw08_CloudCeilings_1000037 : XL Yglidepathlaw08_CloudCeilings_1000037 := .more Xglidepathlaw08_CloudCeilings_1000037a (.one Xglidepathlaw08_CloudCeilings_1000037b)
def Iglidepathlaw08_CloudCeilings_1000037 (q : Ext × S) : Yglidepathlaw08_CloudCeilings_1000037 := bif (cE q.1 == 2) then (Sum.inl (Iglidepathlaw08_CloudCeilings_1000037a q)) else (Sum.inr (Iglidepathlaw08_CloudCeilings_1000037b q))
theorem XIglidepathlaw08_CloudCeilings_1000037a (y : Unit) : Iglidepathlaw08_CloudCeilings_1000037 (xe (Xglidepathlaw08_CloudCeilings_1000037a y)) = (Sum.inl y) := rfl
theorem XIglidepathlaw08_CloudCeilings_1000037b (y : Nat × List PV × Int × Nat × List PV × Int × Int × Int × Int × Int) : Iglidepathlaw08_CloudCeilings_1000037 (xe (Xglidepathlaw08_CloudCeilings_1000037b y)) = (Sum.inr y) := rfl
theorem XIglidepathlaw08_CloudCeilings_1000037 (y : Yglidepathlaw08_CloudCeilings_1000037) : Iglidepathlaw08_CloudCeilings_1000037 (xe (XLglidepathlaw08_CloudCeilings_1000037.fn y)) = y := (match y with | .inl y => XIglidepathlaw08_CloudCeilings_1000037a y | .inr y => XIglidepathlaw08_CloudCeilings_1000037b y)
noncomputable abbrev Lglidepathlaw08_CloudCeilings_1000037 : Q → Option Yglidepathlaw08_CloudCeilings_1000037 := lpO env a7.body 1000037 XLglidepathlaw08_CloudCeilings_1000037
noncomputable abbrev Rglidepathlaw08_CloudCeilings_1000037 : Q → Option (Ext × S) := lpR env a7.body 1000037
theorem Lglidepathlaw08_CloudCeilings_1000037a_of {s : Q} {y : Unit} (h : Rglidepathlaw08_CloudCeilings_1000037 s = exO (Xglidepathlaw08_CloudCeilings_1000037a y)) : Lglidepathlaw08_CloudCeilings_1000037 s = some (Sum.inl y) := lpO_of Iglidepathlaw08_CloudCeilings_1000037 XIglidepathlaw08_CloudCeilings_1000037 (y := (Sum.inl y)) h
theorem Lglidepathlaw08_CloudCeilings_1000037b_of {s : Q} {y : Nat × List PV × Int × Nat × List PV × Int × Int × Int × Int × Int} (h : Rglidepathlaw08_CloudCeilings_1000037 s = exO (Xglidepathlaw08_CloudCeilings_1000037b y)) : Lglidepathlaw08_CloudCeilings_1000037 s = some (Sum.inr y) := lpO_of Iglidepathlaw08_CloudCeilings_1000037 XIglidepathlaw08_CloudCeilings_1000037 (y := (Sum.inr y)) h
def Tglidepathlaw08_CloudCeilings_1000030a (n0 : Nat) (c1 : List PV) (i2 : Int) (n3 : Nat) (c4 : List PV) (i5 : Int) (i6 : Int) (i7 : Int) (i8 : Int) (i9 : Int) : Q := ⟨(tm 124 [(0, (AV.p (PV.list n0 c1))), (1, (AV.p (PV.int IntKind.i64 i2))), (2, (AV.p (PV.list n3 c4))), (9, (AV.p (PV.int IntKind.i64 i5))), (10, (AV.p (PV.int IntKind.i64 i6))), (11, (AV.p (PV.int IntKind.i64 i7))), (12, (AV.p (PV.int IntKind.i64 i8))), (14, (AV.p (PV.int IntKind.i64 i9)))]), (mm 124 [])⟩
def Xglidepathlaw08_CloudCeilings_1000030a (y : Unit) : Ext × Q := (Ext.ret, ⟨(tm 124 [(6, (AV.p (PV.bool false)))]), (mm 124 [])⟩)
def Iglidepathlaw08_CloudCeilings_1000030a (q : Ext × S) : Unit := ()
def Xglidepathlaw08_CloudCeilings_1000030b (y : Nat × List PV × Int × Int × Int × Int) : Ext × Q := (Ext.normal, ⟨(tm 124 [(0, (AV.p (PV.list y.1 y.2.1))), (1, (AV.p (PV.int IntKind.i64 y.2.2.1))), (9, (AV.p (PV.int IntKind.i64 y.2.2.2.1))), (10, (AV.p (PV.int IntKind.i64 y.2.2.2.2.1))), (14, (AV.p (PV.int IntKind.i64 y.2.2.2.2.2)))]), (mm 124 [])⟩)
def Iglidepathlaw08_CloudCeilings_1000030b (q : Ext × S) : Nat × List PV × Int × Int × Int × Int := ((pP_list0 (pA_p (avT q.2 0))), (pP_list1 (pA_p (avT q.2 0))), (pP_int1 (pA_p (avT q.2 1))), (pP_int1 (pA_p (avT q.2 9))), (pP_int1 (pA_p (avT q.2 10))), (pP_int1 (pA_p (avT q.2 14))))
abbrev Yglidepathlaw08_CloudCeilings_1000030 : Type := (Unit) ⊕ ((Nat × List PV × Int × Int × Int × Int))
def XLglidepathlaw08_CloudCeilings_1000030 : XL Yglidepathlaw08_CloudCeilings_1000030 := .more Xglidepathlaw08_CloudCeilings_1000030a (.one Xglidepathlaw08_CloudCeilings_1000030b)
def Iglidepathlaw08_CloudCeilings_1000030 (q : Ext × S) : Yglidepathlaw08_CloudCeilings_1000030 := bif (cE q.1 == 2) then (Sum.inl (Iglidepathlaw08_CloudCeilings_1000030a q)) else (Sum.inr (Iglidepathlaw08_CloudCeilings_1000030b q))
theorem XIglidepathlaw08_CloudCeilings_1000030a (y : Unit) : Iglidepathlaw08_CloudCeilings_1000030 (xe (Xglidepathlaw08_CloudCeilings_1000030a y)) = (Sum.inl y) := rfl
theorem XIglidepathlaw08_CloudCeilings_1000030b (y : Nat × List PV × Int × Int × Int × Int) : Iglidepathlaw08_CloudCeilings_1000030 (xe (Xglidepathlaw08_CloudCeilings_1000030b y)) = (Sum.inr y) := rfl
theorem XIglidepathlaw08_CloudCeilings_1000030 (y : Yglidepathlaw08_CloudCeilings_1000030) : Iglidepathlaw08_CloudCeilings_1000030 (xe (XLglidepathlaw08_CloudCeilings_1000030.fn y)) = y := (match y with | .inl y => XIglidepathlaw08_CloudCeilings_1000030a y | .inr y => XIglidepathlaw08_CloudCeilings_1000030b y)
noncomputable abbrev Lglidepathlaw08_CloudCeilings_1000030 : Q → Option Yglidepathlaw08_CloudCeilings_1000030 := lpO env a7.body 1000030 XLglidepathlaw08_CloudCeilings_1000030
noncomputable abbrev Rglidepathlaw08_CloudCeilings_1000030 : Q → Option (Ext × S) := lpR env a7.body 1000030
theorem Lglidepathlaw08_CloudCeilings_1000030a_of {s : Q} {y : Unit} (h : Rglidepathlaw08_CloudCeilings_1000030 s = exO (Xglidepathlaw08_CloudCeilings_1000030a y)) : Lglidepathlaw08_CloudCeilings_1000030 s = some (Sum.inl y) := lpO_of Iglidepathlaw08_CloudCeilings_1000030 XIglidepathlaw08_CloudCeilings_1000030 (y := (Sum.inl y)) h
theorem Lglidepathlaw08_CloudCeilings_1000030b_of {s : Q} {y : Nat × List PV × Int × Int × Int × Int} (h : Rglidepathlaw08_CloudCeilings_1000030 s = exO (Xglidepathlaw08_CloudCeilings_1000030b y)) : Lglidepathlaw08_CloudCeilings_1000030 s = some (Sum.inr y) := lpO_of Iglidepathlaw08_CloudCeilings_1000030 XIglidepathlaw08_CloudCeilings_1000030 (y := (Sum.inr y)) h
def Tglidepathlaw08_CloudCeilings_1000021a (n0 : Nat) (c1 : List PV) (i2 : Int) (i3 : Int) (i4 : Int) (i5 : Int) : Q := ⟨(tm 124 [(0, (AV.p (PV.list n0 c1))), (1, (AV.p (PV.int IntKind.i64 i2))), (9, (AV.p (PV.int IntKind.i64 i3))), (10, (AV.p (PV.int IntKind.i64 i4))), (14, (AV.p (PV.int IntKind.i64 i5)))]), (mm 124 [])⟩
def Xglidepathlaw08_CloudCeilings_1000021a (y : Nat × List PV × Int × Int × Int × Int) : Ext × Q := (Ext.normal, ⟨(tm 124 [(0, (AV.p (PV.list y.1 y.2.1))), (1, (AV.p (PV.int IntKind.i64 y.2.2.1))), (9, (AV.p (PV.int IntKind.i64 y.2.2.2.1))), (10, (AV.p (PV.int IntKind.i64 y.2.2.2.2.1))), (14, (AV.p (PV.int IntKind.i64 y.2.2.2.2.2)))]), (mm 124 [])⟩)
def Iglidepathlaw08_CloudCeilings_1000021a (q : Ext × S) : Nat × List PV × Int × Int × Int × Int := ((pP_list0 (pA_p (avT q.2 0))), (pP_list1 (pA_p (avT q.2 0))), (pP_int1 (pA_p (avT q.2 1))), (pP_int1 (pA_p (avT q.2 9))), (pP_int1 (pA_p (avT q.2 10))), (pP_int1 (pA_p (avT q.2 14))))
abbrev Yglidepathlaw08_CloudCeilings_1000021 : Type := Nat × List PV × Int × Int × Int × Int
def XLglidepathlaw08_CloudCeilings_1000021 : XL Yglidepathlaw08_CloudCeilings_1000021 := .one Xglidepathlaw08_CloudCeilings_1000021a
def Iglidepathlaw08_CloudCeilings_1000021 (q : Ext × S) : Yglidepathlaw08_CloudCeilings_1000021 := (Iglidepathlaw08_CloudCeilings_1000021a q)
theorem XIglidepathlaw08_CloudCeilings_1000021a (y : Nat × List PV × Int × Int × Int × Int) : Iglidepathlaw08_CloudCeilings_1000021 (xe (Xglidepathlaw08_CloudCeilings_1000021a y)) = y := rfl
theorem XIglidepathlaw08_CloudCeilings_1000021 (y : Yglidepathlaw08_CloudCeilings_1000021) : Iglidepathlaw08_CloudCeilings_1000021 (xe (XLglidepathlaw08_CloudCeilings_1000021.fn y)) = y := XIglidepathlaw08_CloudCeilings_1000021a y
noncomputable abbrev Lglidepathlaw08_CloudCeilings_1000021 : Q → Option Yglidepathlaw08_CloudCeilings_1000021 := lpO env a7.body 1000021 XLglidepathlaw08_CloudCeilings_1000021
noncomputable abbrev Rglidepathlaw08_CloudCeilings_1000021 : Q → Option (Ext × S) := lpR env a7.body 1000021
theorem Lglidepathlaw08_CloudCeilings_1000021a_of {s : Q} {y : Nat × List PV × Int × Int × Int × Int} (h : Rglidepathlaw08_CloudCeilings_1000021 s = exO (Xglidepathlaw08_CloudCeilings_1000021a y)) : Lglidepathlaw08_CloudCeilings_1000021 s = some y := lpO_of Iglidepathlaw08_CloudCeilings_1000021 XIglidepathlaw08_CloudCeilings_1000021 (y := y) h
theorem Uglidepathlaw08_CloudCeilings : uniq ((blocksOf a7.body).map (·.1)) = true := by kernel_rfl
def Bglidepathlaw08_CloudCeilings_1000052a (F : FnT) (N : Q → Option (Ext × S)) (E : Ext × Q → Option (Ext × S)) (L1000052 : Q → Option Yglidepathlaw08_CloudCeilings_1000052) (L1000037 : Q → Option Yglidepathlaw08_CloudCeilings_1000037) (L1000030 : Q → Option Yglidepathlaw08_CloudCeilings_1000030) (L1000021 : Q → Option Yglidepathlaw08_CloudCeilings_1000021) (n0 : Nat) (c1 : List PV) (i2 : Int) (n3 : Nat) (c4 : List PV) : Option (Ext × S) :=
  bif (decide ((n0 : Int) > (12 : Int))) then
    E (Xglidepathlaw08_CloudCeilings_1000052a ())
  else bif (decide ((n3 : Int) > (17 : Int))) then
    E (Xglidepathlaw08_CloudCeilings_1000052a ())
  else E (Xglidepathlaw08_CloudCeilings_1000052b (n0, c1, i2, n3, c4))
theorem Bglidepathlaw08_CloudCeilings_1000052a_eq (F : FnT) (N : Q → Option (Ext × S)) (E : Ext × Q → Option (Ext × S)) (L1000052 : Q → Option Yglidepathlaw08_CloudCeilings_1000052) (L1000037 : Q → Option Yglidepathlaw08_CloudCeilings_1000037) (L1000030 : Q → Option Yglidepathlaw08_CloudCeilings_1000030) (L1000021 : Q → Option Yglidepathlaw08_CloudCeilings_1000021) (n0 : Nat) (c1 : List PV) (i2 : Int) (n3 : Nat) (c4 : List PV) : semN (callP F Eglidepathlaw08_CloudCeilings 20) s7 (loopT [⟨1000052, Yglidepathlaw08_CloudCeilings_1000052, L1000052, XLglidepathlaw08_CloudCeilings_1000052⟩, ⟨1000037, Yglidepathlaw08_CloudCeilings_1000037, L1000037, XLglidepathlaw08_CloudCeilings_1000037⟩, ⟨1000030, Yglidepathlaw08_CloudCeilings_1000030, L1000030, XLglidepathlaw08_CloudCeilings_1000030⟩, ⟨1000021, Yglidepathlaw08_CloudCeilings_1000021, L1000021, XLglidepathlaw08_CloudCeilings_1000021⟩]) 400 (blkIn a7.body 1000052) E (Tglidepathlaw08_CloudCeilings_1000052a n0 c1 i2 n3 c4) = Bglidepathlaw08_CloudCeilings_1000052a F N E L1000052 L1000037 L1000030 L1000021 n0 c1 i2 n3 c4 := by kernel_rfl
theorem Rglidepathlaw08_CloudCeilings_1000052a_of  (n0 : Nat) (c1 : List PV) (i2 : Int) (n3 : Nat) (c4 : List PV) {r : Ext × S} (h : Bglidepathlaw08_CloudCeilings_1000052a (Fn env) Rglidepathlaw08_CloudCeilings_1000052 exO Lglidepathlaw08_CloudCeilings_1000052 Lglidepathlaw08_CloudCeilings_1000037 Lglidepathlaw08_CloudCeilings_1000030 Lglidepathlaw08_CloudCeilings_1000021 n0 c1 i2 n3 c4 = some r) : Rglidepathlaw08_CloudCeilings_1000052 (Tglidepathlaw08_CloudCeilings_1000052a n0 c1 i2 n3 c4) = some r :=
  nd_of Eglidepathlaw08_CloudCeilings_ok (by kernel_rfl) (lo_cons (lpO_ok Uglidepathlaw08_CloudCeilings) (lo_cons (lpO_ok Uglidepathlaw08_CloudCeilings) (lo_cons (lpO_ok Uglidepathlaw08_CloudCeilings) (lo_cons (lpO_ok Uglidepathlaw08_CloudCeilings) lo_nil)))) (by kernel_rfl) ((Bglidepathlaw08_CloudCeilings_1000052a_eq _ Rglidepathlaw08_CloudCeilings_1000052 _ _ _ _ _ _ _ _ _ _).trans h)
def Bglidepathlaw08_CloudCeilings_1000037a (F : FnT) (N : Q → Option (Ext × S)) (E : Ext × Q → Option (Ext × S)) (L1000052 : Q → Option Yglidepathlaw08_CloudCeilings_1000052) (L1000037 : Q → Option Yglidepathlaw08_CloudCeilings_1000037) (L1000030 : Q → Option Yglidepathlaw08_CloudCeilings_1000030) (L1000021 : Q → Option Yglidepathlaw08_CloudCeilings_1000021) (n0 : Nat) (c1 : List PV) (i2 : Int) (n3 : Nat) (c4 : List PV) (i5 : Int) (i6 : Int) (i7 : Int) (i8 : Int) (i9 : Int) (i10 : Int) (i11 : Int) (i12 : Int) : Option (Ext × S) :=
  bif (i6 != i12) then
    E (Xglidepathlaw08_CloudCeilings_1000037a ())
  else bif (i5 != i11) then
    E (Xglidepathlaw08_CloudCeilings_1000037a ())
  else E (Xglidepathlaw08_CloudCeilings_1000037b (n0, c1, i2, n3, c4, i7, i8, i9, i10, i12))
theorem Bglidepathlaw08_CloudCeilings_1000037a_eq (F : FnT) (N : Q → Option (Ext × S)) (E : Ext × Q → Option (Ext × S)) (L1000052 : Q → Option Yglidepathlaw08_CloudCeilings_1000052) (L1000037 : Q → Option Yglidepathlaw08_CloudCeilings_1000037) (L1000030 : Q → Option Yglidepathlaw08_CloudCeilings_1000030) (L1000021 : Q → Option Yglidepathlaw08_CloudCeilings_1000021) (n0 : Nat) (c1 : List PV) (i2 : Int) (n3 : Nat) (c4 : List PV) (i5 : Int) (i6 : Int) (i7 : Int) (i8 : Int) (i9 : Int) (i10 : Int) (i11 : Int) (i12 : Int) : semN (callP F Eglidepathlaw08_CloudCeilings 20) s7 (loopT [⟨1000052, Yglidepathlaw08_CloudCeilings_1000052, L1000052, XLglidepathlaw08_CloudCeilings_1000052⟩, ⟨1000037, Yglidepathlaw08_CloudCeilings_1000037, L1000037, XLglidepathlaw08_CloudCeilings_1000037⟩, ⟨1000030, Yglidepathlaw08_CloudCeilings_1000030, L1000030, XLglidepathlaw08_CloudCeilings_1000030⟩, ⟨1000021, Yglidepathlaw08_CloudCeilings_1000021, L1000021, XLglidepathlaw08_CloudCeilings_1000021⟩]) 400 (blkIn a7.body 1000037) E (Tglidepathlaw08_CloudCeilings_1000037a n0 c1 i2 n3 c4 i5 i6 i7 i8 i9 i10 i11 i12) = Bglidepathlaw08_CloudCeilings_1000037a F N E L1000052 L1000037 L1000030 L1000021 n0 c1 i2 n3 c4 i5 i6 i7 i8 i9 i10 i11 i12 := by kernel_rfl
theorem Rglidepathlaw08_CloudCeilings_1000037a_of  (n0 : Nat) (c1 : List PV) (i2 : Int) (n3 : Nat) (c4 : List PV) (i5 : Int) (i6 : Int) (i7 : Int) (i8 : Int) (i9 : Int) (i10 : Int) (i11 : Int) (i12 : Int) {r : Ext × S} (h : Bglidepathlaw08_CloudCeilings_1000037a (Fn env) Rglidepathlaw08_CloudCeilings_1000037 exO Lglidepathlaw08_CloudCeilings_1000052 Lglidepathlaw08_CloudCeilings_1000037 Lglidepathlaw08_CloudCeilings_1000030 Lglidepathlaw08_CloudCeilings_1000021 n0 c1 i2 n3 c4 i5 i6 i7 i8 i9 i10 i11 i12 = some r) : Rglidepathlaw08_CloudCeilings_1000037 (Tglidepathlaw08_CloudCeilings_1000037a n0 c1 i2 n3 c4 i5 i6 i7 i8 i9 i10 i11 i12) = some r :=
  nd_of Eglidepathlaw08_CloudCeilings_ok (by kernel_rfl) (lo_cons (lpO_ok Uglidepathlaw08_CloudCeilings) (lo_cons (lpO_ok Uglidepathlaw08_CloudCeilings) (lo_cons (lpO_ok Uglidepathlaw08_CloudCeilings) (lo_cons (lpO_ok Uglidepathlaw08_CloudCeilings) lo_nil)))) (by kernel_rfl) ((Bglidepathlaw08_CloudCeilings_1000037a_eq _ Rglidepathlaw08_CloudCeilings_1000037 _ _ _ _ _ _ _ _ _ _ _ _ _ _ _ _ _ _).trans h)
def Bglidepathlaw08_CloudCeilings_1000030a (F : FnT) (N : Q → Option (Ext × S)) (E : Ext × Q → Option (Ext × S)) (L1000052 : Q → Option Yglidepathlaw08_CloudCeilings_1000052) (L1000037 : Q → Option Yglidepathlaw08_CloudCeilings_1000037) (L1000030 : Q → Option Yglidepathlaw08_CloudCeilings_1000030) (L1000021 : Q → Option Yglidepathlaw08_CloudCeilings_1000021) (n0 : Nat) (c1 : List PV) (i2 : Int) (n3 : Nat) (c4 : List PV) (i5 : Int) (i6 : Int) (i7 : Int) (i8 : Int) (i9 : Int) : Option (Ext × S) :=
  bindO (F 38 (RSh.one (CK.int IntKind.i64)) [(PV.list n3 c4)]) fun (y0 : (Int)) =>
  bif (y0 != (0 : Int)) then
    bif (i8 != y0) then
      E (Xglidepathlaw08_CloudCeilings_1000030a ())
    else bif (i7 != (0 : Int)) then
      E (Xglidepathlaw08_CloudCeilings_1000030a ())
    else bif (y0 == (0 : Int)) then
      bif (i8 != (0 : Int)) then
        E (Xglidepathlaw08_CloudCeilings_1000030a ())
      else bindO (F 39 (RSh.one (CK.int IntKind.i64)) [(PV.list n3 c4)]) fun (y1 : (Int)) =>
      bif (i7 != y1) then
        E (Xglidepathlaw08_CloudCeilings_1000030a ())
      else E (Xglidepathlaw08_CloudCeilings_1000030b (n0, c1, i2, i5, i6, i9))
    else E (Xglidepathlaw08_CloudCeilings_1000030b (n0, c1, i2, i5, i6, i9))
  else bif (y0 == (0 : Int)) then
    bif (i8 != (0 : Int)) then
      E (Xglidepathlaw08_CloudCeilings_1000030a ())
    else bindO (F 39 (RSh.one (CK.int IntKind.i64)) [(PV.list n3 c4)]) fun (y2 : (Int)) =>
    bif (i7 != y2) then
      E (Xglidepathlaw08_CloudCeilings_1000030a ())
    else E (Xglidepathlaw08_CloudCeilings_1000030b (n0, c1, i2, i5, i6, i9))
  else E (Xglidepathlaw08_CloudCeilings_1000030b (n0, c1, i2, i5, i6, i9))
theorem Bglidepathlaw08_CloudCeilings_1000030a_eq (F : FnT) (N : Q → Option (Ext × S)) (E : Ext × Q → Option (Ext × S)) (L1000052 : Q → Option Yglidepathlaw08_CloudCeilings_1000052) (L1000037 : Q → Option Yglidepathlaw08_CloudCeilings_1000037) (L1000030 : Q → Option Yglidepathlaw08_CloudCeilings_1000030) (L1000021 : Q → Option Yglidepathlaw08_CloudCeilings_1000021) (n0 : Nat) (c1 : List PV) (i2 : Int) (n3 : Nat) (c4 : List PV) (i5 : Int) (i6 : Int) (i7 : Int) (i8 : Int) (i9 : Int) : semN (callP F Eglidepathlaw08_CloudCeilings 20) s7 (loopT [⟨1000052, Yglidepathlaw08_CloudCeilings_1000052, L1000052, XLglidepathlaw08_CloudCeilings_1000052⟩, ⟨1000037, Yglidepathlaw08_CloudCeilings_1000037, L1000037, XLglidepathlaw08_CloudCeilings_1000037⟩, ⟨1000030, Yglidepathlaw08_CloudCeilings_1000030, L1000030, XLglidepathlaw08_CloudCeilings_1000030⟩, ⟨1000021, Yglidepathlaw08_CloudCeilings_1000021, L1000021, XLglidepathlaw08_CloudCeilings_1000021⟩]) 400 (blkIn a7.body 1000030) E (Tglidepathlaw08_CloudCeilings_1000030a n0 c1 i2 n3 c4 i5 i6 i7 i8 i9) = Bglidepathlaw08_CloudCeilings_1000030a F N E L1000052 L1000037 L1000030 L1000021 n0 c1 i2 n3 c4 i5 i6 i7 i8 i9 := by kernel_rfl
theorem Rglidepathlaw08_CloudCeilings_1000030a_of  (n0 : Nat) (c1 : List PV) (i2 : Int) (n3 : Nat) (c4 : List PV) (i5 : Int) (i6 : Int) (i7 : Int) (i8 : Int) (i9 : Int) {r : Ext × S} (h : Bglidepathlaw08_CloudCeilings_1000030a (Fn env) Rglidepathlaw08_CloudCeilings_1000030 exO Lglidepathlaw08_CloudCeilings_1000052 Lglidepathlaw08_CloudCeilings_1000037 Lglidepathlaw08_CloudCeilings_1000030 Lglidepathlaw08_CloudCeilings_1000021 n0 c1 i2 n3 c4 i5 i6 i7 i8 i9 = some r) : Rglidepathlaw08_CloudCeilings_1000030 (Tglidepathlaw08_CloudCeilings_1000030a n0 c1 i2 n3 c4 i5 i6 i7 i8 i9) = some r :=
  nd_of Eglidepathlaw08_CloudCeilings_ok (by kernel_rfl) (lo_cons (lpO_ok Uglidepathlaw08_CloudCeilings) (lo_cons (lpO_ok Uglidepathlaw08_CloudCeilings) (lo_cons (lpO_ok Uglidepathlaw08_CloudCeilings) (lo_cons (lpO_ok Uglidepathlaw08_CloudCeilings) lo_nil)))) (by kernel_rfl) ((Bglidepathlaw08_CloudCeilings_1000030a_eq _ Rglidepathlaw08_CloudCeilings_1000030 _ _ _ _ _ _ _ _ _ _ _ _ _ _ _).trans h)
def Bglidepathlaw08_CloudCeilings_1000021a (F : FnT) (N : Q → Option (Ext × S)) (E : Ext × Q → Option (Ext × S)) (L1000052 : Q → Option Yglidepathlaw08_CloudCeilings_1000052) (L1000037 : Q → Option Yglidepathlaw08_CloudCeilings_1000037) (L1000030 : Q → Option Yglidepathlaw08_CloudCeilings_1000030) (L1000021 : Q → Option Yglidepathlaw08_CloudCeilings_1000021) (n0 : Nat) (c1 : List PV) (i2 : Int) (i3 : Int) (i4 : Int) (i5 : Int) : Option (Ext × S) :=
  bif (i5 == (0 : Int)) then
    bindO (F 14 (RSh.one CK.bool) [(PV.int IntKind.i64 i2), (PV.int IntKind.i64 (1 : Int)), (PV.int IntKind.i64 (8 : Int))]) fun (y0 : (Bool)) =>
    bif y0 then
      E (Xglidepathlaw08_CloudCeilings_1000021a (n0, c1, i2, i3, i4, i5))
    else E (Xglidepathlaw08_CloudCeilings_1000021a (n0, c1, i2, i3, i4, (2 : Int)))
  else E (Xglidepathlaw08_CloudCeilings_1000021a (n0, c1, i2, i3, i4, i5))
theorem Bglidepathlaw08_CloudCeilings_1000021a_eq (F : FnT) (N : Q → Option (Ext × S)) (E : Ext × Q → Option (Ext × S)) (L1000052 : Q → Option Yglidepathlaw08_CloudCeilings_1000052) (L1000037 : Q → Option Yglidepathlaw08_CloudCeilings_1000037) (L1000030 : Q → Option Yglidepathlaw08_CloudCeilings_1000030) (L1000021 : Q → Option Yglidepathlaw08_CloudCeilings_1000021) (n0 : Nat) (c1 : List PV) (i2 : Int) (i3 : Int) (i4 : Int) (i5 : Int) : semN (callP F Eglidepathlaw08_CloudCeilings 20) s7 (loopT [⟨1000052, Yglidepathlaw08_CloudCeilings_1000052, L1000052, XLglidepathlaw08_CloudCeilings_1000052⟩, ⟨1000037, Yglidepathlaw08_CloudCeilings_1000037, L1000037, XLglidepathlaw08_CloudCeilings_1000037⟩, ⟨1000030, Yglidepathlaw08_CloudCeilings_1000030, L1000030, XLglidepathlaw08_CloudCeilings_1000030⟩, ⟨1000021, Yglidepathlaw08_CloudCeilings_1000021, L1000021, XLglidepathlaw08_CloudCeilings_1000021⟩]) 400 (blkIn a7.body 1000021) E (Tglidepathlaw08_CloudCeilings_1000021a n0 c1 i2 i3 i4 i5) = Bglidepathlaw08_CloudCeilings_1000021a F N E L1000052 L1000037 L1000030 L1000021 n0 c1 i2 i3 i4 i5 := by kernel_rfl
theorem Rglidepathlaw08_CloudCeilings_1000021a_of  (n0 : Nat) (c1 : List PV) (i2 : Int) (i3 : Int) (i4 : Int) (i5 : Int) {r : Ext × S} (h : Bglidepathlaw08_CloudCeilings_1000021a (Fn env) Rglidepathlaw08_CloudCeilings_1000021 exO Lglidepathlaw08_CloudCeilings_1000052 Lglidepathlaw08_CloudCeilings_1000037 Lglidepathlaw08_CloudCeilings_1000030 Lglidepathlaw08_CloudCeilings_1000021 n0 c1 i2 i3 i4 i5 = some r) : Rglidepathlaw08_CloudCeilings_1000021 (Tglidepathlaw08_CloudCeilings_1000021a n0 c1 i2 i3 i4 i5) = some r :=
  nd_of Eglidepathlaw08_CloudCeilings_ok (by kernel_rfl) (lo_cons (lpO_ok Uglidepathlaw08_CloudCeilings) (lo_cons (lpO_ok Uglidepathlaw08_CloudCeilings) (lo_cons (lpO_ok Uglidepathlaw08_CloudCeilings) (lo_cons (lpO_ok Uglidepathlaw08_CloudCeilings) lo_nil)))) (by kernel_rfl) ((Bglidepathlaw08_CloudCeilings_1000021a_eq _ Rglidepathlaw08_CloudCeilings_1000021 _ _ _ _ _ _ _ _ _ _ _).trans h)
def tglidepathlaw08_CloudCeilings (F : FnT) (L1000052 : Q → Option Yglidepathlaw08_CloudCeilings_1000052) (L1000037 : Q → Option Yglidepathlaw08_CloudCeilings_1000037) (L1000030 : Q → Option Yglidepathlaw08_CloudCeilings_1000030) (L1000021 : Q → Option Yglidepathlaw08_CloudCeilings_1000021) (p0n : Nat) (p0c : List PV) (p1 : Int) (p2n : Nat) (p2c : List PV) : Option (Bool) :=
  bindO (F 10 (RSh.one CK.bool) []) fun (y0 : (Bool)) =>
  bif y0 then
    bindO (L1000052 (Tglidepathlaw08_CloudCeilings_1000052a p0n p0c p1 p2n p2c)) fun z =>
    Sum.elim (fun y1 =>
      some true) (fun y2 =>
      bindO (F 34 (RSh.one CK.list) [(PV.list y2.1 y2.2.1)]) fun (y3 : ((Nat) × (List PV))) =>
      bindO (F 33 (RSh.tup [(Prod.mk false [(CK.int IntKind.i64)]), (Prod.mk false [(CK.int IntKind.i64)])]) [(PV.list y3.1 y3.2)]) fun (y4 : ((Int) × (Int))) =>
      bindO (F 34 (RSh.one CK.list) [(PV.list y2.1 y2.2.1)]) fun (y5 : ((Nat) × (List PV))) =>
      bindO (F 35 (RSh.tup [(Prod.mk false [(CK.int IntKind.i64)]), (Prod.mk false [(CK.int IntKind.i64)])]) [(PV.list y5.1 y5.2), (PV.int IntKind.i64 y2.2.2.1)]) fun (y6 : ((Int) × (Int))) =>
      bindO (F 16 (RSh.one CK.list) [(PV.list y2.2.2.2.1 y2.2.2.2.2)]) fun (y7 : ((Nat) × (List PV))) =>
      bindO (F 36 (RSh.tup [(Prod.mk false [(CK.int IntKind.i64)]), (Prod.mk false [(CK.int IntKind.i64)])]) [(PV.list y7.1 y7.2)]) fun (y8 : ((Int) × (Int))) =>
      bindO (F 37 (RSh.tup [(Prod.mk false [(CK.int IntKind.i64)]), (Prod.mk false [(CK.int IntKind.i64)])]) [(PV.list y2.1 y2.2.1)]) fun (y9 : ((Int) × (Int))) =>
      bindO (L1000037 (Tglidepathlaw08_CloudCeilings_1000037a y2.1 y2.2.1 y2.2.2.1 y2.2.2.2.1 y2.2.2.2.2 y4.1 y4.2 y6.1 y6.2 y8.1 y8.2 y9.1 y9.2)) fun z =>
      Sum.elim (fun y10 =>
        some false) (fun y11 =>
        bindO (L1000030 (Tglidepathlaw08_CloudCeilings_1000030a y11.1 y11.2.1 y11.2.2.1 y11.2.2.2.1 y11.2.2.2.2.1 y11.2.2.2.2.2.1 y11.2.2.2.2.2.2.1 y11.2.2.2.2.2.2.2.1 y11.2.2.2.2.2.2.2.2.1 y11.2.2.2.2.2.2.2.2.2)) fun z =>
        Sum.elim (fun y12 =>
          some false) (fun y13 =>
          bindO (L1000021 (Tglidepathlaw08_CloudCeilings_1000021a y13.1 y13.2.1 y13.2.2.1 y13.2.2.2.1 y13.2.2.2.2.1 y13.2.2.2.2.2)) fun y14 =>
          bif (y14.2.2.2.2.2 != (0 : Int)) then
            bif (y14.2.2.2.2.1 == y14.2.2.2.2.2) then
              bif (y14.2.2.2.1 == (0 : Int)) then
                some true
              else some false
            else some false
          else bindO (F 40 (RSh.tup [(Prod.mk false [(CK.int IntKind.i64)]), (Prod.mk false [CK.bool])]) [(PV.list y14.1 y14.2.1), (PV.int IntKind.i64 y14.2.2.1)]) fun (y15 : ((Int) × (Bool))) =>
          bif y15.2 then
            bif (y14.2.2.2.2.1 == (0 : Int)) then
              bif (y14.2.2.2.1 == y15.1) then
                some true
              else some false
            else some false
          else bif (y14.2.2.2.2.1 == (12 : Int)) then
            bif (y14.2.2.2.1 == (0 : Int)) then
              some true
            else some false
          else some false) z) z) z
  else some false
theorem tglidepathlaw08_CloudCeilings_eq (F : FnT) (L1000052 : Q → Option Yglidepathlaw08_CloudCeilings_1000052) (L1000037 : Q → Option Yglidepathlaw08_CloudCeilings_1000037) (L1000030 : Q → Option Yglidepathlaw08_CloudCeilings_1000030) (L1000021 : Q → Option Yglidepathlaw08_CloudCeilings_1000021) (p0n : Nat) (p0c : List PV) (p1 : Int) (p2n : Nat) (p2c : List PV) : semF (callP F Eglidepathlaw08_CloudCeilings 20) s7 (loopT [⟨1000052, Yglidepathlaw08_CloudCeilings_1000052, L1000052, XLglidepathlaw08_CloudCeilings_1000052⟩, ⟨1000037, Yglidepathlaw08_CloudCeilings_1000037, L1000037, XLglidepathlaw08_CloudCeilings_1000037⟩, ⟨1000030, Yglidepathlaw08_CloudCeilings_1000030, L1000030, XLglidepathlaw08_CloudCeilings_1000030⟩, ⟨1000021, Yglidepathlaw08_CloudCeilings_1000021, L1000021, XLglidepathlaw08_CloudCeilings_1000021⟩]) 400 a7 [PV.list p0n p0c, PV.int IntKind.i64 p1, PV.list p2n p2c] (fun rv => decR (RSh.one CK.bool) rv.pv) = tglidepathlaw08_CloudCeilings F L1000052 L1000037 L1000030 L1000021 p0n p0c p1 p2n p2c := by kernel_rfl
noncomputable abbrev Fglidepathlaw08_CloudCeilings (args : List PV) := Fn env 7 (RSh.one CK.bool) args
theorem Fglidepathlaw08_CloudCeilings_of  (p0n : Nat) (p0c : List PV) (p1 : Int) (p2n : Nat) (p2c : List PV) {res : (Bool)} (h : tglidepathlaw08_CloudCeilings (Fn env) Lglidepathlaw08_CloudCeilings_1000052 Lglidepathlaw08_CloudCeilings_1000037 Lglidepathlaw08_CloudCeilings_1000030 Lglidepathlaw08_CloudCeilings_1000021 p0n p0c p1 p2n p2c = some res) : Fglidepathlaw08_CloudCeilings [PV.list p0n p0c, PV.int IntKind.i64 p1, PV.list p2n p2c] = some res :=
  fn_of Eglidepathlaw08_CloudCeilings_ok rfl rfl (lo_cons (lpO_ok Uglidepathlaw08_CloudCeilings) (lo_cons (lpO_ok Uglidepathlaw08_CloudCeilings) (lo_cons (lpO_ok Uglidepathlaw08_CloudCeilings) (lo_cons (lpO_ok Uglidepathlaw08_CloudCeilings) lo_nil)))) ((tglidepathlaw08_CloudCeilings_eq _ _ _ _ _ _ _ _ _ _).trans h)

end Gv
