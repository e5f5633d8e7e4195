/- What the functions do, round by round: L2. -/
import Derived.Test.YtpfdbblfpmebcaaL1
namespace Gv
open Go
set_option maxRecDepth 100000

/-! ### glidepathlaw02_LineSpectra -/

def Eglidepathlaw02_LineSpectra : List Entry := [.out 18 (RSh.one CK.bool), .out 19 (RSh.one CK.bool), .out 15 (RSh.one CK.list), .out 20 (RSh.tup [(Prod.mk false [(CK.int IntKind.i64)]), (Prod.mk false [(CK.int IntKind.i64)])]), .out 21 (RSh.tup [(Prod.mk false [(CK.int IntKind.i64)]), (Prod.mk false [(CK.int IntKind.i64)])]), .out 22 (RSh.tup [(Prod.mk false [CK.list]), (Prod.mk false [(CK.int IntKind.i64)])]), .out 23 (RSh.tup [(Prod.mk false [CK.list]), (Prod.mk false [(CK.int IntKind.i64)])]), .out 24 (RSh.tup [(Prod.mk false [(CK.int IntKind.i64)]), (Prod.mk false [(CK.int IntKind.i64)])]), .out 25 (RSh.one (CK.int IntKind.i64)), .out 27 (RSh.one CK.list), .out 26 (RSh.one CK.bool), .out 28 (RSh.one (CK.int IntKind.i64)), .out 29 (RSh.one CK.list)]
theorem Eglidepathlaw02_LineSpectra_ok : ∀ e ∈ Eglidepathlaw02_LineSpectra, EntOK env e := (ent_out (ent_out (ent_out (ent_out (ent_out (ent_out (ent_out (ent_out (ent_out (ent_out (ent_out (ent_out (ent_out ent_nil)))))))))))))
def Tglidepathlaw02_LineSpectra_1000041a (n0 : Nat) (c1 : List PV) (n2 : Nat) (c3 : List PV) : Q := ⟨(tm 132 [(0, (AV.p (PV.list n0 c1))), (1, (AV.p (PV.list n2 c3)))]), (mm 132 [])⟩
def Xglidepathlaw02_LineSpectra_1000041a (y : Nat × List PV × Nat × List PV) : Ext × Q := (Ext.normal, ⟨(tm 132 [(0, (AV.p (PV.list y.1 y.2.1))), (1, (AV.p (PV.list y.2.2.1 y.2.2.2)))]), (mm 132 [])⟩)
def Iglidepathlaw02_LineSpectra_1000041a (q : Ext × S) : Nat × List PV × Nat × List PV := ((pP_list0 (pA_p (avT q.2 0))), (pP_list1 (pA_p (avT q.2 0))), (pP_list0 (pA_p (avT q.2 1))), (pP_list1 (pA_p (avT q.2 1))))
def Xglidepathlaw02_LineSpectra_1000041b (y : Unit) : Ext × Q := (Ext.ret, ⟨(tm 132 [(4, (AV.p (PV.bool true)))]), (mm 132 [])⟩)
def Iglidepathlaw02_LineSpectra_1000041b (q : Ext × S) : Unit := ()
abbrev Yglidepathlaw02_LineSpectra_1000041 : Type := (Nat × List PV × Nat × List PV) ⊕ ((Unit))
def XLglidepathlaw02_LineSpectra_1000041 : XL Yglidepathlaw02_LineSpectra_1000041 := .more Xglidepathlaw02_LineSpectra_1000041a (.one Xglidepathlaw02_LineSpectra_1000041b)
def Iglidepathlaw02_LineSpectra_1000041 (q : Ext × S) : Yglidepathlaw02_LineSpectra_1000041 := bif (cE q.1 == 0) then (Sum.inl (Iglidepathlaw02_LineSpectra_1000041a q)) else (Sum.inr (Iglidepathlaw02_LineSpectra_1000041b q))
theorem XIglidepathlaw02_LineSpectra_1000041a (y : Nat × List PV × Nat × List PV) : Iglidepathlaw02_LineSpectra_1000041 (xe (Xglidepathlaw02_LineSpectra_1000041a y)) = (Sum.inl y) := rfl
theorem XIglidepathlaw02_LineSpectra_1000041b (y : Unit) : Iglidepathlaw02_LineSpectra_1000041 (xe (Xglidepathlaw02_LineSpectra_1000041b y)) = (Sum.inr y) := rfl
theorem XIglidepathlaw02_LineSpectra_1000041 (y : Yglidepathlaw02_LineSpectra_1000041) : Iglidepathlaw02_LineSpectra_1000041 (xe (XLglidepathlaw02_LineSpectra_1000041.fn y)) = y := (match y with | .inl y => XIglidepathlaw02_LineSpectra_1000041a y | .inr y => XIglidepathlaw02_LineSpectra_1000041b y)
noncomputable abbrev Lglidepathlaw02_LineSpectra_1000041 : Q → Option Yglidepathlaw02_LineSpectra_1000041 := lpO env a4.body 1000041 XLglidepathlaw02_LineSpectra_1000041
noncomputable abbrev Rglidepathlaw02_LineSpectra_1000041 : Q → Option (Ext × S) := lpR env a4.body 1000041
theorem Lglidepathlaw02_LineSpectra_1000041a_of {s : Q} {y : Nat × List PV × Nat × List PV} (h : Rglidepathlaw02_LineSpectra_1000041 s = exO (Xglidepathlaw02_LineSpectra_1000041a y)) : Lglidepathlaw02_LineSpectra_1000041 s = some (Sum.inl y) := lpO_of Iglidepathlaw02_LineSpectra_1000041 XIglidepathlaw02_LineSpectra_1000041 (y := (Sum.inl y)) h
theorem Lglidepathlaw02_LineSpectra_1000041b_of {s : Q} {y : Unit} (h : Rglidepathlaw02_LineSpectra_1000041 s = exO (Xglidepathlaw02_LineSpectra_1000041b y)) : Lglidepathlaw02_LineSpectra_1000041 s = some (Sum.inr y) := lpO_of Iglidepathlaw02_LineSpectra_1000041 XIglidepathlaw02_LineSpectra_1000041 (y := (Sum.inr y)) h
def Tglidepathlaw02_LineSpectra_1000024a (n0 : Nat) (c1 : List PV) (n2 : Nat) (c3 : List PV) (i4 : Int) (i5 : Int) (i6 : Int) (i7 : Int) (n8 : Nat) (c9 : List PV) (i10 : Int) (n11 : Nat) (c12 : List PV) (i13 : Int) (i14 : Int) (i15 : Int) : Q := ⟨(tm 132 [(0, (AV.p (PV.list n0 c1))), (1, (AV.p (PV.list n2 c3))), (5, (AV.p (PV.int IntKind.i64 i4))), (6, (AV.p (PV.int IntKind.i64 i5))), (7, (AV.p (PV.int IntKind.i64 i6))), (8, (AV.p (PV.int IntKind.i64 i7))), (9, (AV.p (PV.list n8 c9))), (10, (AV.p (PV.int IntKind.i64 i10))), (11, (AV.p (PV.list n11 c12))), (12, (AV.p (PV.int IntKind.i64 i13))), (13, (AV.p (PV.int IntKind.i64 i14))), (14, (AV.p (PV.int IntKind.i64 i15)))]), (mm 132 [])⟩
def Xglidepathlaw02_LineSpectra_1000024a (y : Unit) : Ext × Q := (Ext.ret, ⟨(tm 132 [(4, (AV.p (PV.bool false)))]), (mm 132 [])⟩)
def Iglidepathlaw02_LineSpectra_1000024a (q : Ext × S) : Unit := ()
def Xglidepathlaw02_LineSpectra_1000024b (y : Nat × List PV × Nat × List PV × Int × Int × Nat × List PV × Int × Nat × List PV × Int × Int) : Ext × Q := (Ext.normal, ⟨(tm 132 [(0, (AV.p (PV.list y.1 y.2.1))), (1, (AV.p (PV.list y.2.2.1 y.2.2.2.1))), (7, (AV.p (PV.int IntKind.i64 y.2.2.2.2.1))), (8, (AV.p (PV.int IntKind.i64 y.2.2.2.2.2.1))), (9, (AV.p (PV.list y.2.2.2.2.2.2.1 y.2.2.2.2.2.2.2.1))), (10, (AV.p (PV.int IntKind.i64 y.2.2.2.2.2.2.2.2.1))), (11, (AV.p (PV.list y.2.2.2.2.2.2.2.2.2.1 y.2.2.2.2.2.2.2.2.2.2.1))), (12, (AV.p (PV.int IntKind.i64 y.2.2.2.2.2.2.2.2.2.2.2.1))), (14, (AV.p (PV.int IntKind.i64 y.2.2.2.2.2.2.2.2.2.2.2.2)))]), (mm 132 [])⟩)
def Iglidepathlaw02_LineSpectra_1000024b (q : Ext × S) : Nat × List PV × Nat × List PV × Int × Int × Nat × List PV × Int × Nat × List PV × Int × Int := ((pP_list0 (pA_p (avT q.2 0))), (pP_list1 (pA_p (avT q.2 0))), (pP_list0 (pA_p (avT q.2 1))), (pP_list1 (pA_p (avT q.2 1))), (pP_int1 (pA_p (avT q.2 7))), (pP_int1 (pA_p (avT q.2 8))), (pP_list0 (pA_p (avT q.2 9))), (pP_list1 (pA_p (avT q.2 9))), (pP_int1 (pA_p (avT q.2 10))), (pP_list0 (pA_p (avT q.2 11))), (pP_list1 (pA_p (avT q.2 11))), (pP_int1 (pA_p (avT q.2 12))), (pP_int1 (pA_p (avT q.2 14))))
abbrev Yglidepathlaw02_LineSpectra_1000024 : Type := (Unit) ⊕ ((Nat × List PV × Nat × List PV × Int × Int × Nat × List PV × Int × Nat × List PV × Int × Int))
def XLglidepathlaw02_LineSpectra_1000024 : XL Yglidepathlaw02_LineSpectra_1000024 := .more Xglidepathlaw02_LineSpectra_1000024a (.one Xglidepathlaw02_LineSpectra_1000024b)
def Iglidepathlaw02_LineSpectra_1000024 (q : Ext × S) : Yglidepathlaw02_LineSpectra_1000024 := bif (cE q.1 == 2) then (Sum.inl (Iglidepathlaw02_LineSpectra_1000024a q)) else (Sum.inr (Iglidepathlaw02_LineSpectra_1000024b q))
theorem XIglidepathlaw02_LineSpectra_1000024a (y : Unit) : Iglidepathlaw02_LineSpectra_1000024 (xe (Xglidepathlaw02_LineSpectra_1000024a y)) = (Sum.inl y) := rfl
theorem XIglidepathlaw02_LineSpectra_1000024b (y : Nat × List PV × Nat × List PV × Int × Int × Nat × List PV × Int × Nat × List PV × Int × Int) : Iglidepathlaw02_LineSpectra_1000024 (xe (Xglidepathlaw02_LineSpectra_1000024b y)) = (Sum.inr y) := rfl
theorem XIglidepathlaw02_LineSpectra_1000024 (y : Yglidepathlaw02_LineSpectra_1000024) : Iglidepathlaw02_LineSpectra_1000024 (xe (XLglidepathlaw02_LineSpectra_1000024.fn y)) = y := (match y with | .inl y => XIglidepathlaw02_LineSpectra_1000024a y | .inr y => XIglidepathlaw02_LineSpectra_1000024b y)
noncomputable abbrev Lglidepathlaw02_LineSpectra_1000024 : Q → Option Yglidepathlaw02_LineSpectra_1000024 := lpO env a4.body 1000024 XLglidepathlaw02_LineSpectra_1000024
noncomputable abbrev Rglidepathlaw02_LineSpectra_1000024 : Q → Option (Ext × S) := lpR env a4.body 1000024
theorem Lglidepathlaw02_LineSpectra_1000024a_of {s : Q} {y : Unit} (h : Rglidepathlaw02_LineSpectra_1000024 s = exO (Xglidepathlaw02_LineSpectra_1000024a y)) : Lglidepathlaw02_LineSpectra_1000024 s = some (Sum.inl y) := lpO_of Iglidepathlaw02_LineSpectra_1000024 XIglidepathlaw02_LineSpectra_1000024 (y := (Sum.inl y)) h
theorem Lglidepathlaw02_LineSpectra_1000024b_of {s : Q} {y : Nat × List PV × Nat × List PV × Int × Int × Nat × List PV × Int × Nat × List PV × Int × Int} (h : Rglidepathlaw02_LineSpectra_1000024 s = exO (Xglidepathlaw02_LineSpectra_1000024b y)) : Lglidepathlaw02_LineSpectra_1000024 s = some (Sum.inr y) := lpO_of Iglidepathlaw02_LineSpectra_1000024 XIglidepathlaw02_LineSpectra_1000024 (y := (Sum.inr y)) h
def Tglidepathlaw02_LineSpectra_1000017a (n0 : Nat) (c1 : List PV) (n2 : Nat) (c3 : List PV) (i4 : Int) (i5 : Int) (n6 : Nat) (c7 : List PV) (i8 : Int) (n9 : Nat) (c10 : List PV) (i11 : Int) (i12 : Int) : Q := ⟨(tm 132 [(0, (AV.p (PV.list n0 c1))), (1, (AV.p (PV.list n2 c3))), (7, (AV.p (PV.int IntKind.i64 i4))), (8, (AV.p (PV.int IntKind.i64 i5))), (9, (AV.p (PV.list n6 c7))), (10, (AV.p (PV.int IntKind.i64 i8))), (11, (AV.p (PV.list n9 c10))), (12, (AV.p (PV.int IntKind.i64 i11))), (14, (AV.p (PV.int IntKind.i64 i12)))]), (mm 132 [])⟩
def Xglidepathlaw02_LineSpectra_1000017a (y : Unit) : Ext × Q := (Ext.ret, ⟨(tm 132 [(4, (AV.p (PV.bool false)))]), (mm 132 [])⟩)
def Iglidepathlaw02_LineSpectra_1000017a (q : Ext × S) : Unit := ()
def Xglidepathlaw02_LineSpectra_1000017b (y : Nat × List PV × Nat × List PV × Nat × List PV × Int) : Ext × Q := (Ext.normal, ⟨(tm 132 [(0, (AV.p (PV.list y.1 y.2.1))), (1, (AV.p (PV.list y.2.2.1 y.2.2.2.1))), (11, (AV.p (PV.list y.2.2.2.2.1 y.2.2.2.2.2.1))), (12, (AV.p (PV.int IntKind.i64 y.2.2.2.2.2.2)))]), (mm 132 [])⟩)
def Iglidepathlaw02_LineSpectra_1000017b (q : Ext × S) : Nat × List PV × Nat × List PV × Nat × List PV × Int := ((pP_list0 (pA_p (avT q.2 0))), (pP_list1 (pA_p (avT q.2 0))), (pP_list0 (pA_p (avT q.2 1))), (pP_list1 (pA_p (avT q.2 1))), (pP_list0 (pA_p (avT q.2 11))), (pP_list1 (pA_p (avT q.2 11))), (pP_int1 (pA_p (avT q.2 12))))
abbrev Yglidepathlaw02_LineSpectra_1000017 : Type := (Unit) ⊕ ((Nat × List PV × Nat × List PV × Nat × List PV × Int))
def XLglidepathlaw02_LineSpectra_1000017 : XL Yglidepathlaw02_LineSpectra_1000017 := .more Xglidepathlaw02_LineSpectra_1000017a (.one Xglidepathlaw02_LineSpectra_1000017b)
def Iglidepathlaw02_LineSpectra_1000017 (q : Ext × S) : Yglidepathlaw02_LineSpectra_1000017 := bif (cE q.1 == 2) then (Sum.inl (Iglidepathlaw02_LineSpectra_1000017a q)) else (Sum.inr (Iglidepathlaw02_LineSpectra_1000017b q))
theorem XIglidepathlaw02_LineSpectra_1000017a (y : Unit) : Iglidepathlaw02_LineSpectra_1000017 (xe (Xglidepathlaw02_LineSpectra_1000017a y)) = (Sum.inl y) := rfl
theorem XIglidepathlaw02_LineSpectra_1000017b (y : Nat × List PV × Nat × List PV × Nat × List PV × Int) : Iglidepathlaw02_LineSpectra_1000017 (xe (Xglidepathlaw02_LineSpectra_1000017b y)) = (Sum.inr y) := rfl
theorem XIglidepathlaw02_LineSpectra_1000017 (y : Yglidepathlaw02_LineSpectra_1000017) : Iglidepathlaw02_LineSpectra_1000017 (xe (XLglidepathlaw02_LineSpectra_1000017.fn y)) = y := (match y with | .inl y => XIglidepathlaw02_LineSpectra_1000017a y | .inr y => XIglidepathlaw02_LineSpectra_1000017b y)
noncomputable abbrev Lglidepathlaw02_LineSpectra_1000017 : Q → Option Yglidepathlaw02_LineSpectra_1000017 := lpO env a4.body 1000017 XLglidepathlaw02_LineSpectra_1000017
noncomputable abbrev Rglidepathlaw02_LineSpectra_1000017 : Q → Option (Ext × S) := lpR env a4.body 1000017
theorem Lglidepathlaw02_LineSpectra_1000017a_of {s : Q} {y : Unit} (h : Rglidepathlaw02_LineSpectra_1000017 s = exO (Xglidepathlaw02_LineSpectra_1000017a y)) : Lglidepathlaw02_LineSpectra_1000017 s = some (Sum.inl y) := lpO_of Iglidepathlaw02_LineSpectra_1000017 XIglidepathlaw02_LineSpectra_1000017 (y := (Sum.inl y)) h
theorem Lglidepathlaw02_LineSpectra_1000017b_of {s : Q} {y : Nat × List PV × Nat × List PV × Nat × List PV × Int} (h : Rglidepathlaw02_LineSpectra_1000017 s = exO (Xglidepathlaw02_LineSpectra_1000017b y)) : Lglidepathlaw02_LineSpectra_1000017 s = some (Sum.inr y) := lpO_of Iglidepathlaw02_LineSpectra_1000017 XIglidepathlaw02_LineSpectra_1000017 (y := (Sum.inr y)) h
theorem Uglidepathlaw02_LineSpectra : uniq ((blocksOf a4.body).map (·.1)) = true := by kernel_rfl
def Bglidepathlaw02_LineSpectra_1000041a (F : FnT) (N : Q → Option (Ext × S)) (E : Ext × Q → Option (Ext × S)) (L1000041 : Q → Option Yglidepathlaw02_LineSpectra_1000041) (L1000024 : Q → Option Yglidepathlaw02_LineSpectra_1000024) (L1000017 : Q → Option Yglidepathlaw02_LineSpectra_1000017) (n0 : Nat) (c1 : List PV) (n2 : Nat) (c3 : List PV) : Option (Ext × S) :=
  bindO (F 19 (RSh.one CK.bool) [(PV.list n0 c1)]) fun (y0 : (Bool)) =>
  bif y0 then
    bindO (F 19 (RSh.one CK.bool) [(PV.list n2 c3)]) fun (y1 : (Bool)) =>
    bif y1 then
      E (Xglidepathlaw02_LineSpectra_1000041a (n0, c1, n2, c3))
    else E (Xglidepathlaw02_LineSpectra_1000041b ())
  else E (Xglidepathlaw02_LineSpectra_1000041b ())
theorem Bglidepathlaw02_LineSpectra_1000041a_eq (F : FnT) (N : Q → Option (Ext × S)) (E : Ext × Q → Option (Ext × S)) (L1000041 : Q → Option Yglidepathlaw02_LineSpectra_1000041) (L1000024 : Q → Option Yglidepathlaw02_LineSpectra_1000024) (L1000017 : Q → Option Yglidepathlaw02_LineSpectra_1000017) (n0 : Nat) (c1 : List PV) (n2 : Nat) (c3 : List PV) : semN (callP F Eglidepathlaw02_LineSpectra 20) s4 (loopT [⟨1000041, Yglidepathlaw02_LineSpectra_1000041, L1000041, XLglidepathlaw02_LineSpectra_1000041⟩, ⟨1000024, Yglidepathlaw02_LineSpectra_1000024, L1000024, XLglidepathlaw02_LineSpectra_1000024⟩, ⟨1000017, Yglidepathlaw02_LineSpectra_1000017, L1000017, XLglidepathlaw02_LineSpectra_1000017⟩]) 400 (blkIn a4.body 1000041) E (Tglidepathlaw02_LineSpectra_1000041a n0 c1 n2 c3) = Bglidepathlaw02_LineSpectra_1000041a F N E L1000041 L1000024 L1000017 n0 c1 n2 c3 := by kernel_rfl
theorem Rglidepathlaw02_LineSpectra_1000041a_of  (n0 : Nat) (c1 : List PV) (n2 : Nat) (c3 : List PV) {r : Ext × S} (h : Bglidepathlaw02_LineSpectra_1000041a (Fn env) Rglidepathlaw02_LineSpectra_1000041 exO Lglidepathlaw02_LineSpectra_1000041 Lglidepathlaw02_LineSpectra_1000024 Lglidepathlaw02_LineSpectra_1000017 n0 c1 n2 c3 = some r) : Rglidepathlaw02_LineSpectra_1000041 (Tglidepathlaw02_LineSpectra_1000041a n0 c1 n2 c3) = some r :=
  nd_of Eglidepathlaw02_LineSpectra_ok (by kernel_rfl) (lo_cons (lpO_ok Uglidepathlaw02_LineSpectra) (lo_cons (lpO_ok Uglidepathlaw02_LineSpectra) (lo_cons (lpO_ok Uglidepathlaw02_LineSpectra) lo_nil))) (by kernel_rfl) ((Bglidepathlaw02_LineSpectra_1000041a_eq _ Rglidepathlaw02_LineSpectra_1000041 _ _ _ _ _ _ _ _).trans h)
def Bglidepathlaw02_LineSpectra_1000024a (F : FnT) (N : Q → Option (Ext × S)) (E : Ext × Q → Option (Ext × S)) (L1000041 : Q → Option Yglidepathlaw02_LineSpectra_1000041) (L1000024 : Q → Option Yglidepathlaw02_LineSpectra_1000024) (L1000017 : Q → Option Yglidepathlaw02_LineSpectra_1000017) (n0 : Nat) (c1 : List PV) (n2 : Nat) (c3 : List PV) (i4 : Int) (i5 : Int) (i6 : Int) (i7 : Int) (n8 : Nat) (c9 : List PV) (i10 : Int) (n11 : Nat) (c12 : List PV) (i13 : Int) (i14 : Int) (i15 : Int) : Option (Ext × S) :=
  bif (i5 != i15) then
    E (Xglidepathlaw02_LineSpectra_1000024a ())
  else bif (i4 != i14) then
    E (Xglidepathlaw02_LineSpectra_1000024a ())
  else E (Xglidepathlaw02_LineSpectra_1000024b (n0, c1, n2, c3, i6, i7, n8, c9, i10, n11, c12, i13, i15))
theorem Bglidepathlaw02_LineSpectra_1000024a_eq (F : FnT) (N : Q → Option (Ext × S)) (E : Ext × Q → Option (Ext × S)) (L1000041 : Q → Option Yglidepathlaw02_LineSpectra_1000041) (L1000024 : Q → Option Yglidepathlaw02_LineSpectra_1000024) (L1000017 : Q → Option Yglidepathlaw02_LineSpectra_1000017) (n0 : Nat) (c1 : List PV) (n2 : Nat) (c3 : List PV) (i4 : Int) (i5 : Int) (i6 : Int) (i7 : Int) (n8 : Nat) (c9 : List PV) (i10 : Int) (n11 : Nat) (c12 : List PV) (i13 : Int) (i14 : Int) (i15 : Int) : semN (callP F Eglidepathlaw02_LineSpectra 20) s4 (loopT [⟨1000041, Yglidepathlaw02_LineSpectra_1000041, L1000041, XLglidepathlaw02_LineSpectra_1000041⟩, ⟨1000024, Yglidepathlaw02_LineSpectra_1000024, L1000024, XLglidepathlaw02_LineSpectra_1000024⟩, ⟨1000017, Yglidepathlaw02_LineSpectra_1000017, L1000017, XLglidepathlaw02_LineSpectra_1000017⟩]) 400 (blkIn a4.body 1000024) E (Tglidepathlaw02_LineSpectra_1000024a n0 c1 n2 c3 i4 i5 i6 i7 n8 c9 i10 n11 c12 i13 i14 i15) = Bglidepathlaw02_LineSpectra_1000024a F N E L1000041 L1000024 L1000017 n0 c1 n2 c3 i4 i5 i6 i7 n8 c9 i10 n11 c12 i13 i14 i15 := by kernel_rfl
theorem Rglidepathlaw02_LineSpectra_1000024a_of  (n0 : Nat) (c1 : List PV) (n2 : Nat) (c3 : List PV) (i4 : Int) (i5 : Int) (i6 : Int) (i7 : Int) (n8 : Nat) (c9 : List PV) (i10 : Int) (n11 : Nat) (c12 : List PV) (i13 : Int) (i14 : Int) (i15 : Int) {r : Ext × S} (h : Bglidepathlaw02_LineSpectra_1000024a (Fn env) Rglidepathlaw02_LineSpectra_1000024 exO Lglidepathlaw02_LineSpectra_1000041 Lglidepathlaw02_LineSpectra_1000024 Lglidepathlaw02_LineSpectra_1000017 n0 c1 n2 c3 i4 i5 i6 i7 n8 c9 i10 n11 c12 i13 i14 i15 = some r) : Rglidepathlaw02_LineSpectra_1000024 (Tglidepathlaw02_LineSpectra_1000024a n0 c1 n2 c3 i4 i5 i6 i7 n8 c9 i10 n11 c12 i13 i14 i15) = some r :=
  nd_of Eglidepathlaw02_LineSpectra_ok (by kernel_rfl) (lo_cons (lpO_ok Uglidepathlaw02_LineSpectra) (lo_cons (lpO_ok Uglidepathlaw02_LineSpectra) (lo_cons (lpO_ok Uglidepathlaw02_LineSpectra) lo_nil))) (by kernel_rfl) ((Bglidepathlaw02_LineSpectra_1000024a_eq _ Rglidepathlaw02_LineSpectra_1000024 _ _ _ _ _ _ _ _ _ _ _ _ _ _ _ _ _ _ _ _).trans h)
def Bglidepathlaw02_LineSpectra_1000017a (F : FnT) (N : Q → Option (Ext × S)) (E : Ext × Q → Option (Ext × S)) (L1000041 : Q → Option Yglidepathlaw02_LineSpectra_1000041) (L1000024 : Q → Option Yglidepathlaw02_LineSpectra_1000024) (L1000017 : Q → Option Yglidepathlaw02_LineSpectra_1000017) (n0 : Nat) (c1 : List PV) (n2 : Nat) (c3 : List PV) (i4 : Int) (i5 : Int) (n6 : Nat) (c7 : List PV) (i8 : Int) (n9 : Nat) (c10 : List PV) (i11 : Int) (i12 : Int) : Option (Ext × S) :=
  bif (i12 != (0 : Int)) then
    bif (i5 != i12) then
      E (Xglidepathlaw02_LineSpectra_1000017a ())
    else bif (i8 != i12) then
      E (Xglidepathlaw02_LineSpectra_1000017a ())
    else bif (i4 != (0 : Int)) then
      E (Xglidepathlaw02_LineSpectra_1000017a ())
    else bif ((n6 : Int) != (0 : Int)) then
      E (Xglidepathlaw02_LineSpectra_1000017a ())
    else bif (i12 == (0 : Int)) then
      bif (i5 != (0 : Int)) then
        E (Xglidepathlaw02_LineSpectra_1000017a ())
      else bindO (F 25 (RSh.one (CK.int IntKind.i64)) [(PV.list n0 c1)]) fun (y0 : (Int)) =>
      bif (i4 != y0) then
        E (Xglidepathlaw02_LineSpectra_1000017a ())
      else bif (i8 != (0 : Int)) then
        E (Xglidepathlaw02_LineSpectra_1000017a ())
      else bindO (F 27 (RSh.one CK.list) [(PV.list n0 c1)]) fun (y1 : ((Nat) × (List PV))) =>
      bindO (F 26 (RSh.one CK.bool) [(PV.list n6 c7), (PV.list y1.1 y1.2)]) fun (y2 : (Bool)) =>
      bif y2 then
        E (Xglidepathlaw02_LineSpectra_1000017b (n0, c1, n2, c3, n9, c10, i11))
      else E (Xglidepathlaw02_LineSpectra_1000017a ())
    else E (Xglidepathlaw02_LineSpectra_1000017b (n0, c1, n2, c3, n9, c10, i11))
  else bif (i12 == (0 : Int)) then
    bif (i5 != (0 : Int)) then
      E (Xglidepathlaw02_LineSpectra_1000017a ())
    else bindO (F 25 (RSh.one (CK.int IntKind.i64)) [(PV.list n0 c1)]) fun (y3 : (Int)) =>
    bif (i4 != y3) then
      E (Xglidepathlaw02_LineSpectra_1000017a ())
    else bif (i8 != (0 : Int)) then
      E (Xglidepathlaw02_LineSpectra_1000017a ())
    else bindO (F 27 (RSh.one CK.list) [(PV.list n0 c1)]) fun (y4 : ((Nat) × (List PV))) =>
    bindO (F 26 (RSh.one CK.bool) [(PV.list n6 c7), (PV.list y4.1 y4.2)]) fun (y5 : (Bool)) =>
    bif y5 then
      E (Xglidepathlaw02_LineSpectra_1000017b (n0, c1, n2, c3, n9, c10, i11))
    else E (Xglidepathlaw02_LineSpectra_1000017a ())
  else E (Xglidepathlaw02_LineSpectra_1000017b (n0, c1, n2, c3, n9, c10, i11))
theorem Bglidepathlaw02_LineSpectra_1000017a_eq (F : FnT) (N : Q → Option (Ext × S)) (E : Ext × Q → Option (Ext × S)) (L1000041 : Q → Option Yglidepathlaw02_LineSpectra_1000041) (L1000024 : Q → Option Yglidepathlaw02_LineSpectra_1000024) (L1000017 : Q → Option Yglidepathlaw02_LineSpectra_1000017) (n0 : Nat) (c1 : List PV) (n2 : Nat) (c3 : List PV) (i4 : Int) (i5 : Int) (n6 : Nat) (c7 : List PV) (i8 : Int) (n9 : Nat) (c10 : List PV) (i11 : Int) (i12 : Int) : semN (callP F Eglidepathlaw02_LineSpectra 20) s4 (loopT [⟨1000041, Yglidepathlaw02_LineSpectra_1000041, L1000041, XLglidepathlaw02_LineSpectra_1000041⟩, ⟨1000024, Yglidepathlaw02_LineSpectra_1000024, L1000024, XLglidepathlaw02_LineSpectra_1000024⟩, ⟨1000017, Yglidepathlaw02_LineSpectra_1000017, L1000017, XLglidepathlaw02_LineSpectra_1000017⟩]) 400 (blkIn a4.body 1000017) E (Tglidepathlaw02_LineSpectra_1000017a n0 c1 n2 c3 i4 i5 n6 c7 i8 n9 c10 i11 i12) = Bglidepathlaw02_LineSpectra_1000017a F N E L1000041 L1000024 L1000017 n0 c1 n2 c3 i4 i5 n6 c7 i8 n9 c10 i11 i12 := by kernel_rfl
theorem Rglidepathlaw02_LineSpectra_1000017a_of  (n0 : Nat) (c1 : List PV) (n2 : Nat) (c3 : List PV) (i4 : Int) (i5 : Int) (n6 : Nat) (c7 : List PV) (i8 : Int) (n9 : Nat) (c10 : List PV) (i11 : Int) (i12 : Int) {r : Ext × S} (h : Bglidepathlaw02_LineSpectra_1000017a (Fn env) Rglidepathlaw02_LineSpectra_1000017 exO Lglidepathlaw02_LineSpectra_1000041 Lglidepathlaw02_LineSpectra_1000024 Lglidepathlaw02_LineSpectra_1000017 n0 c1 n2 c3 i4 i5 n6 c7 i8 n9 c10 i11 i12 = some r) : Rglidepathlaw02_LineSpectra_1000017 (Tglidepathlaw02_LineSpectra_1000017a n0 c1 n2 c3 i4 i5 n6 c7 i8 n9 c10 i11 i12) = some r :=
  nd_of Eglidepathlaw02_LineSpectra_ok (by kernel_rfl) (lo_cons (lpO_ok Uglidepathlaw02_LineSpectra) (lo_cons (lpO_ok Uglidepathlaw02_LineSpectra) (lo_cons (lpO_ok Uglidepathlaw02_LineSpectra) lo_nil))) (by kernel_rfl) ((Bglidepathlaw02_LineSpectra_1000017a_eq _ Rglidepathlaw02_LineSpectra_1000017 _ _ _ _ _ _ _ _ _ _ _ _ _ _ _ _ _).trans h)
def tglidepathlaw02_LineSpectra (F : FnT) (L1000041 : Q → Option Yglidepathlaw02_LineSpectra_1000041) (L1000024 : Q → Option Yglidepathlaw02_LineSpectra_1000024) (L1000017 : Q → Option Yglidepathlaw02_LineSpectra_1000017) (p0n : Nat) (p0c : List PV) (p1n : Nat) (p1c : List PV) : Option (Bool) :=
  bindO (F 18 (RSh.one CK.bool) []) fun (y0 : (Bool)) =>
  bif y0 then
    bindO (L1000041 (Tglidepathlaw02_LineSpectra_1000041a p0n p0c p1n p1c)) fun z =>
    Sum.elim (fun y1 =>
      bindO (F 15 (RSh.one CK.list) [(PV.list y1.1 y1.2.1)]) fun (y2 : ((Nat) × (List PV))) =>
      bindO (F 20 (RSh.tup [(Prod.mk false [(CK.int IntKind.i64)]), (Prod.mk false [(CK.int IntKind.i64)])]) [(PV.list y2.1 y2.2)]) fun (y3 : ((Int) × (Int))) =>
      bindO (F 15 (RSh.one CK.list) [(PV.list y1.1 y1.2.1)]) fun (y4 : ((Nat) × (List PV))) =>
      bindO (F 21 (RSh.tup [(Prod.mk false [(CK.int IntKind.i64)]), (Prod.mk false [(CK.int IntKind.i64)])]) [(PV.list y4.1 y4.2)]) fun (y5 : ((Int) × (Int))) =>
      bindO (F 15 (RSh.one CK.list) [(PV.list y1.1 y1.2.1)]) fun (y6 : ((Nat) × (List PV))) =>
      bindO (F 22 (RSh.tup [(Prod.mk false [CK.list]), (Prod.mk false [(CK.int IntKind.i64)])]) [(PV.list y6.1 y6.2)]) fun (y7 : (((Nat) × (List PV)) × (Int))) =>
      bindO (F 15 (RSh.one CK.list) [(PV.list y1.1 y1.2.1)]) fun (y8 : ((Nat) × (List PV))) =>
      bindO (F 15 (RSh.one CK.list) [(PV.list y1.2.2.1 y1.2.2.2)]) fun (y9 : ((Nat) × (List PV))) =>
      bindO (F 23 (RSh.tup [(Prod.mk false [CK.list]), (Prod.mk false [(CK.int IntKind.i64)])]) [(PV.list y8.1 y8.2), (PV.list y9.1 y9.2)]) fun (y10 : (((Nat) × (List PV)) × (Int))) =>
      bindO (F 24 (RSh.tup [(Prod.mk false [(CK.int IntKind.i64)]), (Prod.mk false [(CK.int IntKind.i64)])]) [(PV.list y1.1 y1.2.1)]) fun (y11 : ((Int) × (Int))) =>
      bindO (L1000024 (Tglidepathlaw02_LineSpectra_1000024a y1.1 y1.2.1 y1.2.2.1 y1.2.2.2 y3.1 y3.2 y5.1 y5.2 y7.1.1 y7.1.2 y7.2 y10.1.1 y10.1.2 y10.2 y11.1 y11.2)) fun z =>
      Sum.elim (fun y12 =>
        some false) (fun y13 =>
        bindO (L1000017 (Tglidepathlaw02_LineSpectra_1000017a y13.1 y13.2.1 y13.2.2.1 y13.2.2.2.1 y13.2.2.2.2.1 y13.2.2.2.2.2.1 y13.2.2.2.2.2.2.1 y13.2.2.2.2.2.2.2.1 y13.2.2.2.2.2.2.2.2.1 y13.2.2.2.2.2.2.2.2.2.1 y13.2.2.2.2.2.2.2.2.2.2.1 y13.2.2.2.2.2.2.2.2.2.2.2.1 y13.2.2.2.2.2.2.2.2.2.2.2.2)) fun z =>
        Sum.elim (fun y14 =>
          some false) (fun y15 =>
          bindO (F 28 (RSh.one (CK.int IntKind.i64)) [(PV.list y15.1 y15.2.1), (PV.list y15.2.2.1 y15.2.2.2.1)]) fun (y16 : (Int)) =>
          bif (y16 != (0 : Int)) then
            bif (y15.2.2.2.2.2.2 == y16) then
              bif ((y15.2.2.2.2.1 : Int) == (0 : Int)) then
                some true
              else some false
            else some false
          else bif (y15.2.2.2.2.2.2 == (0 : Int)) then
            bindO (F 29 (RSh.one CK.list) [(PV.list y15.1 y15.2.1), (PV.list y15.2.2.1 y15.2.2.2.1)]) fun (y17 : ((Nat) × (List PV))) =>
            bindO (F 26 (RSh.one CK.bool) [(PV.list y15.2.2.2.2.1 y15.2.2.2.2.2.1), (PV.list y17.1 y17.2)]) fun (y18 : (Bool)) =>
            bif y18 then
              some true
            else some false
          else some false) z) z) (fun y19 =>
      some true) z
  else some false
theorem tglidepathlaw02_LineSpectra_eq (F : FnT) (L1000041 : Q → Option Yglidepathlaw02_LineSpectra_1000041) (L1000024 : Q → Option Yglidepathlaw02_LineSpectra_1000024) (L1000017 : Q → Option Yglidepathlaw02_LineSpectra_1000017) (p0n : Nat) (p0c : List PV) (p1n : Nat) (p1c : List PV) : semF (callP F Eglidepathlaw02_LineSpectra 20) s4 (loopT [⟨1000041, Yglidepathlaw02_LineSpectra_1000041, L1000041, XLglidepathlaw02_LineSpectra_1000041⟩, ⟨1000024, Yglidepathlaw02_LineSpectra_1000024, L1000024, XLglidepathlaw02_LineSpectra_1000024⟩, ⟨1000017, Yglidepathlaw02_LineSpectra_1000017, L1000017, XLglidepathlaw02_LineSpectra_1000017⟩]) 400 a4 [PV.list p0n p0c, PV.list p1n p1c] (fun rv => decR (RSh.one CK.bool) rv.pv) = tglidepathlaw02_LineSpectra F L1000041 L1000024 L1000017 p0n p0c p1n p1c := by kernel_rfl
noncomputable abbrev Fglidepathlaw02_LineSpectra (args : List PV) := Fn env 4 (RSh.one CK.bool) args
theorem Fglidepathlaw02_LineSpectra_of  (p0n : Nat) (p0c : List PV) (p1n : Nat) (p1c : List PV) {res : (Bool)} (h : tglidepathlaw02_LineSpectra (Fn env) Lglidepathlaw02_LineSpectra_1000041 Lglidepathlaw02_LineSpectra_1000024 Lglidepathlaw02_LineSpectra_1000017 p0n p0c p1n p1c = some res) : Fglidepathlaw02_LineSpectra [PV.list p0n p0c, PV.list p1n p1c] = some res :=
  fn_of Eglidepathlaw02_LineSpectra_ok rfl rfl (lo_cons (lpO_ok Uglidepathlaw02_LineSpectra) (lo_cons (lpO_ok Uglidepathlaw02_LineSpectra) (lo_cons (lpO_ok Uglidepathlaw02_LineSpectra) lo_nil))) ((tglidepathlaw02_LineSpectra_eq _ _ _ _ _ _ _ _).trans h)

end Gv
