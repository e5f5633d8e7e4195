/- What the functions do, round by round: CG2. -/
import Derived.Test.YtkbahledgljaoaaCD5
namespace Gv
open Go
set_option maxRecDepth 100000
set_option maxHeartbeats 4000000

/-! ### glidepathlaw08_CloudSegments -/

def Eglidepathlaw08_CloudSegments : List Entry := [.out 10 (RSh.one CK.bool), .out 11 (RSh.one CK.bool), .out 16 (RSh.one CK.list), .out 21 (RSh.tup [(Prod.mk false [(CK.int IntKind.i64)]), (Prod.mk false [(CK.int IntKind.i64)])]), .out 22 (RSh.tup [(Prod.mk false [CK.list]), (Prod.mk false [(CK.int IntKind.i64)]), (Prod.mk false [(CK.int IntKind.i64)])]), .out 23 (RSh.tup [(Prod.mk false [CK.list]), (Prod.mk false [(CK.int IntKind.i64)])]), .out 12 (RSh.one (CK.int IntKind.i64)), .out 24 (RSh.one (CK.int IntKind.i64)), .out 25 (RSh.one (CK.int IntKind.i64)), .out 27 (RSh.one (CK.int IntKind.i64)), .out 26 (RSh.one (CK.int IntKind.i64)), .out 28 (RSh.tup [(Prod.mk false [CK.list]), (Prod.mk false [(CK.int IntKind.i64)])]), .out 29 (RSh.one CK.bool), .out 30 (RSh.one CK.list)]
theorem Eglidepathlaw08_CloudSegments_ok : ∀ e ∈ Eglidepathlaw08_CloudSegments, EntOK env e := (ent_out (ent_out (ent_out (ent_out (ent_out (ent_out (ent_out (ent_out (ent_out (ent_out (ent_out (ent_out (ent_out (ent_out ent_nil))))))))))))))
def Tglidepathlaw08_CloudSegments_1000023a (n0 : Nat) (c1 : List PV) (i2 : Int) (i3 : Int) (i4 : Int) (n5 : Nat) (c6 : List PV) (i7 : Int) (i8 : Int) (n9 : Nat) (c10 : List PV) (i11 : Int) (i12 : Int) (i13 : Int) (i14 : Int) (i15 : Int) : Q := ⟨(tm 139 [(0, (AV.p (PV.list n0 c1))), (1, (AV.p (PV.int IntKind.i64 i2))), (5, (AV.loc 5 0)), (7, (AV.p (PV.int IntKind.i64 i3))), (8, (AV.p (PV.int IntKind.i64 i4))), (9, (AV.p (PV.list n5 c6))), (10, (AV.p (PV.int IntKind.i64 i7))), (11, (AV.p (PV.int IntKind.i64 i8))), (12, (AV.p (PV.list n9 c10))), (13, (AV.p (PV.int IntKind.i64 i11))), (14, (AV.p (PV.int IntKind.i64 i12))), (15, (AV.p (PV.int IntKind.i64 i13)))]), (mm 139 [(5, (Bk.pcs true [(PV.int IntKind.i64 i14), (PV.int IntKind.i64 i15)]))])⟩
def Xglidepathlaw08_CloudSegments_1000023a (y : Nat × List PV × Int × Int × Int × Nat × List PV × Int × Int × Nat × List PV × Int × Int × Int × Int × Int) : Ext × Q := (Ext.normal, ⟨(tm 139 [(0, (AV.p (PV.list y.1 y.2.1))), (1, (AV.p (PV.int IntKind.i64 y.2.2.1))), (5, (AV.loc 5 0)), (7, (AV.p (PV.int IntKind.i64 y.2.2.2.1))), (8, (AV.p (PV.int IntKind.i64 y.2.2.2.2.1))), (9, (AV.p (PV.list y.2.2.2.2.2.1 y.2.2.2.2.2.2.1))), (10, (AV.p (PV.int IntKind.i64 y.2.2.2.2.2.2.2.1))), (11, (AV.p (PV.int IntKind.i64 y.2.2.2.2.2.2.2.2.1))), (12, (AV.p (PV.list y.2.2.2.2.2.2.2.2.2.1 y.2.2.2.2.2.2.2.2.2.2.1))), (13, (AV.p (PV.int IntKind.i64 y.2.2.2.2.2.2.2.2.2.2.2.1))), (14, (AV.p (PV.int IntKind.i64 y.2.2.2.2.2.2.2.2.2.2.2.2.1))), (15, (AV.p (PV.int IntKind.i64 y.2.2.2.2.2.2.2.2.2.2.2.2.2.1)))]), (mm 139 [(5, (Bk.pcs true [(PV.int IntKind.i64 y.2.2.2.2.2.2.2.2.2.2.2.2.2.2.1), (PV.int IntKind.i64 y.2.2.2.2.2.2.2.2.2.2.2.2.2.2.2)]))])⟩)
def Iglidepathlaw08_CloudSegments_1000023a (q : Ext × S) : Nat × List PV × Int × Int × Int × Nat × List PV × Int × Int × Nat × List PV × Int × Int × Int × Int × Int := ((pP_list0 (pA_p (avT q.2 0))), (pP_list1 (pA_p (avT q.2 0))), (pP_int1 (pA_p (avT q.2 1))), (pP_int1 (pA_p (avT q.2 7))), (pP_int1 (pA_p (avT q.2 8))), (pP_list0 (pA_p (avT q.2 9))), (pP_list1 (pA_p (avT q.2 9))), (pP_int1 (pA_p (avT q.2 10))), (pP_int1 (pA_p (avT q.2 11))), (pP_list0 (pA_p (avT q.2 12))), (pP_list1 (pA_p (avT q.2 12))), (pP_int1 (pA_p (avT q.2 13))), (pP_int1 (pA_p (avT q.2 14))), (pP_int1 (pA_p (avT q.2 15))), (pP_int1 (hdP (pB_pcs1 (avM q.2 5)))), (pP_int1 (hdP (List.tail (pB_pcs1 (avM q.2 5))))))
abbrev Yglidepathlaw08_CloudSegments_1000023 : Type := Nat × List PV × Int × Int × Int × Nat × List PV × Int × Int × Nat × List PV × Int × Int × Int × Int × Int
def XLglidepathlaw08_CloudSegments_1000023 : XL Yglidepathlaw08_CloudSegments_1000023 := .one Xglidepathlaw08_CloudSegments_1000023a
def Iglidepathlaw08_CloudSegments_1000023 (q : Ext × S) : Yglidepathlaw08_CloudSegments_1000023 := (Iglidepathlaw08_CloudSegments_1000023a q)
theorem XIglidepathlaw08_CloudSegments_1000023a (y : Nat × List PV × Int × Int × Int × Nat × List PV × Int × Int × Nat × List PV × Int × Int × Int × Int × Int) : Iglidepathlaw08_CloudSegments_1000023 (xe (Xglidepathlaw08_CloudSegments_1000023a y)) = y := rfl
theorem XIglidepathlaw08_CloudSegments_1000023 (y : Yglidepathlaw08_CloudSegments_1000023) : Iglidepathlaw08_CloudSegments_1000023 (xe (XLglidepathlaw08_CloudSegments_1000023.fn y)) = y := XIglidepathlaw08_CloudSegments_1000023a y
noncomputable abbrev Lglidepathlaw08_CloudSegments_1000023 : Q → Option Yglidepathlaw08_CloudSegments_1000023 := lpO env a4.body 1000023 XLglidepathlaw08_CloudSegments_1000023
noncomputable abbrev Rglidepathlaw08_CloudSegments_1000023 : Q → Option (Ext × S) := lpR env a4.body 1000023
theorem Lglidepathlaw08_CloudSegments_1000023a_of {s : Q} {y : Nat × List PV × Int × Int × Int × Nat × List PV × Int × Int × Nat × List PV × Int × Int × Int × Int × Int} (h : Rglidepathlaw08_CloudSegments_1000023 s = exO (Xglidepathlaw08_CloudSegments_1000023a y)) : Lglidepathlaw08_CloudSegments_1000023 s = some y := lpO_of Iglidepathlaw08_CloudSegments_1000023 XIglidepathlaw08_CloudSegments_1000023 (y := y) h
def Tglidepathlaw08_CloudSegments_1000019a (n0 : Nat) (c1 : List PV) (i2 : Int) (i3 : Int) (i4 : Int) (n5 : Nat) (c6 : List PV) (i7 : Int) (i8 : Int) (n9 : Nat) (c10 : List PV) (i11 : Int) (i12 : Int) (i13 : Int) (i14 : Int) (i15 : Int) : Q := ⟨(tm 139 [(0, (AV.p (PV.list n0 c1))), (1, (AV.p (PV.int IntKind.i64 i2))), (5, (AV.loc 5 0)), (7, (AV.p (PV.int IntKind.i64 i3))), (8, (AV.p (PV.int IntKind.i64 i4))), (9, (AV.p (PV.list n5 c6))), (10, (AV.p (PV.int IntKind.i64 i7))), (11, (AV.p (PV.int IntKind.i64 i8))), (12, (AV.p (PV.list n9 c10))), (13, (AV.p (PV.int IntKind.i64 i11))), (14, (AV.p (PV.int IntKind.i64 i12))), (15, (AV.p (PV.int IntKind.i64 i13)))]), (mm 139 [(5, (Bk.pcs true [(PV.int IntKind.i64 i14), (PV.int IntKind.i64 i15)]))])⟩
def Xglidepathlaw08_CloudSegments_1000019a (_y : Unit) : Ext × Q := (Ext.ret, ⟨(tm 139 [(6, (AV.p (PV.bool false)))]), (mm 139 [])⟩)
def Iglidepathlaw08_CloudSegments_1000019a (_q : Ext × S) : Unit := ()
def Xglidepathlaw08_CloudSegments_1000019b (y : Nat × List PV × Int × Nat × List PV × Int × Int × Nat × List PV × Int × Int) : Ext × Q := (Ext.normal, ⟨(tm 139 [(0, (AV.p (PV.list y.1 y.2.1))), (1, (AV.p (PV.int IntKind.i64 y.2.2.1))), (9, (AV.p (PV.list y.2.2.2.1 y.2.2.2.2.1))), (10, (AV.p (PV.int IntKind.i64 y.2.2.2.2.2.1))), (11, (AV.p (PV.int IntKind.i64 y.2.2.2.2.2.2.1))), (12, (AV.p (PV.list y.2.2.2.2.2.2.2.1 y.2.2.2.2.2.2.2.2.1))), (13, (AV.p (PV.int IntKind.i64 y.2.2.2.2.2.2.2.2.2.1))), (14, (AV.p (PV.int IntKind.i64 y.2.2.2.2.2.2.2.2.2.2)))]), (mm 139 [])⟩)
def Iglidepathlaw08_CloudSegments_1000019b (q : Ext × S) : Nat × List PV × Int × Nat × List PV × Int × Int × Nat × List PV × Int × Int := ((pP_list0 (pA_p (avT q.2 0))), (pP_list1 (pA_p (avT q.2 0))), (pP_int1 (pA_p (avT q.2 1))), (pP_list0 (pA_p (avT q.2 9))), (pP_list1 (pA_p (avT q.2 9))), (pP_int1 (pA_p (avT q.2 10))), (pP_int1 (pA_p (avT q.2 11))), (pP_list0 (pA_p (avT q.2 12))), (pP_list1 (pA_p (avT q.2 12))), (pP_int1 (pA_p (avT q.2 13))), (pP_int1 (pA_p (avT q.2 14))))
abbrev Yglidepathlaw08_CloudSegments_1000019 : Type := (Unit) ⊕ ((Nat × List PV × Int × Nat × List PV × Int × Int × Nat × List PV × Int × Int))
def XLglidepathlaw08_CloudSegments_1000019 : XL Yglidepathlaw08_CloudSegments_1000019 := .more Xglidepathlaw08_CloudSegments_1000019a (.one Xglidepathlaw08_CloudSegments_1000019b)
def Iglidepathlaw08_CloudSegments_1000019 (q : Ext × S) : Yglidepathlaw08_CloudSegments_1000019 := bif (cE q.1 == 2) then (Sum.inl (Iglidepathlaw08_CloudSegments_1000019a q)) else (Sum.inr (Iglidepathlaw08_CloudSegments_1000019b q))
theorem XIglidepathlaw08_CloudSegments_1000019a (y : Unit) : Iglidepathlaw08_CloudSegments_1000019 (xe (Xglidepathlaw08_CloudSegments_1000019a y)) = (Sum.inl y) := rfl
theorem XIglidepathlaw08_CloudSegments_1000019b (y : Nat × List PV × Int × Nat × List PV × Int × Int × Nat × List PV × Int × Int) : Iglidepathlaw08_CloudSegments_1000019 (xe (Xglidepathlaw08_CloudSegments_1000019b y)) = (Sum.inr y) := rfl
theorem XIglidepathlaw08_CloudSegments_1000019 (y : Yglidepathlaw08_CloudSegments_1000019) : Iglidepathlaw08_CloudSegments_1000019 (xe (XLglidepathlaw08_CloudSegments_1000019.fn y)) = y := (match y with | .inl y => XIglidepathlaw08_CloudSegments_1000019a y | .inr y => XIglidepathlaw08_CloudSegments_1000019b y)
noncomputable abbrev Lglidepathlaw08_CloudSegments_1000019 : Q → Option Yglidepathlaw08_CloudSegments_1000019 := lpO env a4.body 1000019 XLglidepathlaw08_CloudSegments_1000019
noncomputable abbrev Rglidepathlaw08_CloudSegments_1000019 : Q → Option (Ext × S) := lpR env a4.body 1000019
theorem Lglidepathlaw08_CloudSegments_1000019a_of {s : Q} {y : Unit} (h : Rglidepathlaw08_CloudSegments_1000019 s = exO (Xglidepathlaw08_CloudSegments_1000019a y)) : Lglidepathlaw08_CloudSegments_1000019 s = some (Sum.inl y) := lpO_of Iglidepathlaw08_CloudSegments_1000019 XIglidepathlaw08_CloudSegments_1000019 (y := (Sum.inl y)) h
theorem Lglidepathlaw08_CloudSegments_1000019b_of {s : Q} {y : Nat × List PV × Int × Nat × List PV × Int × Int × Nat × List PV × Int × Int} (h : Rglidepathlaw08_CloudSegments_1000019 s = exO (Xglidepathlaw08_CloudSegments_1000019b y)) : Lglidepathlaw08_CloudSegments_1000019 s = some (Sum.inr y) := lpO_of Iglidepathlaw08_CloudSegments_1000019 XIglidepathlaw08_CloudSegments_1000019 (y := (Sum.inr y)) h
theorem Uglidepathlaw08_CloudSegments : uniq ((blocksOf a4.body).map (·.1)) = true := by kernel_rfl
def Bglidepathlaw08_CloudSegments_1000023a (F : FnT) (_N : Q → Option (Ext × S)) (E : Ext × Q → Option (Ext × S)) (_L1000023 : Q → Option Yglidepathlaw08_CloudSegments_1000023) (_L1000019 : Q → Option Yglidepathlaw08_CloudSegments_1000019) (n0 : Nat) (c1 : List PV) (i2 : Int) (i3 : Int) (i4 : Int) (n5 : Nat) (c6 : List PV) (i7 : Int) (i8 : Int) (n9 : Nat) (c10 : List PV) (i11 : Int) (i12 : Int) (i13 : Int) (i14 : Int) (i15 : Int) : Option (Ext × S) :=
  bif (i13 == (0 : Int)) then
    bindO (F 24 (RSh.one (CK.int IntKind.i64)) [(PV.list n0 c1), (PV.agg [(PV.int IntKind.i64 i14), (PV.int IntKind.i64 i15)])]) fun (y0 : (Int)) =>
    E (Xglidepathlaw08_CloudSegments_1000023a (n0, c1, i2, i3, i4, n5, c6, i7, i8, n9, c10, i11, i12, y0, i14, i15))
  else E (Xglidepathlaw08_CloudSegments_1000023a (n0, c1, i2, i3, i4, n5, c6, i7, i8, n9, c10, i11, i12, i13, i14, i15))
theorem Bglidepathlaw08_CloudSegments_1000023a_eq (F : FnT) (N : Q → Option (Ext × S)) (E : Ext × Q → Option (Ext × S)) (L1000023 : Q → Option Yglidepathlaw08_CloudSegments_1000023) (L1000019 : Q → Option Yglidepathlaw08_CloudSegments_1000019) (n0 : Nat) (c1 : List PV) (i2 : Int) (i3 : Int) (i4 : Int) (n5 : Nat) (c6 : List PV) (i7 : Int) (i8 : Int) (n9 : Nat) (c10 : List PV) (i11 : Int) (i12 : Int) (i13 : Int) (i14 : Int) (i15 : Int) : semN (callP F Eglidepathlaw08_CloudSegments 20) s4 (loopT [⟨1000023, Yglidepathlaw08_CloudSegments_1000023, L1000023, XLglidepathlaw08_CloudSegments_1000023⟩, ⟨1000019, Yglidepathlaw08_CloudSegments_1000019, L1000019, XLglidepathlaw08_CloudSegments_1000019⟩]) 400 (blkIn a4.body 1000023) E (Tglidepathlaw08_CloudSegments_1000023a n0 c1 i2 i3 i4 n5 c6 i7 i8 n9 c10 i11 i12 i13 i14 i15) = Bglidepathlaw08_CloudSegments_1000023a F N E L1000023 L1000019 n0 c1 i2 i3 i4 n5 c6 i7 i8 n9 c10 i11 i12 i13 i14 i15 := by kernel_rfl
theorem Rglidepathlaw08_CloudSegments_1000023a_of  (n0 : Nat) (c1 : List PV) (i2 : Int) (i3 : Int) (i4 : Int) (n5 : Nat) (c6 : List PV) (i7 : Int) (i8 : Int) (n9 : Nat) (c10 : List PV) (i11 : Int) (i12 : Int) (i13 : Int) (i14 : Int) (i15 : Int) {r : Ext × S} (h : Bglidepathlaw08_CloudSegments_1000023a (Fn env) Rglidepathlaw08_CloudSegments_1000023 exO Lglidepathlaw08_CloudSegments_1000023 Lglidepathlaw08_CloudSegments_1000019 n0 c1 i2 i3 i4 n5 c6 i7 i8 n9 c10 i11 i12 i13 i14 i15 = some r) : Rglidepathlaw08_CloudSegments_1000023 (Tglidepathlaw08_CloudSegments_1000023a n0 c1 i2 i3 i4 n5 c6 i7 i8 n9 c10 i11 i12 i13 i14 i15) = some r :=
  nd_of Eglidepathlaw08_CloudSegments_ok (by kernel_rfl) (lo_cons (lpO_ok Uglidepathlaw08_CloudSegments) (lo_cons (lpO_ok Uglidepathlaw08_CloudSegments) lo_nil)) (by kernel_rfl) ((Bglidepathlaw08_CloudSegments_1000023a_eq _ Rglidepathlaw08_CloudSegments_1000023 _ _ _ _ _ _ _ _ _ _ _ _ _ _ _ _ _ _ _).trans h)
def Bglidepathlaw08_CloudSegments_1000019a (F : FnT) (_N : Q → Option (Ext × S)) (E : Ext × Q → Option (Ext × S)) (_L1000023 : Q → Option Yglidepathlaw08_CloudSegments_1000023) (_L1000019 : Q → Option Yglidepathlaw08_CloudSegments_1000019) (n0 : Nat) (c1 : List PV) (i2 : Int) (i3 : Int) (i4 : Int) (n5 : Nat) (c6 : List PV) (i7 : Int) (i8 : Int) (n9 : Nat) (c10 : List PV) (i11 : Int) (i12 : Int) (i13 : Int) (i14 : Int) (i15 : Int) : Option (Ext × S) :=
  bif (i13 != (0 : Int)) then
    bif (i4 != i13) then
      E (Xglidepathlaw08_CloudSegments_1000019a ())
    else bif (i3 != (0 : Int)) then
      E (Xglidepathlaw08_CloudSegments_1000019a ())
    else bif (i13 == (0 : Int)) then
      bif (i4 != (0 : Int)) then
        E (Xglidepathlaw08_CloudSegments_1000019a ())
      else bindO (F 25 (RSh.one (CK.int IntKind.i64)) [(PV.list n0 c1), (PV.int IntKind.i64 i14), (PV.int IntKind.i64 i15)]) fun (y0 : (Int)) =>
      bif (i3 != y0) then
        E (Xglidepathlaw08_CloudSegments_1000019a ())
      else E (Xglidepathlaw08_CloudSegments_1000019b (n0, c1, i2, n5, c6, i7, i8, n9, c10, i11, i12))
    else E (Xglidepathlaw08_CloudSegments_1000019b (n0, c1, i2, n5, c6, i7, i8, n9, c10, i11, i12))
  else bif (i13 == (0 : Int)) then
    bif (i4 != (0 : Int)) then
      E (Xglidepathlaw08_CloudSegments_1000019a ())
    else bindO (F 25 (RSh.one (CK.int IntKind.i64)) [(PV.list n0 c1), (PV.int IntKind.i64 i14), (PV.int IntKind.i64 i15)]) fun (y1 : (Int)) =>
    bif (i3 != y1) then
      E (Xglidepathlaw08_CloudSegments_1000019a ())
    else E (Xglidepathlaw08_CloudSegments_1000019b (n0, c1, i2, n5, c6, i7, i8, n9, c10, i11, i12))
  else E (Xglidepathlaw08_CloudSegments_1000019b (n0, c1, i2, n5, c6, i7, i8, n9, c10, i11, i12))
theorem Bglidepathlaw08_CloudSegments_1000019a_eq (F : FnT) (N : Q → Option (Ext × S)) (E : Ext × Q → Option (Ext × S)) (L1000023 : Q → Option Yglidepathlaw08_CloudSegments_1000023) (L1000019 : Q → Option Yglidepathlaw08_CloudSegments_1000019) (n0 : Nat) (c1 : List PV) (i2 : Int) (i3 : Int) (i4 : Int) (n5 : Nat) (c6 : List PV) (i7 : Int) (i8 : Int) (n9 : Nat) (c10 : List PV) (i11 : Int) (i12 : Int) (i13 : Int) (i14 : Int) (i15 : Int) : semN (callP F Eglidepathlaw08_CloudSegments 20) s4 (loopT [⟨1000023, Yglidepathlaw08_CloudSegments_1000023, L1000023, XLglidepathlaw08_CloudSegments_1000023⟩, ⟨1000019, Yglidepathlaw08_CloudSegments_1000019, L1000019, XLglidepathlaw08_CloudSegments_1000019⟩]) 400 (blkIn a4.body 1000019) E (Tglidepathlaw08_CloudSegments_1000019a n0 c1 i2 i3 i4 n5 c6 i7 i8 n9 c10 i11 i12 i13 i14 i15) = Bglidepathlaw08_CloudSegments_1000019a F N E L1000023 L1000019 n0 c1 i2 i3 i4 n5 c6 i7 i8 n9 c10 i11 i12 i13 i14 i15 := by kernel_rfl
theorem Rglidepathlaw08_CloudSegments_1000019a_of  (n0 : Nat) (c1 : List PV) (i2 : Int) (i3 : Int) (i4 : Int) (n5 : Nat) (c6 : List PV) (i7 : Int) (i8 : Int) (n9 : Nat) (c10 : List PV) (i11 : Int) (i12 : Int) (i13 : Int) (i14 : Int) (i15 : Int) {r : Ext × S} (h : Bglidepathlaw08_CloudSegments_1000019a (Fn env) Rglidepathlaw08_CloudSegments_1000019 exO Lglidepathlaw08_CloudSegments_1000023 Lglidepathlaw08_CloudSegments_1000019 n0 c1 i2 i3 i4 n5 c6 i7 i8 n9 c10 i11 i12 i13 i14 i15 = some r) : Rglidepathlaw08_CloudSegments_1000019 (Tglidepathlaw08_CloudSegments_1000019a n0 c1 i2 i3 i4 n5 c6 i7 i8 n9 c10 i11 i12 i13 i14 i15) = some r :=
  nd_of Eglidepathlaw08_CloudSegments_ok (by kernel_rfl) (lo_cons (lpO_ok Uglidepathlaw08_CloudSegments) (lo_cons (lpO_ok Uglidepathlaw08_CloudSegments) lo_nil)) (by kernel_rfl) ((Bglidepathlaw08_CloudSegments_1000019a_eq _ Rglidepathlaw08_CloudSegments_1000019 _ _ _ _ _ _ _ _ _ _ _ _ _ _ _ _ _ _ _).trans h)
def tglidepathlaw08_CloudSegments (F : FnT) (L1000023 : Q → Option Yglidepathlaw08_CloudSegments_1000023) (L1000019 : Q → Option Yglidepathlaw08_CloudSegments_1000019) (p0n : Nat) (p0c : List PV) (p1 : Int) (p2_0 : Int) (p2_1 : Int) : Option (Bool) :=
  bindO (F 10 (RSh.one CK.bool) []) fun (y0 : (Bool)) =>
  bif y0 then
    bindO (F 11 (RSh.one CK.bool) [(PV.list p0n p0c)]) fun (y1 : (Bool)) =>
    bif y1 then
      bindO (F 16 (RSh.one CK.list) [(PV.list p0n p0c)]) fun (y2 : ((Nat) × (List PV))) =>
      bindO (F 21 (RSh.tup [(Prod.mk false [(CK.int IntKind.i64)]), (Prod.mk false [(CK.int IntKind.i64)])]) [(PV.list y2.1 y2.2), (PV.agg [(PV.int IntKind.i64 p2_0), (PV.int IntKind.i64 p2_1)])]) fun (y3 : ((Int) × (Int))) =>
      bindO (F 16 (RSh.one CK.list) [(PV.list p0n p0c)]) fun (y4 : ((Nat) × (List PV))) =>
      bindO (F 22 (RSh.tup [(Prod.mk false [CK.list]), (Prod.mk false [(CK.int IntKind.i64)]), (Prod.mk false [(CK.int IntKind.i64)])]) [(PV.list y4.1 y4.2), (PV.int IntKind.i64 p1)]) fun (y5 : (((Nat) × (List PV)) × ((Int) × (Int)))) =>
      bindO (F 16 (RSh.one CK.list) [(PV.list p0n p0c)]) fun (y6 : ((Nat) × (List PV))) =>
      bindO (F 23 (RSh.tup [(Prod.mk false [CK.list]), (Prod.mk false [(CK.int IntKind.i64)])]) [(PV.list y6.1 y6.2), (PV.int IntKind.i64 p1)]) fun (y7 : (((Nat) × (List PV)) × (Int))) =>
      bindO (F 12 (RSh.one (CK.int IntKind.i64)) [(PV.list p0n p0c)]) fun (y8 : (Int)) =>
      bindO (L1000023 (Tglidepathlaw08_CloudSegments_1000023a p0n p0c p1 y3.1 y3.2 y5.1.1 y5.1.2 y5.2.1 y5.2.2 y7.1.1 y7.1.2 y7.2 y8 y8 p2_0 p2_1)) fun y9 =>
      bindO (L1000019 (Tglidepathlaw08_CloudSegments_1000019a y9.1 y9.2.1 y9.2.2.1 y9.2.2.2.1 y9.2.2.2.2.1 y9.2.2.2.2.2.1 y9.2.2.2.2.2.2.1 y9.2.2.2.2.2.2.2.1 y9.2.2.2.2.2.2.2.2.1 y9.2.2.2.2.2.2.2.2.2.1 y9.2.2.2.2.2.2.2.2.2.2.1 y9.2.2.2.2.2.2.2.2.2.2.2.1 y9.2.2.2.2.2.2.2.2.2.2.2.2.1 y9.2.2.2.2.2.2.2.2.2.2.2.2.2.1 y9.2.2.2.2.2.2.2.2.2.2.2.2.2.2.1 y9.2.2.2.2.2.2.2.2.2.2.2.2.2.2.2)) fun z =>
      Sum.elim (fun _y10 =>
        some false) (fun y11 =>
        bindO (F 27 (RSh.one (CK.int IntKind.i64)) [(PV.int IntKind.i64 y11.2.2.1)]) fun (y12 : (Int)) =>
        bindO (F 26 (RSh.one (CK.int IntKind.i64)) [(PV.int IntKind.i64 y11.2.2.2.2.2.2.2.2.2.2), (PV.int IntKind.i64 y12)]) fun (y13 : (Int)) =>
        bif (y13 != (0 : Int)) then
          bif (y11.2.2.2.2.2.2.1 == y13) then
            bif ((y11.2.2.2.1 : Int) == (0 : Int)) then
              bif (y11.2.2.2.2.2.1 == (0 : Int)) then
                bif (y11.2.2.2.2.2.2.2.2.2.1 == y13) then
                  bif ((y11.2.2.2.2.2.2.2.1 : Int) == (0 : Int)) then
                    some true
                  else some false
                else some false
              else some false
            else some false
          else some false
        else bindO (F 28 (RSh.tup [(Prod.mk false [CK.list]), (Prod.mk false [(CK.int IntKind.i64)])]) [(PV.list y11.1 y11.2.1), (PV.int IntKind.i64 y11.2.2.1)]) fun (y14 : (((Nat) × (List PV)) × (Int))) =>
        bif (y11.2.2.2.2.2.2.1 == (0 : Int)) then
          bindO (F 29 (RSh.one CK.bool) [(PV.list y11.2.2.2.1 y11.2.2.2.2.1), (PV.list y14.1.1 y14.1.2)]) fun (y15 : (Bool)) =>
          bif y15 then
            bif (y11.2.2.2.2.2.1 == y14.2) then
              bif (y11.2.2.2.2.2.2.2.2.2.1 == (0 : Int)) then
                bindO (F 30 (RSh.one CK.list) [(PV.list y11.1 y11.2.1), (PV.int IntKind.i64 y11.2.2.1)]) fun (y16 : ((Nat) × (List PV))) =>
                bindO (F 29 (RSh.one CK.bool) [(PV.list y11.2.2.2.2.2.2.2.1 y11.2.2.2.2.2.2.2.2.1), (PV.list y16.1 y16.2)]) fun (y17 : (Bool)) =>
                bif y17 then
                  some true
                else some false
              else some false
            else some false
          else some false
        else some false) z
    else some true
  else some false
theorem tglidepathlaw08_CloudSegments_eq (F : FnT) (L1000023 : Q → Option Yglidepathlaw08_CloudSegments_1000023) (L1000019 : Q → Option Yglidepathlaw08_CloudSegments_1000019) (p0n : Nat) (p0c : List PV) (p1 : Int) (p2_0 : Int) (p2_1 : Int) : semF (callP F Eglidepathlaw08_CloudSegments 20) s4 (loopT [⟨1000023, Yglidepathlaw08_CloudSegments_1000023, L1000023, XLglidepathlaw08_CloudSegments_1000023⟩, ⟨1000019, Yglidepathlaw08_CloudSegments_1000019, L1000019, XLglidepathlaw08_CloudSegments_1000019⟩]) 400 a4 [PV.list p0n p0c, PV.int IntKind.i64 p1, PV.agg [PV.int IntKind.i64 p2_0, PV.int IntKind.i64 p2_1]] (fun rv => decR (RSh.one CK.bool) rv.pv) = tglidepathlaw08_CloudSegments F L1000023 L1000019 p0n p0c p1 p2_0 p2_1 := by kernel_rfl
noncomputable abbrev Fglidepathlaw08_CloudSegments (args : List PV) := Fn env 4 (RSh.one CK.bool) args
theorem Fglidepathlaw08_CloudSegments_of  (p0n : Nat) (p0c : List PV) (p1 : Int) (p2_0 : Int) (p2_1 : Int) {res : (Bool)} (h : tglidepathlaw08_CloudSegments (Fn env) Lglidepathlaw08_CloudSegments_1000023 Lglidepathlaw08_CloudSegments_1000019 p0n p0c p1 p2_0 p2_1 = some res) : Fglidepathlaw08_CloudSegments [PV.list p0n p0c, PV.int IntKind.i64 p1, PV.agg [PV.int IntKind.i64 p2_0, PV.int IntKind.i64 p2_1]] = some res :=
  fn_of Eglidepathlaw08_CloudSegments_ok rfl rfl (lo_cons (lpO_ok Uglidepathlaw08_CloudSegments) (lo_cons (lpO_ok Uglidepathlaw08_CloudSegments) lo_nil)) ((tglidepathlaw08_CloudSegments_eq _ _ _ _ _ _ _ _).trans h)

end Gv
