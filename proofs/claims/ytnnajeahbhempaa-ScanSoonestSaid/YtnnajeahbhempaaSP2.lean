/- What the functions do, round by round: SP2. -/
import Derived.Test.YtnnajeahbhempaaPO2
namespace Gv
open Go
set_option maxRecDepth 100000

/-! ### glidepathlaw03_ScanDrives -/

def Eglidepathlaw03_ScanDrives : List Entry := [.out 12 (RSh.one CK.bool), .out 13 (RSh.one (CK.int IntKind.i64)), .out 14 (RSh.tup [(Prod.mk false [(CK.int IntKind.i64)]), (Prod.mk false [(CK.int IntKind.i64)])]), .out 15 (RSh.tup [(Prod.mk false [(CK.int IntKind.i64)]), (Prod.mk false [(CK.int IntKind.i64)])]), .out 16 (RSh.one (CK.int IntKind.i64)), .out 17 (RSh.one CK.bool), .out 18 (RSh.one (CK.int IntKind.i64)), .out 19 (RSh.one (CK.int IntKind.i64))]
theorem Eglidepathlaw03_ScanDrives_ok : ∀ e ∈ Eglidepathlaw03_ScanDrives, EntOK env e := (ent_out (ent_out (ent_out (ent_out (ent_out (ent_out (ent_out (ent_out ent_nil))))))))
def Tglidepathlaw03_ScanDrives_1000023a (i0 : Int) (i1 : Int) (i2 : Int) (i3 : Int) (i4 : Int) (i5 : Int) (i6 : Int) (i7 : Int) (i8 : Int) (i9 : Int) : Q := ⟨(tm 92 [(1, (AV.p (PV.int IntKind.i64 i0))), (2, (AV.p (PV.int IntKind.i64 i1))), (3, (AV.loc 3 0)), (7, (AV.p (PV.int IntKind.i64 i2))), (8, (AV.p (PV.int IntKind.i64 i3))), (9, (AV.p (PV.int IntKind.i64 i4))), (10, (AV.p (PV.int IntKind.i64 i5))), (11, (AV.p (PV.int IntKind.i64 i6))), (12, (AV.p (PV.int IntKind.i64 i7)))]), (mm 92 [(3, (Bk.pcs true [(PV.int IntKind.i64 i8), (PV.int IntKind.i64 i9)]))])⟩
def Xglidepathlaw03_ScanDrives_1000023a (y : Int × Int × Int × Int × Int × Int × Int × Int × Int × Int) : Ext × Q := (Ext.normal, ⟨(tm 92 [(1, (AV.p (PV.int IntKind.i64 y.1))), (2, (AV.p (PV.int IntKind.i64 y.2.1))), (3, (AV.loc 3 0)), (7, (AV.p (PV.int IntKind.i64 y.2.2.1))), (8, (AV.p (PV.int IntKind.i64 y.2.2.2.1))), (9, (AV.p (PV.int IntKind.i64 y.2.2.2.2.1))), (10, (AV.p (PV.int IntKind.i64 y.2.2.2.2.2.1))), (11, (AV.p (PV.int IntKind.i64 y.2.2.2.2.2.2.1))), (12, (AV.p (PV.int IntKind.i64 y.2.2.2.2.2.2.2.1)))]), (mm 92 [(3, (Bk.pcs true [(PV.int IntKind.i64 y.2.2.2.2.2.2.2.2.1), (PV.int IntKind.i64 y.2.2.2.2.2.2.2.2.2)]))])⟩)
def Iglidepathlaw03_ScanDrives_1000023a (q : Ext × S) : Int × Int × Int × Int × Int × Int × Int × Int × Int × Int := ((pP_int1 (pA_p (avT q.2 1))), (pP_int1 (pA_p (avT q.2 2))), (pP_int1 (pA_p (avT q.2 7))), (pP_int1 (pA_p (avT q.2 8))), (pP_int1 (pA_p (avT q.2 9))), (pP_int1 (pA_p (avT q.2 10))), (pP_int1 (pA_p (avT q.2 11))), (pP_int1 (pA_p (avT q.2 12))), (pP_int1 (hdP (pB_pcs1 (avM q.2 3)))), (pP_int1 (hdP (List.tail (pB_pcs1 (avM q.2 3))))))
abbrev Yglidepathlaw03_ScanDrives_1000023 : Type := Int × Int × Int × Int × Int × Int × Int × Int × Int × Int
def XLglidepathlaw03_ScanDrives_1000023 : XL Yglidepathlaw03_ScanDrives_1000023 := .one Xglidepathlaw03_ScanDrives_1000023a
def Iglidepathlaw03_ScanDrives_1000023 (q : Ext × S) : Yglidepathlaw03_ScanDrives_1000023 := (Iglidepathlaw03_ScanDrives_1000023a q)
theorem XIglidepathlaw03_ScanDrives_1000023a (y : Int × Int × Int × Int × Int × Int × Int × Int × Int × Int) : Iglidepathlaw03_ScanDrives_1000023 (xe (Xglidepathlaw03_ScanDrives_1000023a y)) = y := rfl
theorem XIglidepathlaw03_ScanDrives_1000023 (y : Yglidepathlaw03_ScanDrives_1000023) : Iglidepathlaw03_ScanDrives_1000023 (xe (XLglidepathlaw03_ScanDrives_1000023.fn y)) = y := XIglidepathlaw03_ScanDrives_1000023a y
noncomputable abbrev Lglidepathlaw03_ScanDrives_1000023 : Q → Option Yglidepathlaw03_ScanDrives_1000023 := lpO env a3.body 1000023 XLglidepathlaw03_ScanDrives_1000023
noncomputable abbrev Rglidepathlaw03_ScanDrives_1000023 : Q → Option (Ext × S) := lpR env a3.body 1000023
theorem Lglidepathlaw03_ScanDrives_1000023a_of {s : Q} {y : Int × Int × Int × Int × Int × Int × Int × Int × Int × Int} (h : Rglidepathlaw03_ScanDrives_1000023 s = exO (Xglidepathlaw03_ScanDrives_1000023a y)) : Lglidepathlaw03_ScanDrives_1000023 s = some y := lpO_of Iglidepathlaw03_ScanDrives_1000023 XIglidepathlaw03_ScanDrives_1000023 (y := y) h
def Tglidepathlaw03_ScanDrives_1000019a (i0 : Int) (i1 : Int) (i2 : Int) (i3 : Int) (i4 : Int) (i5 : Int) (i6 : Int) (i7 : Int) (i8 : Int) (i9 : Int) : Q := ⟨(tm 92 [(1, (AV.p (PV.int IntKind.i64 i0))), (2, (AV.p (PV.int IntKind.i64 i1))), (3, (AV.loc 3 0)), (7, (AV.p (PV.int IntKind.i64 i2))), (8, (AV.p (PV.int IntKind.i64 i3))), (9, (AV.p (PV.int IntKind.i64 i4))), (10, (AV.p (PV.int IntKind.i64 i5))), (11, (AV.p (PV.int IntKind.i64 i6))), (12, (AV.p (PV.int IntKind.i64 i7)))]), (mm 92 [(3, (Bk.pcs true [(PV.int IntKind.i64 i8), (PV.int IntKind.i64 i9)]))])⟩
def Xglidepathlaw03_ScanDrives_1000019a (y : Int × Int × Int × Int × Int × Int × Int × Int × Int × Int) : Ext × Q := (Ext.normal, ⟨(tm 92 [(1, (AV.p (PV.int IntKind.i64 y.1))), (2, (AV.p (PV.int IntKind.i64 y.2.1))), (3, (AV.loc 3 0)), (7, (AV.p (PV.int IntKind.i64 y.2.2.1))), (8, (AV.p (PV.int IntKind.i64 y.2.2.2.1))), (9, (AV.p (PV.int IntKind.i64 y.2.2.2.2.1))), (10, (AV.p (PV.int IntKind.i64 y.2.2.2.2.2.1))), (11, (AV.p (PV.int IntKind.i64 y.2.2.2.2.2.2.1))), (12, (AV.p (PV.int IntKind.i64 y.2.2.2.2.2.2.2.1)))]), (mm 92 [(3, (Bk.pcs true [(PV.int IntKind.i64 y.2.2.2.2.2.2.2.2.1), (PV.int IntKind.i64 y.2.2.2.2.2.2.2.2.2)]))])⟩)
def Iglidepathlaw03_ScanDrives_1000019a (q : Ext × S) : Int × Int × Int × Int × Int × Int × Int × Int × Int × Int := ((pP_int1 (pA_p (avT q.2 1))), (pP_int1 (pA_p (avT q.2 2))), (pP_int1 (pA_p (avT q.2 7))), (pP_int1 (pA_p (avT q.2 8))), (pP_int1 (pA_p (avT q.2 9))), (pP_int1 (pA_p (avT q.2 10))), (pP_int1 (pA_p (avT q.2 11))), (pP_int1 (pA_p (avT q.2 12))), (pP_int1 (hdP (pB_pcs1 (avM q.2 3)))), (pP_int1 (hdP (List.tail (pB_pcs1 (avM q.2 3))))))
abbrev Yglidepathlaw03_ScanDrives_1000019 : Type := Int × Int × Int × Int × Int × Int × Int × Int × Int × Int
def XLglidepathlaw03_ScanDrives_1000019 : XL Yglidepathlaw03_ScanDrives_1000019 := .one Xglidepathlaw03_ScanDrives_1000019a
def Iglidepathlaw03_ScanDrives_1000019 (q : Ext × S) : Yglidepathlaw03_ScanDrives_1000019 := (Iglidepathlaw03_ScanDrives_1000019a q)
theorem XIglidepathlaw03_ScanDrives_1000019a (y : Int × Int × Int × Int × Int × Int × Int × Int × Int × Int) : Iglidepathlaw03_ScanDrives_1000019 (xe (Xglidepathlaw03_ScanDrives_1000019a y)) = y := rfl
theorem XIglidepathlaw03_ScanDrives_1000019 (y : Yglidepathlaw03_ScanDrives_1000019) : Iglidepathlaw03_ScanDrives_1000019 (xe (XLglidepathlaw03_ScanDrives_1000019.fn y)) = y := XIglidepathlaw03_ScanDrives_1000019a y
noncomputable abbrev Lglidepathlaw03_ScanDrives_1000019 : Q → Option Yglidepathlaw03_ScanDrives_1000019 := lpO env a3.body 1000019 XLglidepathlaw03_ScanDrives_1000019
noncomputable abbrev Rglidepathlaw03_ScanDrives_1000019 : Q → Option (Ext × S) := lpR env a3.body 1000019
theorem Lglidepathlaw03_ScanDrives_1000019a_of {s : Q} {y : Int × Int × Int × Int × Int × Int × Int × Int × Int × Int} (h : Rglidepathlaw03_ScanDrives_1000019 s = exO (Xglidepathlaw03_ScanDrives_1000019a y)) : Lglidepathlaw03_ScanDrives_1000019 s = some y := lpO_of Iglidepathlaw03_ScanDrives_1000019 XIglidepathlaw03_ScanDrives_1000019 (y := y) h
def Tglidepathlaw03_ScanDrives_1000015a (i0 : Int) (i1 : Int) (i2 : Int) (i3 : Int) (i4 : Int) (i5 : Int) (i6 : Int) (i7 : Int) (i8 : Int) (i9 : Int) : Q := ⟨(tm 92 [(1, (AV.p (PV.int IntKind.i64 i0))), (2, (AV.p (PV.int IntKind.i64 i1))), (3, (AV.loc 3 0)), (7, (AV.p (PV.int IntKind.i64 i2))), (8, (AV.p (PV.int IntKind.i64 i3))), (9, (AV.p (PV.int IntKind.i64 i4))), (10, (AV.p (PV.int IntKind.i64 i5))), (11, (AV.p (PV.int IntKind.i64 i6))), (12, (AV.p (PV.int IntKind.i64 i7)))]), (mm 92 [(3, (Bk.pcs true [(PV.int IntKind.i64 i8), (PV.int IntKind.i64 i9)]))])⟩
def Xglidepathlaw03_ScanDrives_1000015a (y : Unit) : Ext × Q := (Ext.ret, ⟨(tm 92 [(6, (AV.p (PV.bool false)))]), (mm 92 [])⟩)
def Iglidepathlaw03_ScanDrives_1000015a (q : Ext × S) : Unit := ()
def Xglidepathlaw03_ScanDrives_1000015b (y : Int × Int × Int × Int × Int × Int) : Ext × Q := (Ext.normal, ⟨(tm 92 [(2, (AV.p (PV.int IntKind.i64 y.1))), (3, (AV.loc 3 0)), (10, (AV.p (PV.int IntKind.i64 y.2.1))), (11, (AV.p (PV.int IntKind.i64 y.2.2.1))), (12, (AV.p (PV.int IntKind.i64 y.2.2.2.1)))]), (mm 92 [(3, (Bk.pcs true [(PV.int IntKind.i64 y.2.2.2.2.1), (PV.int IntKind.i64 y.2.2.2.2.2)]))])⟩)
def Iglidepathlaw03_ScanDrives_1000015b (q : Ext × S) : Int × Int × Int × Int × Int × Int := ((pP_int1 (pA_p (avT q.2 2))), (pP_int1 (pA_p (avT q.2 10))), (pP_int1 (pA_p (avT q.2 11))), (pP_int1 (pA_p (avT q.2 12))), (pP_int1 (hdP (pB_pcs1 (avM q.2 3)))), (pP_int1 (hdP (List.tail (pB_pcs1 (avM q.2 3))))))
abbrev Yglidepathlaw03_ScanDrives_1000015 : Type := (Unit) ⊕ ((Int × Int × Int × Int × Int × Int))
def XLglidepathlaw03_ScanDrives_1000015 : XL Yglidepathlaw03_ScanDrives_1000015 := .more Xglidepathlaw03_ScanDrives_1000015a (.one Xglidepathlaw03_ScanDrives_1000015b)
def Iglidepathlaw03_ScanDrives_1000015 (q : Ext × S) : Yglidepathlaw03_ScanDrives_1000015 := bif (cE q.1 == 2) then (Sum.inl (Iglidepathlaw03_ScanDrives_1000015a q)) else (Sum.inr (Iglidepathlaw03_ScanDrives_1000015b q))
theorem XIglidepathlaw03_ScanDrives_1000015a (y : Unit) : Iglidepathlaw03_ScanDrives_1000015 (xe (Xglidepathlaw03_ScanDrives_1000015a y)) = (Sum.inl y) := rfl
theorem XIglidepathlaw03_ScanDrives_1000015b (y : Int × Int × Int × Int × Int × Int) : Iglidepathlaw03_ScanDrives_1000015 (xe (Xglidepathlaw03_ScanDrives_1000015b y)) = (Sum.inr y) := rfl
theorem XIglidepathlaw03_ScanDrives_1000015 (y : Yglidepathlaw03_ScanDrives_1000015) : Iglidepathlaw03_ScanDrives_1000015 (xe (XLglidepathlaw03_ScanDrives_1000015.fn y)) = y := (match y with | .inl y => XIglidepathlaw03_ScanDrives_1000015a y | .inr y => XIglidepathlaw03_ScanDrives_1000015b y)
noncomputable abbrev Lglidepathlaw03_ScanDrives_1000015 : Q → Option Yglidepathlaw03_ScanDrives_1000015 := lpO env a3.body 1000015 XLglidepathlaw03_ScanDrives_1000015
noncomputable abbrev Rglidepathlaw03_ScanDrives_1000015 : Q → Option (Ext × S) := lpR env a3.body 1000015
theorem Lglidepathlaw03_ScanDrives_1000015a_of {s : Q} {y : Unit} (h : Rglidepathlaw03_ScanDrives_1000015 s = exO (Xglidepathlaw03_ScanDrives_1000015a y)) : Lglidepathlaw03_ScanDrives_1000015 s = some (Sum.inl y) := lpO_of Iglidepathlaw03_ScanDrives_1000015 XIglidepathlaw03_ScanDrives_1000015 (y := (Sum.inl y)) h
theorem Lglidepathlaw03_ScanDrives_1000015b_of {s : Q} {y : Int × Int × Int × Int × Int × Int} (h : Rglidepathlaw03_ScanDrives_1000015 s = exO (Xglidepathlaw03_ScanDrives_1000015b y)) : Lglidepathlaw03_ScanDrives_1000015 s = some (Sum.inr y) := lpO_of Iglidepathlaw03_ScanDrives_1000015 XIglidepathlaw03_ScanDrives_1000015 (y := (Sum.inr y)) h
theorem Uglidepathlaw03_ScanDrives : uniq ((blocksOf a3.body).map (·.1)) = true := by kernel_rfl
def Bglidepathlaw03_ScanDrives_1000023a (F : FnT) (N : Q → Option (Ext × S)) (E : Ext × Q → Option (Ext × S)) (L1000023 : Q → Option Yglidepathlaw03_ScanDrives_1000023) (L1000019 : Q → Option Yglidepathlaw03_ScanDrives_1000019) (L1000015 : Q → Option Yglidepathlaw03_ScanDrives_1000015) (i0 : Int) (i1 : Int) (i2 : Int) (i3 : Int) (i4 : Int) (i5 : Int) (i6 : Int) (i7 : Int) (i8 : Int) (i9 : Int) : Option (Ext × S) :=
  bif (i2 == (0 : Int)) then
    bindO (F 17 (RSh.one CK.bool) [(PV.int IntKind.i64 i0), (PV.int IntKind.i64 (0 : Int)), (PV.int IntKind.i64 (1000 : Int))]) fun (y0 : (Bool)) =>
    bif y0 then
      E (Xglidepathlaw03_ScanDrives_1000023a (i0, i1, i2, i3, i4, i5, i6, i7, i8, i9))
    else E (Xglidepathlaw03_ScanDrives_1000023a (i0, i1, (2 : Int), i3, i4, i5, i6, i7, i8, i9))
  else E (Xglidepathlaw03_ScanDrives_1000023a (i0, i1, i2, i3, i4, i5, i6, i7, i8, i9))
theorem Bglidepathlaw03_ScanDrives_1000023a_eq (F : FnT) (N : Q → Option (Ext × S)) (E : Ext × Q → Option (Ext × S)) (L1000023 : Q → Option Yglidepathlaw03_ScanDrives_1000023) (L1000019 : Q → Option Yglidepathlaw03_ScanDrives_1000019) (L1000015 : Q → Option Yglidepathlaw03_ScanDrives_1000015) (i0 : Int) (i1 : Int) (i2 : Int) (i3 : Int) (i4 : Int) (i5 : Int) (i6 : Int) (i7 : Int) (i8 : Int) (i9 : Int) : semN (callP F Eglidepathlaw03_ScanDrives 20) s3 (loopT [⟨1000023, Yglidepathlaw03_ScanDrives_1000023, L1000023, XLglidepathlaw03_ScanDrives_1000023⟩, ⟨1000019, Yglidepathlaw03_ScanDrives_1000019, L1000019, XLglidepathlaw03_ScanDrives_1000019⟩, ⟨1000015, Yglidepathlaw03_ScanDrives_1000015, L1000015, XLglidepathlaw03_ScanDrives_1000015⟩]) 400 (blkIn a3.body 1000023) E (Tglidepathlaw03_ScanDrives_1000023a i0 i1 i2 i3 i4 i5 i6 i7 i8 i9) = Bglidepathlaw03_ScanDrives_1000023a F N E L1000023 L1000019 L1000015 i0 i1 i2 i3 i4 i5 i6 i7 i8 i9 := by kernel_rfl
theorem Rglidepathlaw03_ScanDrives_1000023a_of  (i0 : Int) (i1 : Int) (i2 : Int) (i3 : Int) (i4 : Int) (i5 : Int) (i6 : Int) (i7 : Int) (i8 : Int) (i9 : Int) {r : Ext × S} (h : Bglidepathlaw03_ScanDrives_1000023a (Fn env) Rglidepathlaw03_ScanDrives_1000023 exO Lglidepathlaw03_ScanDrives_1000023 Lglidepathlaw03_ScanDrives_1000019 Lglidepathlaw03_ScanDrives_1000015 i0 i1 i2 i3 i4 i5 i6 i7 i8 i9 = some r) : Rglidepathlaw03_ScanDrives_1000023 (Tglidepathlaw03_ScanDrives_1000023a i0 i1 i2 i3 i4 i5 i6 i7 i8 i9) = some r :=
  nd_of Eglidepathlaw03_ScanDrives_ok (by kernel_rfl) (lo_cons (lpO_ok Uglidepathlaw03_ScanDrives) (lo_cons (lpO_ok Uglidepathlaw03_ScanDrives) (lo_cons (lpO_ok Uglidepathlaw03_ScanDrives) lo_nil))) (by kernel_rfl) ((Bglidepathlaw03_ScanDrives_1000023a_eq _ Rglidepathlaw03_ScanDrives_1000023 _ _ _ _ _ _ _ _ _ _ _ _ _ _).trans h)
def Bglidepathlaw03_ScanDrives_1000019a (F : FnT) (N : Q → Option (Ext × S)) (E : Ext × Q → Option (Ext × S)) (L1000023 : Q → Option Yglidepathlaw03_ScanDrives_1000023) (L1000019 : Q → Option Yglidepathlaw03_ScanDrives_1000019) (L1000015 : Q → Option Yglidepathlaw03_ScanDrives_1000015) (i0 : Int) (i1 : Int) (i2 : Int) (i3 : Int) (i4 : Int) (i5 : Int) (i6 : Int) (i7 : Int) (i8 : Int) (i9 : Int) : Option (Ext × S) :=
  bif (i7 == (0 : Int)) then
    bindO (F 17 (RSh.one CK.bool) [(PV.int IntKind.i64 i1), (PV.int IntKind.i64 (0 : Int)), (PV.int IntKind.i64 (360 : Int))]) fun (y0 : (Bool)) =>
    bif y0 then
      E (Xglidepathlaw03_ScanDrives_1000019a (i0, i1, i2, i3, i4, i5, i6, i7, i8, i9))
    else E (Xglidepathlaw03_ScanDrives_1000019a (i0, i1, i2, i3, i4, i5, i6, (2 : Int), i8, i9))
  else E (Xglidepathlaw03_ScanDrives_1000019a (i0, i1, i2, i3, i4, i5, i6, i7, i8, i9))
theorem Bglidepathlaw03_ScanDrives_1000019a_eq (F : FnT) (N : Q → Option (Ext × S)) (E : Ext × Q → Option (Ext × S)) (L1000023 : Q → Option Yglidepathlaw03_ScanDrives_1000023) (L1000019 : Q → Option Yglidepathlaw03_ScanDrives_1000019) (L1000015 : Q → Option Yglidepathlaw03_ScanDrives_1000015) (i0 : Int) (i1 : Int) (i2 : Int) (i3 : Int) (i4 : Int) (i5 : Int) (i6 : Int) (i7 : Int) (i8 : Int) (i9 : Int) : semN (callP F Eglidepathlaw03_ScanDrives 20) s3 (loopT [⟨1000023, Yglidepathlaw03_ScanDrives_1000023, L1000023, XLglidepathlaw03_ScanDrives_1000023⟩, ⟨1000019, Yglidepathlaw03_ScanDrives_1000019, L1000019, XLglidepathlaw03_ScanDrives_1000019⟩, ⟨1000015, Yglidepathlaw03_ScanDrives_1000015, L1000015, XLglidepathlaw03_ScanDrives_1000015⟩]) 400 (blkIn a3.body 1000019) E (Tglidepathlaw03_ScanDrives_1000019a i0 i1 i2 i3 i4 i5 i6 i7 i8 i9) = Bglidepathlaw03_ScanDrives_1000019a F N E L1000023 L1000019 L1000015 i0 i1 i2 i3 i4 i5 i6 i7 i8 i9 := by kernel_rfl
theorem Rglidepathlaw03_ScanDrives_1000019a_of  (i0 : Int) (i1 : Int) (i2 : Int) (i3 : Int) (i4 : Int) (i5 : Int) (i6 : Int) (i7 : Int) (i8 : Int) (i9 : Int) {r : Ext × S} (h : Bglidepathlaw03_ScanDrives_1000019a (Fn env) Rglidepathlaw03_ScanDrives_1000019 exO Lglidepathlaw03_ScanDrives_1000023 Lglidepathlaw03_ScanDrives_1000019 Lglidepathlaw03_ScanDrives_1000015 i0 i1 i2 i3 i4 i5 i6 i7 i8 i9 = some r) : Rglidepathlaw03_ScanDrives_1000019 (Tglidepathlaw03_ScanDrives_1000019a i0 i1 i2 i3 i4 i5 i6 i7 i8 i9) = some r :=
  nd_of Eglidepathlaw03_ScanDrives_ok (by kernel_rfl) (lo_cons (lpO_ok Uglidepathlaw03_ScanDrives) (lo_cons (lpO_ok Uglidepathlaw03_ScanDrives) (lo_cons (lpO_ok Uglidepathlaw03_ScanDrives) lo_nil))) (by kernel_rfl) ((Bglidepathlaw03_ScanDrives_1000019a_eq _ Rglidepathlaw03_ScanDrives_1000019 _ _ _ _ _ _ _ _ _ _ _ _ _ _).trans h)
def Bglidepathlaw03_ScanDrives_1000015a (F : FnT) (N : Q → Option (Ext × S)) (E : Ext × Q → Option (Ext × S)) (L1000023 : Q → Option Yglidepathlaw03_ScanDrives_1000023) (L1000019 : Q → Option Yglidepathlaw03_ScanDrives_1000019) (L1000015 : Q → Option Yglidepathlaw03_ScanDrives_1000015) (i0 : Int) (i1 : Int) (i2 : Int) (i3 : Int) (i4 : Int) (i5 : Int) (i6 : Int) (i7 : Int) (i8 : Int) (i9 : Int) : Option (Ext × S) :=
  bif (i2 != (0 : Int)) then
    bif (i4 != i2) then
      E (Xglidepathlaw03_ScanDrives_1000015a ())
    else bif (i3 != (0 : Int)) then
      E (Xglidepathlaw03_ScanDrives_1000015a ())
    else bif (i2 == (0 : Int)) then
      bif (i4 != (0 : Int)) then
        E (Xglidepathlaw03_ScanDrives_1000015a ())
      else bindO (F 18 (RSh.one (CK.int IntKind.i64)) [(PV.agg [(PV.int IntKind.i64 i8), (PV.int IntKind.i64 i9)]), (PV.int IntKind.i64 i0)]) fun (y0 : (Int)) =>
      bif (i3 != y0) then
        E (Xglidepathlaw03_ScanDrives_1000015a ())
      else E (Xglidepathlaw03_ScanDrives_1000015b (i1, i5, i6, i7, i8, i9))
    else E (Xglidepathlaw03_ScanDrives_1000015b (i1, i5, i6, i7, i8, i9))
  else bif (i2 == (0 : Int)) then
    bif (i4 != (0 : Int)) then
      E (Xglidepathlaw03_ScanDrives_1000015a ())
    else bindO (F 18 (RSh.one (CK.int IntKind.i64)) [(PV.agg [(PV.int IntKind.i64 i8), (PV.int IntKind.i64 i9)]), (PV.int IntKind.i64 i0)]) fun (y1 : (Int)) =>
    bif (i3 != y1) then
      E (Xglidepathlaw03_ScanDrives_1000015a ())
    else E (Xglidepathlaw03_ScanDrives_1000015b (i1, i5, i6, i7, i8, i9))
  else E (Xglidepathlaw03_ScanDrives_1000015b (i1, i5, i6, i7, i8, i9))
theorem Bglidepathlaw03_ScanDrives_1000015a_eq (F : FnT) (N : Q → Option (Ext × S)) (E : Ext × Q → Option (Ext × S)) (L1000023 : Q → Option Yglidepathlaw03_ScanDrives_1000023) (L1000019 : Q → Option Yglidepathlaw03_ScanDrives_1000019) (L1000015 : Q → Option Yglidepathlaw03_ScanDrives_1000015) (i0 : Int) (i1 : Int) (i2 : Int) (i3 : Int) (i4 : Int) (i5 : Int) (i6 : Int) (i7 : Int) (i8 : Int) (i9 : Int) : semN (callP F Eglidepathlaw03_ScanDrives 20) s3 (loopT [⟨1000023, Yglidepathlaw03_ScanDrives_1000023, L1000023, XLglidepathlaw03_ScanDrives_1000023⟩, ⟨1000019, Yglidepathlaw03_ScanDrives_1000019, L1000019, XLglidepathlaw03_ScanDrives_1000019⟩, ⟨1000015, Yglidepathlaw03_ScanDrives_1000015, L1000015, XLglidepathlaw03_ScanDrives_1000015⟩]) 400 (blkIn a3.body 1000015) E (Tglidepathlaw03_ScanDrives_1000015a i0 i1 i2 i3 i4 i5 i6 i7 i8 i9) = Bglidepathlaw03_ScanDrives_1000015a F N E L1000023 L1000019 L1000015 i0 i1 i2 i3 i4 i5 i6 i7 i8 i9 := by kernel_rfl
theorem Rglidepathlaw03_ScanDrives_1000015a_of  (i0 : Int) (i1 : Int) (i2 : Int) (i3 : Int) (i4 : Int) (i5 : Int) (i6 : Int) (i7 : Int) (i8 : Int) (i9 : Int) {r : Ext × S} (h : Bglidepathlaw03_ScanDrives_1000015a (Fn env) Rglidepathlaw03_ScanDrives_1000015 exO Lglidepathlaw03_ScanDrives_1000023 Lglidepathlaw03_ScanDrives_1000019 Lglidepathlaw03_ScanDrives_1000015 i0 i1 i2 i3 i4 i5 i6 i7 i8 i9 = some r) : Rglidepathlaw03_ScanDrives_1000015 (Tglidepathlaw03_ScanDrives_1000015a i0 i1 i2 i3 i4 i5 i6 i7 i8 i9) = some r :=
  nd_of Eglidepathlaw03_ScanDrives_ok (by kernel_rfl) (lo_cons (lpO_ok Uglidepathlaw03_ScanDrives) (lo_cons (lpO_ok Uglidepathlaw03_ScanDrives) (lo_cons (lpO_ok Uglidepathlaw03_ScanDrives) lo_nil))) (by kernel_rfl) ((Bglidepathlaw03_ScanDrives_1000015a_eq _ Rglidepathlaw03_ScanDrives_1000015 _ _ _ _ _ _ _ _ _ _ _ _ _ _).trans h)
def tglidepathlaw03_ScanDrives (F : FnT) (L1000023 : Q → Option Yglidepathlaw03_ScanDrives_1000023) (L1000019 : Q → Option Yglidepathlaw03_ScanDrives_1000019) (L1000015 : Q → Option Yglidepathlaw03_ScanDrives_1000015) (p0_0 : Int) (p0_1 : Int) (p1 : Int) (p2 : Int) : Option (Bool) :=
  bindO (F 12 (RSh.one CK.bool) []) fun (y0 : (Bool)) =>
  bif y0 then
    bindO (F 13 (RSh.one (CK.int IntKind.i64)) [(PV.agg [(PV.int IntKind.i64 p0_0), (PV.int IntKind.i64 p0_1)])]) fun (y1 : (Int)) =>
    bindO (F 14 (RSh.tup [(Prod.mk false [(CK.int IntKind.i64)]), (Prod.mk false [(CK.int IntKind.i64)])]) [(PV.agg [(PV.int IntKind.i64 p0_0), (PV.int IntKind.i64 p0_1)]), (PV.int IntKind.i64 p1)]) fun (y2 : ((Int) × (Int))) =>
    bindO (F 15 (RSh.tup [(Prod.mk false [(CK.int IntKind.i64)]), (Prod.mk false [(CK.int IntKind.i64)])]) [(PV.agg [(PV.int IntKind.i64 p0_0), (PV.int IntKind.i64 p0_1)]), (PV.int IntKind.i64 p2)]) fun (y3 : ((Int) × (Int))) =>
    bindO (F 16 (RSh.one (CK.int IntKind.i64)) [(PV.agg [(PV.int IntKind.i64 p0_0), (PV.int IntKind.i64 p0_1)])]) fun (y4 : (Int)) =>
    bif (y4 != y1) then
      some false
    else bindO (L1000023 (Tglidepathlaw03_ScanDrives_1000023a p1 p2 y1 y2.1 y2.2 y3.1 y3.2 y1 p0_0 p0_1)) fun y5 =>
    bindO (L1000019 (Tglidepathlaw03_ScanDrives_1000019a y5.1 y5.2.1 y5.2.2.1 y5.2.2.2.1 y5.2.2.2.2.1 y5.2.2.2.2.2.1 y5.2.2.2.2.2.2.1 y5.2.2.2.2.2.2.2.1 y5.2.2.2.2.2.2.2.2.1 y5.2.2.2.2.2.2.2.2.2)) fun y6 =>
    bindO (L1000015 (Tglidepathlaw03_ScanDrives_1000015a y6.1 y6.2.1 y6.2.2.1 y6.2.2.2.1 y6.2.2.2.2.1 y6.2.2.2.2.2.1 y6.2.2.2.2.2.2.1 y6.2.2.2.2.2.2.2.1 y6.2.2.2.2.2.2.2.2.1 y6.2.2.2.2.2.2.2.2.2)) fun z =>
    Sum.elim (fun y7 =>
      some false) (fun y8 =>
      bif (y8.2.2.2.1 != (0 : Int)) then
        bif (y8.2.2.1 == y8.2.2.2.1) then
          bif (y8.2.1 == (0 : Int)) then
            some true
          else some false
        else some false
      else bif (y8.2.2.1 == (0 : Int)) then
        bindO (F 19 (RSh.one (CK.int IntKind.i64)) [(PV.agg [(PV.int IntKind.i64 y8.2.2.2.2.1), (PV.int IntKind.i64 y8.2.2.2.2.2)]), (PV.int IntKind.i64 y8.1)]) fun (y9 : (Int)) =>
        bif (y8.2.1 == y9) then
          some true
        else some false
      else some false) z
  else some false
theorem tglidepathlaw03_ScanDrives_eq (F : FnT) (L1000023 : Q → Option Yglidepathlaw03_ScanDrives_1000023) (L1000019 : Q → Option Yglidepathlaw03_ScanDrives_1000019) (L1000015 : Q → Option Yglidepathlaw03_ScanDrives_1000015) (p0_0 : Int) (p0_1 : Int) (p1 : Int) (p2 : Int) : semF (callP F Eglidepathlaw03_ScanDrives 20) s3 (loopT [⟨1000023, Yglidepathlaw03_ScanDrives_1000023, L1000023, XLglidepathlaw03_ScanDrives_1000023⟩, ⟨1000019, Yglidepathlaw03_ScanDrives_1000019, L1000019, XLglidepathlaw03_ScanDrives_1000019⟩, ⟨1000015, Yglidepathlaw03_ScanDrives_1000015, L1000015, XLglidepathlaw03_ScanDrives_1000015⟩]) 400 a3 [PV.agg [PV.int IntKind.i64 p0_0, PV.int IntKind.i64 p0_1], PV.int IntKind.i64 p1, PV.int IntKind.i64 p2] (fun rv => decR (RSh.one CK.bool) rv.pv) = tglidepathlaw03_ScanDrives F L1000023 L1000019 L1000015 p0_0 p0_1 p1 p2 := by kernel_rfl
noncomputable abbrev Fglidepathlaw03_ScanDrives (args : List PV) := Fn env 3 (RSh.one CK.bool) args
theorem Fglidepathlaw03_ScanDrives_of  (p0_0 : Int) (p0_1 : Int) (p1 : Int) (p2 : Int) {res : (Bool)} (h : tglidepathlaw03_ScanDrives (Fn env) Lglidepathlaw03_ScanDrives_1000023 Lglidepathlaw03_ScanDrives_1000019 Lglidepathlaw03_ScanDrives_1000015 p0_0 p0_1 p1 p2 = some res) : Fglidepathlaw03_ScanDrives [PV.agg [PV.int IntKind.i64 p0_0, PV.int IntKind.i64 p0_1], PV.int IntKind.i64 p1, PV.int IntKind.i64 p2] = some res :=
  fn_of Eglidepathlaw03_ScanDrives_ok rfl rfl (lo_cons (lpO_ok Uglidepathlaw03_ScanDrives) (lo_cons (lpO_ok Uglidepathlaw03_ScanDrives) (lo_cons (lpO_ok Uglidepathlaw03_ScanDrives) lo_nil))) ((tglidepathlaw03_ScanDrives_eq _ _ _ _ _ _ _ _).trans h)

end Gv
