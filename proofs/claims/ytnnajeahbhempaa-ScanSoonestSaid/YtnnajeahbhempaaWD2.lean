/- ScanSoonest holds: whatever the drive and the distance, the law answers true. It has no further condition. -/
import Derived.Test.YtnnajeahbhempaaPO2
import Derived.Test.YtnnajeahbhempaaSS2
import Derived.Test.YtnnajeahbhempaaGvZ

/- What the functions do, round by round: SP3. -/
namespace Gv
open Go
set_option maxRecDepth 100000

/-! ### glidepathlaw03_ScanSoonest -/

def Eglidepathlaw03_ScanSoonest : List Entry := [.out 12 (RSh.one CK.bool), .out 13 (RSh.one (CK.int IntKind.i64)), .out 17 (RSh.one CK.bool), .out 15 (RSh.tup [(Prod.mk false [(CK.int IntKind.i64)]), (Prod.mk false [(CK.int IntKind.i64)])]), .out 14 (RSh.tup [(Prod.mk false [(CK.int IntKind.i64)]), (Prod.mk false [(CK.int IntKind.i64)])])]
theorem Eglidepathlaw03_ScanSoonest_ok : ∀ e ∈ Eglidepathlaw03_ScanSoonest, EntOK env e := (ent_out (ent_out (ent_out (ent_out (ent_out ent_nil)))))
def Tglidepathlaw03_ScanSoonest_1000043a (i0 : Int) (i1 : Int) (i2 : Int) : Q := ⟨(tm 147 [(1, (AV.p (PV.int IntKind.i64 i0))), (2, (AV.loc 2 0))]), (mm 147 [(2, (Bk.pcs true [(PV.int IntKind.i64 i1), (PV.int IntKind.i64 i2)]))])⟩
def Xglidepathlaw03_ScanSoonest_1000043a (_y : Unit) : Ext × Q := (Ext.ret, ⟨(tm 147 [(4, (AV.p (PV.bool true)))]), (mm 147 [])⟩)
def Iglidepathlaw03_ScanSoonest_1000043a (_q : Ext × S) : Unit := ()
def Xglidepathlaw03_ScanSoonest_1000043b (y : Int × Int × Int) : Ext × Q := (Ext.normal, ⟨(tm 147 [(1, (AV.p (PV.int IntKind.i64 y.1))), (2, (AV.loc 2 0))]), (mm 147 [(2, (Bk.pcs true [(PV.int IntKind.i64 y.2.1), (PV.int IntKind.i64 y.2.2)]))])⟩)
def Iglidepathlaw03_ScanSoonest_1000043b (q : Ext × S) : Int × Int × Int := ((pP_int1 (pA_p (avT q.2 1))), (pP_int1 (hdP (pB_pcs1 (avM q.2 2)))), (pP_int1 (hdP (List.tail (pB_pcs1 (avM q.2 2))))))
abbrev Yglidepathlaw03_ScanSoonest_1000043 : Type := (Unit) ⊕ ((Int × Int × Int))
def XLglidepathlaw03_ScanSoonest_1000043 : XL Yglidepathlaw03_ScanSoonest_1000043 := .more Xglidepathlaw03_ScanSoonest_1000043a (.one Xglidepathlaw03_ScanSoonest_1000043b)
def Iglidepathlaw03_ScanSoonest_1000043 (q : Ext × S) : Yglidepathlaw03_ScanSoonest_1000043 := bif (cE q.1 == 2) then (Sum.inl (Iglidepathlaw03_ScanSoonest_1000043a q)) else (Sum.inr (Iglidepathlaw03_ScanSoonest_1000043b q))
theorem XIglidepathlaw03_ScanSoonest_1000043a (y : Unit) : Iglidepathlaw03_ScanSoonest_1000043 (xe (Xglidepathlaw03_ScanSoonest_1000043a y)) = (Sum.inl y) := rfl
theorem XIglidepathlaw03_ScanSoonest_1000043b (y : Int × Int × Int) : Iglidepathlaw03_ScanSoonest_1000043 (xe (Xglidepathlaw03_ScanSoonest_1000043b y)) = (Sum.inr y) := rfl
theorem XIglidepathlaw03_ScanSoonest_1000043 (y : Yglidepathlaw03_ScanSoonest_1000043) : Iglidepathlaw03_ScanSoonest_1000043 (xe (XLglidepathlaw03_ScanSoonest_1000043.fn y)) = y := (match y with | .inl y => XIglidepathlaw03_ScanSoonest_1000043a y | .inr y => XIglidepathlaw03_ScanSoonest_1000043b y)
noncomputable abbrev Lglidepathlaw03_ScanSoonest_1000043 : Q → Option Yglidepathlaw03_ScanSoonest_1000043 := lpO env a4.body 1000043 XLglidepathlaw03_ScanSoonest_1000043
noncomputable abbrev Rglidepathlaw03_ScanSoonest_1000043 : Q → Option (Ext × S) := lpR env a4.body 1000043
theorem Lglidepathlaw03_ScanSoonest_1000043a_of {s : Q} {y : Unit} (h : Rglidepathlaw03_ScanSoonest_1000043 s = exO (Xglidepathlaw03_ScanSoonest_1000043a y)) : Lglidepathlaw03_ScanSoonest_1000043 s = some (Sum.inl y) := lpO_of Iglidepathlaw03_ScanSoonest_1000043 XIglidepathlaw03_ScanSoonest_1000043 (y := (Sum.inl y)) h
theorem Lglidepathlaw03_ScanSoonest_1000043b_of {s : Q} {y : Int × Int × Int} (h : Rglidepathlaw03_ScanSoonest_1000043 s = exO (Xglidepathlaw03_ScanSoonest_1000043b y)) : Lglidepathlaw03_ScanSoonest_1000043 s = some (Sum.inr y) := lpO_of Iglidepathlaw03_ScanSoonest_1000043 XIglidepathlaw03_ScanSoonest_1000043 (y := (Sum.inr y)) h
def Tglidepathlaw03_ScanSoonest_1000034a (i0 : Int) (i1 : Int) (i2 : Int) (i3 : Int) (i4 : Int) : Q := ⟨(tm 147 [(1, (AV.p (PV.int IntKind.i64 i0))), (2, (AV.loc 2 0)), (5, (AV.p (PV.int IntKind.i64 i1))), (6, (AV.p (PV.int IntKind.i64 i2)))]), (mm 147 [(2, (Bk.pcs true [(PV.int IntKind.i64 i3), (PV.int IntKind.i64 i4)]))])⟩
def Xglidepathlaw03_ScanSoonest_1000034a (_y : Unit) : Ext × Q := (Ext.ret, ⟨(tm 147 [(4, (AV.p (PV.bool false)))]), (mm 147 [])⟩)
def Iglidepathlaw03_ScanSoonest_1000034a (_q : Ext × S) : Unit := ()
def Xglidepathlaw03_ScanSoonest_1000034b (y : Int × Int × Int × Int) : Ext × Q := (Ext.normal, ⟨(tm 147 [(1, (AV.p (PV.int IntKind.i64 y.1))), (2, (AV.loc 2 0)), (5, (AV.p (PV.int IntKind.i64 y.2.1)))]), (mm 147 [(2, (Bk.pcs true [(PV.int IntKind.i64 y.2.2.1), (PV.int IntKind.i64 y.2.2.2)]))])⟩)
def Iglidepathlaw03_ScanSoonest_1000034b (q : Ext × S) : Int × Int × Int × Int := ((pP_int1 (pA_p (avT q.2 1))), (pP_int1 (pA_p (avT q.2 5))), (pP_int1 (hdP (pB_pcs1 (avM q.2 2)))), (pP_int1 (hdP (List.tail (pB_pcs1 (avM q.2 2))))))
abbrev Yglidepathlaw03_ScanSoonest_1000034 : Type := (Unit) ⊕ ((Int × Int × Int × Int))
def XLglidepathlaw03_ScanSoonest_1000034 : XL Yglidepathlaw03_ScanSoonest_1000034 := .more Xglidepathlaw03_ScanSoonest_1000034a (.one Xglidepathlaw03_ScanSoonest_1000034b)
def Iglidepathlaw03_ScanSoonest_1000034 (q : Ext × S) : Yglidepathlaw03_ScanSoonest_1000034 := bif (cE q.1 == 2) then (Sum.inl (Iglidepathlaw03_ScanSoonest_1000034a q)) else (Sum.inr (Iglidepathlaw03_ScanSoonest_1000034b q))
theorem XIglidepathlaw03_ScanSoonest_1000034a (y : Unit) : Iglidepathlaw03_ScanSoonest_1000034 (xe (Xglidepathlaw03_ScanSoonest_1000034a y)) = (Sum.inl y) := rfl
theorem XIglidepathlaw03_ScanSoonest_1000034b (y : Int × Int × Int × Int) : Iglidepathlaw03_ScanSoonest_1000034 (xe (Xglidepathlaw03_ScanSoonest_1000034b y)) = (Sum.inr y) := rfl
theorem XIglidepathlaw03_ScanSoonest_1000034 (y : Yglidepathlaw03_ScanSoonest_1000034) : Iglidepathlaw03_ScanSoonest_1000034 (xe (XLglidepathlaw03_ScanSoonest_1000034.fn y)) = y := (match y with | .inl y => XIglidepathlaw03_ScanSoonest_1000034a y | .inr y => XIglidepathlaw03_ScanSoonest_1000034b y)
noncomputable abbrev Lglidepathlaw03_ScanSoonest_1000034 : Q → Option Yglidepathlaw03_ScanSoonest_1000034 := lpO env a4.body 1000034 XLglidepathlaw03_ScanSoonest_1000034
noncomputable abbrev Rglidepathlaw03_ScanSoonest_1000034 : Q → Option (Ext × S) := lpR env a4.body 1000034
theorem Lglidepathlaw03_ScanSoonest_1000034a_of {s : Q} {y : Unit} (h : Rglidepathlaw03_ScanSoonest_1000034 s = exO (Xglidepathlaw03_ScanSoonest_1000034a y)) : Lglidepathlaw03_ScanSoonest_1000034 s = some (Sum.inl y) := lpO_of Iglidepathlaw03_ScanSoonest_1000034 XIglidepathlaw03_ScanSoonest_1000034 (y := (Sum.inl y)) h
theorem Lglidepathlaw03_ScanSoonest_1000034b_of {s : Q} {y : Int × Int × Int × Int} (h : Rglidepathlaw03_ScanSoonest_1000034 s = exO (Xglidepathlaw03_ScanSoonest_1000034b y)) : Lglidepathlaw03_ScanSoonest_1000034 s = some (Sum.inr y) := lpO_of Iglidepathlaw03_ScanSoonest_1000034 XIglidepathlaw03_ScanSoonest_1000034 (y := (Sum.inr y)) h
def Tglidepathlaw03_ScanSoonest_1000025a (i0 : Int) (i1 : Int) (i2 : Int) (i3 : Int) (i4 : Int) (i5 : Int) : Q := ⟨(tm 147 [(1, (AV.p (PV.int IntKind.i64 i0))), (2, (AV.loc 2 0)), (5, (AV.p (PV.int IntKind.i64 i1))), (7, (AV.p (PV.int IntKind.i64 i2))), (8, (AV.p (PV.int IntKind.i64 i3)))]), (mm 147 [(2, (Bk.pcs true [(PV.int IntKind.i64 i4), (PV.int IntKind.i64 i5)]))])⟩
def Xglidepathlaw03_ScanSoonest_1000025a (_y : Unit) : Ext × Q := (Ext.ret, ⟨(tm 147 [(4, (AV.p (PV.bool false)))]), (mm 147 [])⟩)
def Iglidepathlaw03_ScanSoonest_1000025a (_q : Ext × S) : Unit := ()
def Xglidepathlaw03_ScanSoonest_1000025b (y : Int × Int × Int × Int) : Ext × Q := (Ext.normal, ⟨(tm 147 [(1, (AV.p (PV.int IntKind.i64 y.1))), (2, (AV.loc 2 0)), (5, (AV.p (PV.int IntKind.i64 y.2.1)))]), (mm 147 [(2, (Bk.pcs true [(PV.int IntKind.i64 y.2.2.1), (PV.int IntKind.i64 y.2.2.2)]))])⟩)
def Iglidepathlaw03_ScanSoonest_1000025b (q : Ext × S) : Int × Int × Int × Int := ((pP_int1 (pA_p (avT q.2 1))), (pP_int1 (pA_p (avT q.2 5))), (pP_int1 (hdP (pB_pcs1 (avM q.2 2)))), (pP_int1 (hdP (List.tail (pB_pcs1 (avM q.2 2))))))
abbrev Yglidepathlaw03_ScanSoonest_1000025 : Type := (Unit) ⊕ ((Int × Int × Int × Int))
def XLglidepathlaw03_ScanSoonest_1000025 : XL Yglidepathlaw03_ScanSoonest_1000025 := .more Xglidepathlaw03_ScanSoonest_1000025a (.one Xglidepathlaw03_ScanSoonest_1000025b)
def Iglidepathlaw03_ScanSoonest_1000025 (q : Ext × S) : Yglidepathlaw03_ScanSoonest_1000025 := bif (cE q.1 == 2) then (Sum.inl (Iglidepathlaw03_ScanSoonest_1000025a q)) else (Sum.inr (Iglidepathlaw03_ScanSoonest_1000025b q))
theorem XIglidepathlaw03_ScanSoonest_1000025a (y : Unit) : Iglidepathlaw03_ScanSoonest_1000025 (xe (Xglidepathlaw03_ScanSoonest_1000025a y)) = (Sum.inl y) := rfl
theorem XIglidepathlaw03_ScanSoonest_1000025b (y : Int × Int × Int × Int) : Iglidepathlaw03_ScanSoonest_1000025 (xe (Xglidepathlaw03_ScanSoonest_1000025b y)) = (Sum.inr y) := rfl
theorem XIglidepathlaw03_ScanSoonest_1000025 (y : Yglidepathlaw03_ScanSoonest_1000025) : Iglidepathlaw03_ScanSoonest_1000025 (xe (XLglidepathlaw03_ScanSoonest_1000025.fn y)) = y := (match y with | .inl y => XIglidepathlaw03_ScanSoonest_1000025a y | .inr y => XIglidepathlaw03_ScanSoonest_1000025b y)
noncomputable abbrev Lglidepathlaw03_ScanSoonest_1000025 : Q → Option Yglidepathlaw03_ScanSoonest_1000025 := lpO env a4.body 1000025 XLglidepathlaw03_ScanSoonest_1000025
noncomputable abbrev Rglidepathlaw03_ScanSoonest_1000025 : Q → Option (Ext × S) := lpR env a4.body 1000025
theorem Lglidepathlaw03_ScanSoonest_1000025a_of {s : Q} {y : Unit} (h : Rglidepathlaw03_ScanSoonest_1000025 s = exO (Xglidepathlaw03_ScanSoonest_1000025a y)) : Lglidepathlaw03_ScanSoonest_1000025 s = some (Sum.inl y) := lpO_of Iglidepathlaw03_ScanSoonest_1000025 XIglidepathlaw03_ScanSoonest_1000025 (y := (Sum.inl y)) h
theorem Lglidepathlaw03_ScanSoonest_1000025b_of {s : Q} {y : Int × Int × Int × Int} (h : Rglidepathlaw03_ScanSoonest_1000025 s = exO (Xglidepathlaw03_ScanSoonest_1000025b y)) : Lglidepathlaw03_ScanSoonest_1000025 s = some (Sum.inr y) := lpO_of Iglidepathlaw03_ScanSoonest_1000025 XIglidepathlaw03_ScanSoonest_1000025 (y := (Sum.inr y)) h
def Tglidepathlaw03_ScanSoonest_1000018a (i0 : Int) (i1 : Int) (i2 : Int) (i3 : Int) : Q := ⟨(tm 147 [(1, (AV.p (PV.int IntKind.i64 i0))), (2, (AV.loc 2 0)), (5, (AV.p (PV.int IntKind.i64 i1)))]), (mm 147 [(2, (Bk.pcs true [(PV.int IntKind.i64 i2), (PV.int IntKind.i64 i3)]))])⟩
def Xglidepathlaw03_ScanSoonest_1000018a (_y : Unit) : Ext × Q := (Ext.ret, ⟨(tm 147 [(4, (AV.p (PV.bool false)))]), (mm 147 [])⟩)
def Iglidepathlaw03_ScanSoonest_1000018a (_q : Ext × S) : Unit := ()
def Xglidepathlaw03_ScanSoonest_1000018b (y : Int × Int × Int × Int) : Ext × Q := (Ext.normal, ⟨(tm 147 [(1, (AV.p (PV.int IntKind.i64 y.1))), (2, (AV.loc 2 0)), (5, (AV.p (PV.int IntKind.i64 y.2.1)))]), (mm 147 [(2, (Bk.pcs true [(PV.int IntKind.i64 y.2.2.1), (PV.int IntKind.i64 y.2.2.2)]))])⟩)
def Iglidepathlaw03_ScanSoonest_1000018b (q : Ext × S) : Int × Int × Int × Int := ((pP_int1 (pA_p (avT q.2 1))), (pP_int1 (pA_p (avT q.2 5))), (pP_int1 (hdP (pB_pcs1 (avM q.2 2)))), (pP_int1 (hdP (List.tail (pB_pcs1 (avM q.2 2))))))
abbrev Yglidepathlaw03_ScanSoonest_1000018 : Type := (Unit) ⊕ ((Int × Int × Int × Int))
def XLglidepathlaw03_ScanSoonest_1000018 : XL Yglidepathlaw03_ScanSoonest_1000018 := .more Xglidepathlaw03_ScanSoonest_1000018a (.one Xglidepathlaw03_ScanSoonest_1000018b)
def Iglidepathlaw03_ScanSoonest_1000018 (q : Ext × S) : Yglidepathlaw03_ScanSoonest_1000018 := bif (cE q.1 == 2) then (Sum.inl (Iglidepathlaw03_ScanSoonest_1000018a q)) else (Sum.inr (Iglidepathlaw03_ScanSoonest_1000018b q))
theorem XIglidepathlaw03_ScanSoonest_1000018a (y : Unit) : Iglidepathlaw03_ScanSoonest_1000018 (xe (Xglidepathlaw03_ScanSoonest_1000018a y)) = (Sum.inl y) := rfl
theorem XIglidepathlaw03_ScanSoonest_1000018b (y : Int × Int × Int × Int) : Iglidepathlaw03_ScanSoonest_1000018 (xe (Xglidepathlaw03_ScanSoonest_1000018b y)) = (Sum.inr y) := rfl
theorem XIglidepathlaw03_ScanSoonest_1000018 (y : Yglidepathlaw03_ScanSoonest_1000018) : Iglidepathlaw03_ScanSoonest_1000018 (xe (XLglidepathlaw03_ScanSoonest_1000018.fn y)) = y := (match y with | .inl y => XIglidepathlaw03_ScanSoonest_1000018a y | .inr y => XIglidepathlaw03_ScanSoonest_1000018b y)
noncomputable abbrev Lglidepathlaw03_ScanSoonest_1000018 : Q → Option Yglidepathlaw03_ScanSoonest_1000018 := lpO env a4.body 1000018 XLglidepathlaw03_ScanSoonest_1000018
noncomputable abbrev Rglidepathlaw03_ScanSoonest_1000018 : Q → Option (Ext × S) := lpR env a4.body 1000018
theorem Lglidepathlaw03_ScanSoonest_1000018a_of {s : Q} {y : Unit} (h : Rglidepathlaw03_ScanSoonest_1000018 s = exO (Xglidepathlaw03_ScanSoonest_1000018a y)) : Lglidepathlaw03_ScanSoonest_1000018 s = some (Sum.inl y) := lpO_of Iglidepathlaw03_ScanSoonest_1000018 XIglidepathlaw03_ScanSoonest_1000018 (y := (Sum.inl y)) h
theorem Lglidepathlaw03_ScanSoonest_1000018b_of {s : Q} {y : Int × Int × Int × Int} (h : Rglidepathlaw03_ScanSoonest_1000018 s = exO (Xglidepathlaw03_ScanSoonest_1000018b y)) : Lglidepathlaw03_ScanSoonest_1000018 s = some (Sum.inr y) := lpO_of Iglidepathlaw03_ScanSoonest_1000018 XIglidepathlaw03_ScanSoonest_1000018 (y := (Sum.inr y)) h
theorem Uglidepathlaw03_ScanSoonest : uniq ((blocksOf a4.body).map (·.1)) = true := by kernel_rfl
def Bglidepathlaw03_ScanSoonest_1000043a (F : FnT) (_N : Q → Option (Ext × S)) (E : Ext × Q → Option (Ext × S)) (_L1000043 : Q → Option Yglidepathlaw03_ScanSoonest_1000043) (_L1000034 : Q → Option Yglidepathlaw03_ScanSoonest_1000034) (_L1000025 : Q → Option Yglidepathlaw03_ScanSoonest_1000025) (_L1000018 : Q → Option Yglidepathlaw03_ScanSoonest_1000018) (i0 : Int) (i1 : Int) (i2 : Int) : Option (Ext × S) :=
  bindO (F 13 (RSh.one (CK.int IntKind.i64)) [(PV.agg [(PV.int IntKind.i64 i1), (PV.int IntKind.i64 i2)])]) fun (y0 : (Int)) =>
  bif (y0 != (0 : Int)) then
    E (Xglidepathlaw03_ScanSoonest_1000043a ())
  else bindO (F 17 (RSh.one CK.bool) [(PV.int IntKind.i64 i0), (PV.int IntKind.i64 (0 : Int)), (PV.int IntKind.i64 (360 : Int))]) fun (y1 : (Bool)) =>
  bif y1 then
    E (Xglidepathlaw03_ScanSoonest_1000043b (i0, i1, i2))
  else E (Xglidepathlaw03_ScanSoonest_1000043a ())
theorem Bglidepathlaw03_ScanSoonest_1000043a_eq (F : FnT) (N : Q → Option (Ext × S)) (E : Ext × Q → Option (Ext × S)) (L1000043 : Q → Option Yglidepathlaw03_ScanSoonest_1000043) (L1000034 : Q → Option Yglidepathlaw03_ScanSoonest_1000034) (L1000025 : Q → Option Yglidepathlaw03_ScanSoonest_1000025) (L1000018 : Q → Option Yglidepathlaw03_ScanSoonest_1000018) (i0 : Int) (i1 : Int) (i2 : Int) : semN (callP F Eglidepathlaw03_ScanSoonest 20) s4 (loopT [⟨1000043, Yglidepathlaw03_ScanSoonest_1000043, L1000043, XLglidepathlaw03_ScanSoonest_1000043⟩, ⟨1000034, Yglidepathlaw03_ScanSoonest_1000034, L1000034, XLglidepathlaw03_ScanSoonest_1000034⟩, ⟨1000025, Yglidepathlaw03_ScanSoonest_1000025, L1000025, XLglidepathlaw03_ScanSoonest_1000025⟩, ⟨1000018, Yglidepathlaw03_ScanSoonest_1000018, L1000018, XLglidepathlaw03_ScanSoonest_1000018⟩]) 400 (blkIn a4.body 1000043) E (Tglidepathlaw03_ScanSoonest_1000043a i0 i1 i2) = Bglidepathlaw03_ScanSoonest_1000043a F N E L1000043 L1000034 L1000025 L1000018 i0 i1 i2 := by kernel_rfl
theorem Rglidepathlaw03_ScanSoonest_1000043a_of  (i0 : Int) (i1 : Int) (i2 : Int) {r : Ext × S} (h : Bglidepathlaw03_ScanSoonest_1000043a (Fn env) Rglidepathlaw03_ScanSoonest_1000043 exO Lglidepathlaw03_ScanSoonest_1000043 Lglidepathlaw03_ScanSoonest_1000034 Lglidepathlaw03_ScanSoonest_1000025 Lglidepathlaw03_ScanSoonest_1000018 i0 i1 i2 = some r) : Rglidepathlaw03_ScanSoonest_1000043 (Tglidepathlaw03_ScanSoonest_1000043a i0 i1 i2) = some r :=
  nd_of Eglidepathlaw03_ScanSoonest_ok (by kernel_rfl) (lo_cons (lpO_ok Uglidepathlaw03_ScanSoonest) (lo_cons (lpO_ok Uglidepathlaw03_ScanSoonest) (lo_cons (lpO_ok Uglidepathlaw03_ScanSoonest) (lo_cons (lpO_ok Uglidepathlaw03_ScanSoonest) lo_nil)))) (by kernel_rfl) ((Bglidepathlaw03_ScanSoonest_1000043a_eq _ Rglidepathlaw03_ScanSoonest_1000043 _ _ _ _ _ _ _ _).trans h)
def Bglidepathlaw03_ScanSoonest_1000034a (F : FnT) (_N : Q → Option (Ext × S)) (E : Ext × Q → Option (Ext × S)) (_L1000043 : Q → Option Yglidepathlaw03_ScanSoonest_1000043) (_L1000034 : Q → Option Yglidepathlaw03_ScanSoonest_1000034) (_L1000025 : Q → Option Yglidepathlaw03_ScanSoonest_1000025) (_L1000018 : Q → Option Yglidepathlaw03_ScanSoonest_1000018) (i0 : Int) (i1 : Int) (i2 : Int) (i3 : Int) (i4 : Int) : Option (Ext × S) :=
  bif (i2 != (0 : Int)) then
    E (Xglidepathlaw03_ScanSoonest_1000034a ())
  else bindO (F 17 (RSh.one CK.bool) [(PV.int IntKind.i64 i1), (PV.int IntKind.i64 (0 : Int)), (PV.int IntKind.i64 (1000 : Int))]) fun (y0 : (Bool)) =>
  bif y0 then
    E (Xglidepathlaw03_ScanSoonest_1000034b (i0, i1, i3, i4))
  else E (Xglidepathlaw03_ScanSoonest_1000034a ())
theorem Bglidepathlaw03_ScanSoonest_1000034a_eq (F : FnT) (N : Q → Option (Ext × S)) (E : Ext × Q → Option (Ext × S)) (L1000043 : Q → Option Yglidepathlaw03_ScanSoonest_1000043) (L1000034 : Q → Option Yglidepathlaw03_ScanSoonest_1000034) (L1000025 : Q → Option Yglidepathlaw03_ScanSoonest_1000025) (L1000018 : Q → Option Yglidepathlaw03_ScanSoonest_1000018) (i0 : Int) (i1 : Int) (i2 : Int) (i3 : Int) (i4 : Int) : semN (callP F Eglidepathlaw03_ScanSoonest 20) s4 (loopT [⟨1000043, Yglidepathlaw03_ScanSoonest_1000043, L1000043, XLglidepathlaw03_ScanSoonest_1000043⟩, ⟨1000034, Yglidepathlaw03_ScanSoonest_1000034, L1000034, XLglidepathlaw03_ScanSoonest_1000034⟩, ⟨1000025, Yglidepathlaw03_ScanSoonest_1000025, L1000025, XLglidepathlaw03_ScanSoonest_1000025⟩, ⟨1000018, Yglidepathlaw03_ScanSoonest_1000018, L1000018, XLglidepathlaw03_ScanSoonest_1000018⟩]) 400 (blkIn a4.body 1000034) E (Tglidepathlaw03_ScanSoonest_1000034a i0 i1 i2 i3 i4) = Bglidepathlaw03_ScanSoonest_1000034a F N E L1000043 L1000034 L1000025 L1000018 i0 i1 i2 i3 i4 := by kernel_rfl
theorem Rglidepathlaw03_ScanSoonest_1000034a_of  (i0 : Int) (i1 : Int) (i2 : Int) (i3 : Int) (i4 : Int) {r : Ext × S} (h : Bglidepathlaw03_ScanSoonest_1000034a (Fn env) Rglidepathlaw03_ScanSoonest_1000034 exO Lglidepathlaw03_ScanSoonest_1000043 Lglidepathlaw03_ScanSoonest_1000034 Lglidepathlaw03_ScanSoonest_1000025 Lglidepathlaw03_ScanSoonest_1000018 i0 i1 i2 i3 i4 = some r) : Rglidepathlaw03_ScanSoonest_1000034 (Tglidepathlaw03_ScanSoonest_1000034a i0 i1 i2 i3 i4) = some r :=
  nd_of Eglidepathlaw03_ScanSoonest_ok (by kernel_rfl) (lo_cons (lpO_ok Uglidepathlaw03_ScanSoonest) (lo_cons (lpO_ok Uglidepathlaw03_ScanSoonest) (lo_cons (lpO_ok Uglidepathlaw03_ScanSoonest) (lo_cons (lpO_ok Uglidepathlaw03_ScanSoonest) lo_nil)))) (by kernel_rfl) ((Bglidepathlaw03_ScanSoonest_1000034a_eq _ Rglidepathlaw03_ScanSoonest_1000034 _ _ _ _ _ _ _ _ _ _).trans h)
def Bglidepathlaw03_ScanSoonest_1000025a (_F : FnT) (_N : Q → Option (Ext × S)) (E : Ext × Q → Option (Ext × S)) (_L1000043 : Q → Option Yglidepathlaw03_ScanSoonest_1000043) (_L1000034 : Q → Option Yglidepathlaw03_ScanSoonest_1000034) (_L1000025 : Q → Option Yglidepathlaw03_ScanSoonest_1000025) (_L1000018 : Q → Option Yglidepathlaw03_ScanSoonest_1000018) (i0 : Int) (i1 : Int) (i2 : Int) (i3 : Int) (i4 : Int) (i5 : Int) : Option (Ext × S) :=
  bif (i3 != (0 : Int)) then
    E (Xglidepathlaw03_ScanSoonest_1000025a ())
  else bif (decide (i2 < i0)) then
    E (Xglidepathlaw03_ScanSoonest_1000025a ())
  else bif (decide (i2 > (w64 (i1 * i4)))) then
    E (Xglidepathlaw03_ScanSoonest_1000025a ())
  else bif (decide ((w64 ((4 : Int) * i2)) > (w64 ((w64 ((w64 (i1 + (1 : Int))) * (w64 (i1 + (1 : Int))))) * i5)))) then
    E (Xglidepathlaw03_ScanSoonest_1000025a ())
  else E (Xglidepathlaw03_ScanSoonest_1000025b (i0, i1, i4, i5))
theorem Bglidepathlaw03_ScanSoonest_1000025a_eq (F : FnT) (N : Q → Option (Ext × S)) (E : Ext × Q → Option (Ext × S)) (L1000043 : Q → Option Yglidepathlaw03_ScanSoonest_1000043) (L1000034 : Q → Option Yglidepathlaw03_ScanSoonest_1000034) (L1000025 : Q → Option Yglidepathlaw03_ScanSoonest_1000025) (L1000018 : Q → Option Yglidepathlaw03_ScanSoonest_1000018) (i0 : Int) (i1 : Int) (i2 : Int) (i3 : Int) (i4 : Int) (i5 : Int) : semN (callP F Eglidepathlaw03_ScanSoonest 20) s4 (loopT [⟨1000043, Yglidepathlaw03_ScanSoonest_1000043, L1000043, XLglidepathlaw03_ScanSoonest_1000043⟩, ⟨1000034, Yglidepathlaw03_ScanSoonest_1000034, L1000034, XLglidepathlaw03_ScanSoonest_1000034⟩, ⟨1000025, Yglidepathlaw03_ScanSoonest_1000025, L1000025, XLglidepathlaw03_ScanSoonest_1000025⟩, ⟨1000018, Yglidepathlaw03_ScanSoonest_1000018, L1000018, XLglidepathlaw03_ScanSoonest_1000018⟩]) 400 (blkIn a4.body 1000025) E (Tglidepathlaw03_ScanSoonest_1000025a i0 i1 i2 i3 i4 i5) = Bglidepathlaw03_ScanSoonest_1000025a F N E L1000043 L1000034 L1000025 L1000018 i0 i1 i2 i3 i4 i5 := by kernel_rfl
theorem Rglidepathlaw03_ScanSoonest_1000025a_of  (i0 : Int) (i1 : Int) (i2 : Int) (i3 : Int) (i4 : Int) (i5 : Int) {r : Ext × S} (h : Bglidepathlaw03_ScanSoonest_1000025a (Fn env) Rglidepathlaw03_ScanSoonest_1000025 exO Lglidepathlaw03_ScanSoonest_1000043 Lglidepathlaw03_ScanSoonest_1000034 Lglidepathlaw03_ScanSoonest_1000025 Lglidepathlaw03_ScanSoonest_1000018 i0 i1 i2 i3 i4 i5 = some r) : Rglidepathlaw03_ScanSoonest_1000025 (Tglidepathlaw03_ScanSoonest_1000025a i0 i1 i2 i3 i4 i5) = some r :=
  nd_of Eglidepathlaw03_ScanSoonest_ok (by kernel_rfl) (lo_cons (lpO_ok Uglidepathlaw03_ScanSoonest) (lo_cons (lpO_ok Uglidepathlaw03_ScanSoonest) (lo_cons (lpO_ok Uglidepathlaw03_ScanSoonest) (lo_cons (lpO_ok Uglidepathlaw03_ScanSoonest) lo_nil)))) (by kernel_rfl) ((Bglidepathlaw03_ScanSoonest_1000025a_eq _ Rglidepathlaw03_ScanSoonest_1000025 _ _ _ _ _ _ _ _ _ _ _).trans h)
def Bglidepathlaw03_ScanSoonest_1000018a (F : FnT) (_N : Q → Option (Ext × S)) (E : Ext × Q → Option (Ext × S)) (_L1000043 : Q → Option Yglidepathlaw03_ScanSoonest_1000043) (_L1000034 : Q → Option Yglidepathlaw03_ScanSoonest_1000034) (_L1000025 : Q → Option Yglidepathlaw03_ScanSoonest_1000025) (_L1000018 : Q → Option Yglidepathlaw03_ScanSoonest_1000018) (i0 : Int) (i1 : Int) (i2 : Int) (i3 : Int) : Option (Ext × S) :=
  bif (decide (i1 > (0 : Int))) then
    bindO (F 14 (RSh.tup [(Prod.mk false [(CK.int IntKind.i64)]), (Prod.mk false [(CK.int IntKind.i64)])]) [(PV.agg [(PV.int IntKind.i64 i2), (PV.int IntKind.i64 i3)]), (PV.int IntKind.i64 (w64 (i1 - (1 : Int))))]) fun (y0 : ((Int) × (Int))) =>
    bif (y0.2 != (0 : Int)) then
      E (Xglidepathlaw03_ScanSoonest_1000018a ())
    else bif (decide (y0.1 ≥ i0)) then
      E (Xglidepathlaw03_ScanSoonest_1000018a ())
    else E (Xglidepathlaw03_ScanSoonest_1000018b (i0, i1, i2, i3))
  else E (Xglidepathlaw03_ScanSoonest_1000018b (i0, i1, i2, i3))
theorem Bglidepathlaw03_ScanSoonest_1000018a_eq (F : FnT) (N : Q → Option (Ext × S)) (E : Ext × Q → Option (Ext × S)) (L1000043 : Q → Option Yglidepathlaw03_ScanSoonest_1000043) (L1000034 : Q → Option Yglidepathlaw03_ScanSoonest_1000034) (L1000025 : Q → Option Yglidepathlaw03_ScanSoonest_1000025) (L1000018 : Q → Option Yglidepathlaw03_ScanSoonest_1000018) (i0 : Int) (i1 : Int) (i2 : Int) (i3 : Int) : semN (callP F Eglidepathlaw03_ScanSoonest 20) s4 (loopT [⟨1000043, Yglidepathlaw03_ScanSoonest_1000043, L1000043, XLglidepathlaw03_ScanSoonest_1000043⟩, ⟨1000034, Yglidepathlaw03_ScanSoonest_1000034, L1000034, XLglidepathlaw03_ScanSoonest_1000034⟩, ⟨1000025, Yglidepathlaw03_ScanSoonest_1000025, L1000025, XLglidepathlaw03_ScanSoonest_1000025⟩, ⟨1000018, Yglidepathlaw03_ScanSoonest_1000018, L1000018, XLglidepathlaw03_ScanSoonest_1000018⟩]) 400 (blkIn a4.body 1000018) E (Tglidepathlaw03_ScanSoonest_1000018a i0 i1 i2 i3) = Bglidepathlaw03_ScanSoonest_1000018a F N E L1000043 L1000034 L1000025 L1000018 i0 i1 i2 i3 := by kernel_rfl
theorem Rglidepathlaw03_ScanSoonest_1000018a_of  (i0 : Int) (i1 : Int) (i2 : Int) (i3 : Int) {r : Ext × S} (h : Bglidepathlaw03_ScanSoonest_1000018a (Fn env) Rglidepathlaw03_ScanSoonest_1000018 exO Lglidepathlaw03_ScanSoonest_1000043 Lglidepathlaw03_ScanSoonest_1000034 Lglidepathlaw03_ScanSoonest_1000025 Lglidepathlaw03_ScanSoonest_1000018 i0 i1 i2 i3 = some r) : Rglidepathlaw03_ScanSoonest_1000018 (Tglidepathlaw03_ScanSoonest_1000018a i0 i1 i2 i3) = some r :=
  nd_of Eglidepathlaw03_ScanSoonest_ok (by kernel_rfl) (lo_cons (lpO_ok Uglidepathlaw03_ScanSoonest) (lo_cons (lpO_ok Uglidepathlaw03_ScanSoonest) (lo_cons (lpO_ok Uglidepathlaw03_ScanSoonest) (lo_cons (lpO_ok Uglidepathlaw03_ScanSoonest) lo_nil)))) (by kernel_rfl) ((Bglidepathlaw03_ScanSoonest_1000018a_eq _ Rglidepathlaw03_ScanSoonest_1000018 _ _ _ _ _ _ _ _ _).trans h)
def tglidepathlaw03_ScanSoonest (F : FnT) (L1000043 : Q → Option Yglidepathlaw03_ScanSoonest_1000043) (L1000034 : Q → Option Yglidepathlaw03_ScanSoonest_1000034) (L1000025 : Q → Option Yglidepathlaw03_ScanSoonest_1000025) (L1000018 : Q → Option Yglidepathlaw03_ScanSoonest_1000018) (p0_0 : Int) (p0_1 : Int) (p1 : Int) : Option (Bool) :=
  bindO (F 12 (RSh.one CK.bool) []) fun (y0 : (Bool)) =>
  bif y0 then
    bindO (L1000043 (Tglidepathlaw03_ScanSoonest_1000043a p1 p0_0 p0_1)) fun z =>
    Sum.elim (fun _y1 =>
      some true) (fun y2 =>
      bindO (F 15 (RSh.tup [(Prod.mk false [(CK.int IntKind.i64)]), (Prod.mk false [(CK.int IntKind.i64)])]) [(PV.agg [(PV.int IntKind.i64 y2.2.1), (PV.int IntKind.i64 y2.2.2)]), (PV.int IntKind.i64 y2.1)]) fun (y3 : ((Int) × (Int))) =>
      bindO (L1000034 (Tglidepathlaw03_ScanSoonest_1000034a y2.1 y3.1 y3.2 y2.2.1 y2.2.2)) fun z =>
      Sum.elim (fun _y4 =>
        some false) (fun y5 =>
        bindO (F 14 (RSh.tup [(Prod.mk false [(CK.int IntKind.i64)]), (Prod.mk false [(CK.int IntKind.i64)])]) [(PV.agg [(PV.int IntKind.i64 y5.2.2.1), (PV.int IntKind.i64 y5.2.2.2)]), (PV.int IntKind.i64 y5.2.1)]) fun (y6 : ((Int) × (Int))) =>
        bindO (L1000025 (Tglidepathlaw03_ScanSoonest_1000025a y5.1 y5.2.1 y6.1 y6.2 y5.2.2.1 y5.2.2.2)) fun z =>
        Sum.elim (fun _y7 =>
          some false) (fun y8 =>
          bindO (L1000018 (Tglidepathlaw03_ScanSoonest_1000018a y8.1 y8.2.1 y8.2.2.1 y8.2.2.2)) fun z =>
          Sum.elim (fun _y9 =>
            some false) (fun y10 =>
            bindO (F 15 (RSh.tup [(Prod.mk false [(CK.int IntKind.i64)]), (Prod.mk false [(CK.int IntKind.i64)])]) [(PV.agg [(PV.int IntKind.i64 y10.2.2.1), (PV.int IntKind.i64 y10.2.2.2)]), (PV.int IntKind.i64 (if ((w64 (y10.1 + (1 : Int))) < (360 : Int)) then (w64 (y10.1 + (1 : Int))) else (360 : Int)))]) fun (y11 : ((Int) × (Int))) =>
            bindO (F 15 (RSh.tup [(Prod.mk false [(CK.int IntKind.i64)]), (Prod.mk false [(CK.int IntKind.i64)])]) [(PV.agg [(PV.int IntKind.i64 (if ((w64 (y10.2.2.1 + (1 : Int))) < (30 : Int)) then (w64 (y10.2.2.1 + (1 : Int))) else (30 : Int))), (PV.int IntKind.i64 y10.2.2.2)]), (PV.int IntKind.i64 y10.1)]) fun (y12 : ((Int) × (Int))) =>
            bindO (F 15 (RSh.tup [(Prod.mk false [(CK.int IntKind.i64)]), (Prod.mk false [(CK.int IntKind.i64)])]) [(PV.agg [(PV.int IntKind.i64 y10.2.2.1), (PV.int IntKind.i64 (if ((w64 (y10.2.2.2 + (1 : Int))) < (30 : Int)) then (w64 (y10.2.2.2 + (1 : Int))) else (30 : Int)))]), (PV.int IntKind.i64 y10.1)]) fun (y13 : ((Int) × (Int))) =>
            bif (y11.2 == (0 : Int)) then
              bif (y12.2 == (0 : Int)) then
                bif (y13.2 == (0 : Int)) then
                  bif (decide (y11.1 ≥ y10.2.1)) then
                    bif (decide (y12.1 ≤ y10.2.1)) then
                      bif (decide (y13.1 ≤ y10.2.1)) then
                        some true
                      else some false
                    else some false
                  else some false
                else some false
              else some false
            else some false) z) z) z) z
  else some false
theorem tglidepathlaw03_ScanSoonest_eq (F : FnT) (L1000043 : Q → Option Yglidepathlaw03_ScanSoonest_1000043) (L1000034 : Q → Option Yglidepathlaw03_ScanSoonest_1000034) (L1000025 : Q → Option Yglidepathlaw03_ScanSoonest_1000025) (L1000018 : Q → Option Yglidepathlaw03_ScanSoonest_1000018) (p0_0 : Int) (p0_1 : Int) (p1 : Int) : semF (callP F Eglidepathlaw03_ScanSoonest 20) s4 (loopT [⟨1000043, Yglidepathlaw03_ScanSoonest_1000043, L1000043, XLglidepathlaw03_ScanSoonest_1000043⟩, ⟨1000034, Yglidepathlaw03_ScanSoonest_1000034, L1000034, XLglidepathlaw03_ScanSoonest_1000034⟩, ⟨1000025, Yglidepathlaw03_ScanSoonest_1000025, L1000025, XLglidepathlaw03_ScanSoonest_1000025⟩, ⟨1000018, Yglidepathlaw03_ScanSoonest_1000018, L1000018, XLglidepathlaw03_ScanSoonest_1000018⟩]) 400 a4 [PV.agg [PV.int IntKind.i64 p0_0, PV.int IntKind.i64 p0_1], PV.int IntKind.i64 p1] (fun rv => decR (RSh.one CK.bool) rv.pv) = tglidepathlaw03_ScanSoonest F L1000043 L1000034 L1000025 L1000018 p0_0 p0_1 p1 := by kernel_rfl
noncomputable abbrev Fglidepathlaw03_ScanSoonest (args : List PV) := Fn env 4 (RSh.one CK.bool) args
theorem Fglidepathlaw03_ScanSoonest_of  (p0_0 : Int) (p0_1 : Int) (p1 : Int) {res : (Bool)} (h : tglidepathlaw03_ScanSoonest (Fn env) Lglidepathlaw03_ScanSoonest_1000043 Lglidepathlaw03_ScanSoonest_1000034 Lglidepathlaw03_ScanSoonest_1000025 Lglidepathlaw03_ScanSoonest_1000018 p0_0 p0_1 p1 = some res) : Fglidepathlaw03_ScanSoonest [PV.agg [PV.int IntKind.i64 p0_0, PV.int IntKind.i64 p0_1], PV.int IntKind.i64 p1] = some res :=
  fn_of Eglidepathlaw03_ScanSoonest_ok rfl rfl (lo_cons (lpO_ok Uglidepathlaw03_ScanSoonest) (lo_cons (lpO_ok Uglidepathlaw03_ScanSoonest) (lo_cons (lpO_ok Uglidepathlaw03_ScanSoonest) (lo_cons (lpO_ok Uglidepathlaw03_ScanSoonest) lo_nil)))) ((tglidepathlaw03_ScanSoonest_eq _ _ _ _ _ _ _ _).trans h)

end Gv

/- ScanSoonest: whatever the drive and the distance, the law answers true. -/
namespace Gv
open Go
set_option maxRecDepth 100000

/-! More rate, more acceleration: no less reach -/
theorem gx_mono {r r' a a' : Int} (hr : r ≤ r') (ha : a ≤ a') (x : Nat) : gx r a x ≤ gx r' a' x := by
  have h := Int.mul_le_mul_of_nonneg_left ha (show (0 : Int) ≤ (x : Int) by omega)
  unfold gx
  split <;> split <;> omega
theorem rc_mono {r r' a a' : Int} (hr : r ≤ r') (ha : a ≤ a') : ∀ k, rc r a k ≤ rc r' a' k
  | 0 => Int.le_refl _
  | k + 1 => by
    have h1 := rc_mono hr ha k
    have h2 := gx_mono hr ha (k / 2 + 1)
    rw [rc, rc]
    unfold gr
    omega
theorem rc_rate (r a : Int) : ∀ k : Nat, rc r a k ≤ (k : Int) * r
  | 0 => by simp [rc]
  | k + 1 => by
    have h1 := rc_rate r a k
    have h2 : gr r a k ≤ r := by unfold gr gx; split <;> omega
    rw [rc, Int.natCast_add, Int.add_mul]
    simp only [Int.natCast_one, Int.one_mul]
    omega
def qx : Nat → Nat
  | 0 => 0
  | k + 1 => qx k + (k / 2 + 1)
theorem qx_le : ∀ k : Nat, 4 * qx k ≤ (k + 1) * (k + 1)
  | 0 => by simp [qx]
  | 1 => by simp [qx]
  | k + 2 => by
    have h := qx_le k
    have e : (k + 2 + 1) * (k + 2 + 1) = (k + 1) * (k + 1) + (4 * k + 8) := by
      rw [show k + 2 + 1 = (k + 1) + 2 by omega, Nat.add_mul, Nat.mul_add]
      omega
    rw [e]
    simp only [qx]
    omega
theorem rc_qx {r a : Int} : ∀ k : Nat, rc r a k ≤ (qx k : Int) * a
  | 0 => by simp [rc, qx]
  | k + 1 => by
    have h1 := rc_qx (r := r) (a := a) k
    have h2 : gr r a k ≤ ((k / 2 + 1 : Nat) : Int) * a := by unfold gr gx; split <;> omega
    rw [rc, qx, Int.natCast_add, Int.add_mul]
    omega
theorem rc_acc {r a : Int} (ha : 0 ≤ a) (k : Nat) : 4 * rc r a k ≤ ((k : Int) + 1) * ((k : Int) + 1) * a := by
  have h1 := rc_qx (r := r) (a := a) k
  have h2 : ((4 * qx k : Nat) : Int) ≤ (((k + 1) * (k + 1) : Nat) : Int) := by exact_mod_cast qx_le k
  have h3 := Int.mul_le_mul_of_nonneg_right h2 ha
  have e1 : ((4 * qx k : Nat) : Int) * a = 4 * ((qx k : Int) * a) := by rw [Int.natCast_mul, Int.mul_assoc]; rfl
  have e2 : (((k + 1) * (k + 1) : Nat) : Int) = ((k : Int) + 1) * ((k : Int) + 1) := by rw [Int.natCast_mul, Int.natCast_add]; rfl
  rw [e1, e2] at h3
  omega

section
variable {r a d : Int}
theorem so43 : ∃ z, Lglidepathlaw03_ScanSoonest_1000043 (Tglidepathlaw03_ScanSoonest_1000043a d r a) = some z ∧ (z = .inl () ∨ (axE r a = 0 ∧ 0 ≤ d ∧ d ≤ 360 ∧ z = .inr (d, r, a))) := by
  by_cases h1 : axE r a = 0
  · by_cases h2 : 0 ≤ d ∧ d ≤ 360
    · refine ⟨_, Lglidepathlaw03_ScanSoonest_1000043b_of (Rglidepathlaw03_ScanSoonest_1000043a_of _ _ _ ?_), .inr ⟨h1, h2.1, h2.2, rfl⟩⟩
      unfold Bglidepathlaw03_ScanSoonest_1000043a
      simp only [refAxis_is, h1, within_is, bindO_val, bne_self_eq_false, cond_false]
      rw [bif_pos h2]
      rfl
    · refine ⟨.inl (), Lglidepathlaw03_ScanSoonest_1000043a_of (Rglidepathlaw03_ScanSoonest_1000043a_of _ _ _ ?_), .inl rfl⟩
      unfold Bglidepathlaw03_ScanSoonest_1000043a
      simp only [refAxis_is, h1, within_is, bindO_val, bne_self_eq_false, cond_false]
      rw [bif_neg h2]
      rfl
  · refine ⟨.inl (), Lglidepathlaw03_ScanSoonest_1000043a_of (Rglidepathlaw03_ScanSoonest_1000043a_of _ _ _ ?_), .inl rfl⟩
    unfold Bglidepathlaw03_ScanSoonest_1000043a
    simp only [refAxis_is, bindO_val]
    rw [bif_ne, if_neg h1]
    rfl
theorem so34 (T : Nat) (hT : T ≤ 360) : Lglidepathlaw03_ScanSoonest_1000034 (Tglidepathlaw03_ScanSoonest_1000034a d (T : Int) 0 r a) = some (.inr (d, (T : Int), r, a)) := by
  refine Lglidepathlaw03_ScanSoonest_1000034b_of (Rglidepathlaw03_ScanSoonest_1000034a_of _ _ _ _ _ ?_)
  unfold Bglidepathlaw03_ScanSoonest_1000034a
  simp only [within_is, bindO_val, bne_self_eq_false, cond_false]
  rw [bif_pos ⟨by omega, by omega⟩]
  rfl
theorem so25 (hr : 1 ≤ r ∧ r ≤ 30) (ha : 1 ≤ a ∧ a ≤ 30) (T : Nat) (hT : T ≤ 360) (hd : d ≤ rc r a T) : Lglidepathlaw03_ScanSoonest_1000025 (Tglidepathlaw03_ScanSoonest_1000025a d (T : Int) (rc r a T) 0 r a) = some (.inr (d, (T : Int), r, a)) := by
  have b0 := rc_in hr ha T (by omega)
  have b1 := rc_rate r a T
  have b2 := rc_acc (r := r) (a := a) (by omega) T
  have c1 : (0 : Int) ≤ (T : Int) * r := Int.mul_nonneg (by omega) (by omega)
  have c2 : (T : Int) * r ≤ 360 * 30 := Int.mul_le_mul (by omega) (by omega) (by omega) (by omega)
  have c3 : ((T : Int) + 1) * ((T : Int) + 1) ≤ 361 * 361 := Int.mul_le_mul (by omega) (by omega) (by omega) (by omega)
  have c4 : (0 : Int) ≤ ((T : Int) + 1) * ((T : Int) + 1) := Int.mul_nonneg (by omega) (by omega)
  have c5 : ((T : Int) + 1) * ((T : Int) + 1) * a ≤ 361 * 361 * 30 := Int.mul_le_mul c3 (by omega) (by omega) (by omega)
  have c6 : (0 : Int) ≤ ((T : Int) + 1) * ((T : Int) + 1) * a := Int.mul_nonneg c4 (by omega)
  refine Lglidepathlaw03_ScanSoonest_1000025b_of (Rglidepathlaw03_ScanSoonest_1000025a_of _ _ _ _ _ _ ?_)
  unfold Bglidepathlaw03_ScanSoonest_1000025a
  simp only [bne_self_eq_false, cond_false]
  rw [w64_in (n := (T : Int) * r) (by omega), w64_in (n := 4 * rc r a T) (by omega), w64_in (n := (T : Int) + 1) (by omega), w64_in (n := ((T : Int) + 1) * ((T : Int) + 1)) (by omega), w64_in (n := ((T : Int) + 1) * ((T : Int) + 1) * a) (by omega),
    bif_neg (by omega), bif_neg (by omega), bif_neg (by omega)]
  rfl
theorem so18 (hx : axE r a = 0) (T : Nat) (hT : T ≤ 360) (hl : ∀ s, s < T → rc r a s < d) : Lglidepathlaw03_ScanSoonest_1000018 (Tglidepathlaw03_ScanSoonest_1000018a d (T : Int) r a) = some (.inr (d, (T : Int), r, a)) := by
  refine Lglidepathlaw03_ScanSoonest_1000018b_of (Rglidepathlaw03_ScanSoonest_1000018a_of _ _ _ _ ?_)
  unfold Bglidepathlaw03_ScanSoonest_1000018a
  by_cases h : 0 < T
  · have hw : w64 ((T : Int) - 1) = ((T - 1 : Nat) : Int) := by rw [w64_in (by omega)]; omega
    have hb : both (axE r a) (rangeE ((T - 1 : Nat) : Int) 0 1000) = 0 := by rw [hx, rangeE_in (by omega)]; rfl
    have hlt := hl (T - 1) (by omega)
    rw [bif_pos (by omega), hw]
    simp only [reachOf_is, hb, if_true, bindO_val, bne_self_eq_false, cond_false, Int.toNat_natCast]
    rw [bif_neg (by omega)]
    rfl
  · rw [bif_neg (by omega)]
    rfl
end

theorem axE_in {r a : Int} (hr : 1 ≤ r ∧ r ≤ 30) (ha : 1 ≤ a ∧ a ≤ 30) : axE r a = 0 := by
  unfold axE
  rw [rangeE_in hr, rangeE_in ha]
  rfl

theorem soonestLaw (r a d : Int) : Fglidepathlaw03_ScanSoonest [.agg [.int .i64 r, .int .i64 a], .int .i64 d] = some true := by
  refine Fglidepathlaw03_ScanSoonest_of _ _ _ ?_
  unfold tglidepathlaw03_ScanSoonest
  simp only [awake_is, bindO_val, cond_true]
  obtain ⟨z, hz, hs⟩ := so43 (r := r) (a := a) (d := d)
  rw [hz, bindO_val]
  rcases hs with rfl | ⟨hx, d0, d1, rfl⟩
  · rfl
  · obtain ⟨hr, ha⟩ := axE_ok hx
    obtain ⟨T, hT, f1, _, f3, f4⟩ := ticksFor_ok (r := r) (a := a) (d := d) (by rw [hx, rangeE_in ⟨d0, d1⟩]; rfl)
    have hb : both (axE r a) (rangeE (T : Int) 0 1000) = 0 := by rw [hx, rangeE_in (by omega)]; rfl
    -- a greater distance
    obtain ⟨d', hd'⟩ : ∃ d', (if w64 (d + 1) < 360 then w64 (d + 1) else 360) = d' := ⟨_, rfl⟩
    have hdd : d ≤ d' ∧ 0 ≤ d' ∧ d' ≤ 360 := by
      rw [w64_in (by omega)] at hd'
      split at hd' <;> omega
    obtain ⟨T1, _, g1, _, g3, _⟩ := ticksFor_ok (r := r) (a := a) (d := d') (by rw [hx, rangeE_in hdd.2]; rfl)
    -- a greater rate
    obtain ⟨r', hr'⟩ : ∃ r', (if w64 (r + 1) < 30 then w64 (r + 1) else 30) = r' := ⟨_, rfl⟩
    have hrr : r ≤ r' ∧ 1 ≤ r' ∧ r' ≤ 30 := by
      rw [w64_in (by omega)] at hr'
      split at hr' <;> omega
    obtain ⟨T2, _, k1, _, _, k4⟩ := ticksFor_ok (r := r') (a := a) (d := d) (by rw [axE_in hrr.2 ha, rangeE_in ⟨d0, d1⟩]; rfl)
    -- a greater acceleration
    obtain ⟨a', ha'⟩ : ∃ a', (if w64 (a + 1) < 30 then w64 (a + 1) else 30) = a' := ⟨_, rfl⟩
    have haa : a ≤ a' ∧ 1 ≤ a' ∧ a' ≤ 30 := by
      rw [w64_in (by omega)] at ha'
      split at ha' <;> omega
    obtain ⟨T3, _, l1, _, _, l4⟩ := ticksFor_ok (r := r) (a := a') (d := d) (by rw [axE_in hr haa.2, rangeE_in ⟨d0, d1⟩]; rfl)
    have le1 : T ≤ T1 := by
      rcases Nat.lt_or_ge T1 T with h | h
      · have := f4 T1 h; omega
      · exact h
    have le2 : T2 ≤ T := by
      rcases Nat.lt_or_ge T T2 with h | h
      · have := k4 T h
        have := rc_mono hrr.1 (Int.le_refl a) T
        omega
      · exact h
    have le3 : T3 ≤ T := by
      rcases Nat.lt_or_ge T T3 with h | h
      · have := l4 T h
        have := rc_mono (Int.le_refl r) haa.1 T
        omega
      · exact h
    simp only [Sum.elim_inr, f1, so34 T hT, reachOf_is, hb, if_true, Int.toNat_natCast, so25 hr ha T hT f3, so18 hx T hT f4, bindO_val, hd', g1, hr', k1, ha', l1, beq_self_eq_true, cond_true]
    rw [bif_pos (by omega), bif_pos (by omega), bif_pos (by omega)]
end Gv

namespace Go.Proofs.Ytnnajeahbhempaa
open Go Gv Go.ChangeShapes Go.WideShapes Go.ChangeAt Go.RowKit
set_option maxRecDepth 100000

def axisS : Shp := .cons (.int .i64) (.cons (.int .i64) .nil)
theorem fits_axis {ps : List PV} (h : Fits axisS ps) : ∃ a b : Int, ps = [.int .i64 a, .int .i64 b] := by
  obtain ⟨x1, y1, rfl, ⟨a, rfl, _⟩, x2, y2, rfl, ⟨b, rfl, _⟩, h3⟩ := h
  simp only [Fits] at h3
  subst h3
  exact ⟨a, b, rfl⟩

theorem scanSoonest_run (qs : List PV) (h : FitsArgs [axisS, .int .i64] qs) : run env 4 qs = some (.val (.bool true)) := by
  obtain ⟨p1, r1, c1, rfl, f1, e1, p2, r2, c2, rfl, f2, e2, hr⟩ := h
  simp only [FitsArgs] at hr
  subst hr
  obtain ⟨x, y, rfl⟩ := fits_axis f1
  have e1 : p1 = .agg _ := e1
  subst e1
  obtain ⟨d, rfl, _⟩ := fits_num f2 e2
  exact run_true (soonestLaw x y d)

theorem scanSoonest_tells : Tells Rows.scanSoonestSpec 2 := by
  refine ⟨rfl, fun H ds hl => ?_, fun H ds hl => ?_, fun H ds hl => ?_⟩ <;>
  · match ds, hl with
    | [d1, d2], _ => rfl

theorem scanSoonest_lifted (os : Os) (started : os.Started) (H : Type) (enc : TypeId × Value → H) :
    ReturnsInHanded {} Try.checked os 4 .any (Rows.scanSoonestSpec.pre6 enc Try.prog Try.f4 Rows.scanSoonestRow.domain false) (Rows.scanSoonestSpec.post enc Try.prog Try.f4 false true false false) := by
  refine returnsInHanded_of_change (C := Try.checked) own started (by kernel_rfl) Try.func4
    (ChangeSpec.witness6 (enc := enc) (C := Try.checked) false ⟨#[], #[.agg #[.int .i64 0, .int .i64 0], .int .i64 0], []⟩ 8 (by kernel_rfl) (by kernel_rfl) (by kernel_rfl) (by kernel_rfl)) ?_
  intro W base args ds gs before hval hW _ _
  exact contract_true mixed env_ok laid (d := 20) (ss := [axisS, .int .i64]) (by kernel_rfl) rfl Try.underlying4 scanSoonest_tells scanSoonest_run W base args ds gs before hval hW

theorem scanSoonest : Rows.ScanSoonestSaid :=
  OpenClaim.holds_of_wide 4 Try.f4 rfl rfl rfl rfl rfl rfl rfl ⟨rfl, rfl, rfl, rfl, rfl⟩ rfl rfl rfl rfl rfl (by kernel_rfl) Try.func4 (by kernel_rfl)
    (of_decide_eq_true (by kernel_rfl)) (by unfold Func.isWrapper; first | (rw [if_pos (by decide +kernel)]; kernel_rfl) | (rw [if_neg (by decide +kernel)]; exact ⟨rfl, rfl⟩))
    (fun os started H enc _ => scanSoonest_lifted os started H enc)
#print axioms scanSoonest
end Go.Proofs.Ytnnajeahbhempaa
