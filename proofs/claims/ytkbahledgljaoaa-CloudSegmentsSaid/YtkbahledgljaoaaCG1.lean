/- What the functions do, round by round: CG1. -/
import Derived.Test.YtkbahledgljaoaaCD5
namespace Gv
open Go
set_option maxRecDepth 100000

/-! ### glidepathbase_Ints -/

def Eglidepathbase_Ints : List Entry := []
theorem Eglidepathbase_Ints_ok : ∀ e ∈ Eglidepathbase_Ints, EntOK env e := ent_nil
def Tglidepathbase_Ints_0a (n0 : Nat) (c1 : List PV) (n2 : Nat) (c3 : List PV) (i4 : Int) : Q := ⟨(tm 26 [(0, (AV.p (PV.list n0 c1))), (1, (AV.p (PV.list n2 c3))), (5, (AV.p (PV.int IntKind.i64 i4)))]), (mm 26 [])⟩
def Xglidepathbase_Ints_0a (_y : Unit) : Ext × Q := (Ext.ret, ⟨(tm 26 [(4, (AV.p (PV.bool false)))]), (mm 26 [])⟩)
def Iglidepathbase_Ints_0a (_q : Ext × S) : Unit := ()
def Xglidepathbase_Ints_0b (_y : Unit) : Ext × Q := (Ext.normal, ⟨(tm 26 []), (mm 26 [])⟩)
def Iglidepathbase_Ints_0b (_q : Ext × S) : Unit := ()
abbrev Yglidepathbase_Ints_0 : Type := (Unit) ⊕ ((Unit))
def XLglidepathbase_Ints_0 : XL Yglidepathbase_Ints_0 := .more Xglidepathbase_Ints_0a (.one Xglidepathbase_Ints_0b)
def Iglidepathbase_Ints_0 (q : Ext × S) : Yglidepathbase_Ints_0 := bif (cE q.1 == 2) then (Sum.inl (Iglidepathbase_Ints_0a q)) else (Sum.inr (Iglidepathbase_Ints_0b q))
theorem XIglidepathbase_Ints_0a (y : Unit) : Iglidepathbase_Ints_0 (xe (Xglidepathbase_Ints_0a y)) = (Sum.inl y) := rfl
theorem XIglidepathbase_Ints_0b (y : Unit) : Iglidepathbase_Ints_0 (xe (Xglidepathbase_Ints_0b y)) = (Sum.inr y) := rfl
theorem XIglidepathbase_Ints_0 (y : Yglidepathbase_Ints_0) : Iglidepathbase_Ints_0 (xe (XLglidepathbase_Ints_0.fn y)) = y := (match y with | .inl y => XIglidepathbase_Ints_0a y | .inr y => XIglidepathbase_Ints_0b y)
noncomputable abbrev Lglidepathbase_Ints_0 : Q → Option Yglidepathbase_Ints_0 := lpO env a29.body 0 XLglidepathbase_Ints_0
noncomputable abbrev Rglidepathbase_Ints_0 : Q → Option (Ext × S) := lpR env a29.body 0
theorem Lglidepathbase_Ints_0a_of {s : Q} {y : Unit} (h : Rglidepathbase_Ints_0 s = exO (Xglidepathbase_Ints_0a y)) : Lglidepathbase_Ints_0 s = some (Sum.inl y) := lpO_of Iglidepathbase_Ints_0 XIglidepathbase_Ints_0 (y := (Sum.inl y)) h
theorem Lglidepathbase_Ints_0b_of {s : Q} {y : Unit} (h : Rglidepathbase_Ints_0 s = exO (Xglidepathbase_Ints_0b y)) : Lglidepathbase_Ints_0 s = some (Sum.inr y) := lpO_of Iglidepathbase_Ints_0 XIglidepathbase_Ints_0 (y := (Sum.inr y)) h
theorem Uglidepathbase_Ints : uniq ((blocksOf a29.body).map (·.1)) = true := by kernel_rfl
def Bglidepathbase_Ints_0a (_F : FnT) (N : Q → Option (Ext × S)) (E : Ext × Q → Option (Ext × S)) (_L0 : Q → Option Yglidepathbase_Ints_0) (n0 : Nat) (c1 : List PV) (n2 : Nat) (c3 : List PV) (i4 : Int) : Option (Ext × S) :=
  bif (decide (i4 < (n0 : Int))) then
    bif (decide (((0 : Int) ≤ i4) ∧ (i4 < (n0 : Int)))) then
      bindO (intC IntKind.i64 (c1[((Int.toNat i4) * 1)]?)) fun x0 =>
      bif (decide (((0 : Int) ≤ i4) ∧ (i4 < (n2 : Int)))) then
        bindO (intC IntKind.i64 (c3[((Int.toNat i4) * 1)]?)) fun x1 =>
        bif (x0 != x1) then
          E (Xglidepathbase_Ints_0a ())
        else N (Tglidepathbase_Ints_0a n0 c1 n2 c3 (w64 (i4 + (1 : Int))))
      else none
    else none
  else E (Xglidepathbase_Ints_0b ())
theorem Bglidepathbase_Ints_0a_eq (F : FnT) (N : Q → Option (Ext × S)) (E : Ext × Q → Option (Ext × S)) (L0 : Q → Option Yglidepathbase_Ints_0) (n0 : Nat) (c1 : List PV) (n2 : Nat) (c3 : List PV) (i4 : Int) : semB (callP F Eglidepathbase_Ints 20) s29 (loopT [⟨0, Yglidepathbase_Ints_0, L0, XLglidepathbase_Ints_0⟩]) 400 (blkIn a29.body 0) N E (Tglidepathbase_Ints_0a n0 c1 n2 c3 i4) = Bglidepathbase_Ints_0a F N E L0 n0 c1 n2 c3 i4 := by kernel_rfl
theorem Rglidepathbase_Ints_0a_of  (n0 : Nat) (c1 : List PV) (n2 : Nat) (c3 : List PV) (i4 : Int) {r : Ext × S} (h : Bglidepathbase_Ints_0a (Fn env) Rglidepathbase_Ints_0 exO Lglidepathbase_Ints_0 n0 c1 n2 c3 i4 = some r) : Rglidepathbase_Ints_0 (Tglidepathbase_Ints_0a n0 c1 n2 c3 i4) = some r :=
  lp_of Eglidepathbase_Ints_ok (by kernel_rfl) (lo_cons (lpO_ok Uglidepathbase_Ints) lo_nil) (by kernel_rfl) ((Bglidepathbase_Ints_0a_eq _ _ _ _ _ _ _ _ _).trans h)
def tglidepathbase_Ints (_F : FnT) (L0 : Q → Option Yglidepathbase_Ints_0) (p0n : Nat) (p0c : List PV) (p1n : Nat) (p1c : List PV) : Option (Bool) :=
  bif ((p0n : Int) != (p1n : Int)) then
    some false
  else bindO (L0 (Tglidepathbase_Ints_0a p0n p0c p1n p1c (0 : Int))) fun z =>
  Sum.elim (fun _y0 =>
    some false) (fun _y1 =>
    some true) z
theorem tglidepathbase_Ints_eq (F : FnT) (L0 : Q → Option Yglidepathbase_Ints_0) (p0n : Nat) (p0c : List PV) (p1n : Nat) (p1c : List PV) : semF (callP F Eglidepathbase_Ints 20) s29 (loopT [⟨0, Yglidepathbase_Ints_0, L0, XLglidepathbase_Ints_0⟩]) 400 a29 [PV.list p0n p0c, PV.list p1n p1c] (fun rv => decR (RSh.one CK.bool) rv.pv) = tglidepathbase_Ints F L0 p0n p0c p1n p1c := by kernel_rfl
noncomputable abbrev Fglidepathbase_Ints (args : List PV) := Fn env 29 (RSh.one CK.bool) args
theorem Fglidepathbase_Ints_of  (p0n : Nat) (p0c : List PV) (p1n : Nat) (p1c : List PV) {res : (Bool)} (h : tglidepathbase_Ints (Fn env) Lglidepathbase_Ints_0 p0n p0c p1n p1c = some res) : Fglidepathbase_Ints [PV.list p0n p0c, PV.list p1n p1c] = some res :=
  fn_of Eglidepathbase_Ints_ok rfl rfl (lo_cons (lpO_ok Uglidepathbase_Ints) lo_nil) ((tglidepathbase_Ints_eq _ _ _ _ _ _).trans h)

/-! ### glidepathref08_Segments -/

def Eglidepathref08_Segments : List Entry := [.out 25 (RSh.one (CK.int IntKind.i64))]
theorem Eglidepathref08_Segments_ok : ∀ e ∈ Eglidepathref08_Segments, EntOK env e := (ent_out ent_nil)
def Tglidepathref08_Segments_0a (n0 : Nat) (c1 : List PV) (i2 : Int) (i3 : Int) (n4 : Nat) (n5 : Nat) (n6 : Nat) (i7 : Int) (c8 : List PV) (c9 : List PV) (c10 : List PV) : Q := ⟨(tm 111 [(0, (AV.p (PV.list n0 c1))), (1, (AV.p (PV.int IntKind.i64 i2))), (6, (AV.p (PV.int IntKind.i64 i3))), (7, (AV.msl 21 0 n4 1)), (8, (AV.msl 24 0 n5 1)), (9, (AV.msl 27 0 n6 1)), (10, (AV.p (PV.int IntKind.i64 i7)))]), (mm 111 [(21, (Bk.pcs true c8)), (24, (Bk.pcs true c9)), (27, (Bk.pcs true c10))])⟩
def Xglidepathref08_Segments_0a (y : Int × Nat × Nat × List PV × List PV × List PV) : Ext × Q := (Ext.normal, ⟨(tm 111 [(6, (AV.p (PV.int IntKind.i64 y.1))), (7, (AV.msl 21 0 y.2.1 1)), (9, (AV.msl 27 0 y.2.2.1 1))]), (mm 111 [(21, (Bk.pcs true y.2.2.2.1)), (24, (Bk.pcs true y.2.2.2.2.1)), (27, (Bk.pcs true y.2.2.2.2.2))])⟩)
def Iglidepathref08_Segments_0a (q : Ext × S) : Int × Nat × Nat × List PV × List PV × List PV := ((pP_int1 (pA_p (avT q.2 6))), (pA_msl2 (avT q.2 7)), (pA_msl2 (avT q.2 9)), (pB_pcs1 (avM q.2 21)), (pB_pcs1 (avM q.2 24)), (pB_pcs1 (avM q.2 27)))
abbrev Yglidepathref08_Segments_0 : Type := Int × Nat × Nat × List PV × List PV × List PV
def XLglidepathref08_Segments_0 : XL Yglidepathref08_Segments_0 := .one Xglidepathref08_Segments_0a
def Iglidepathref08_Segments_0 (q : Ext × S) : Yglidepathref08_Segments_0 := (Iglidepathref08_Segments_0a q)
theorem XIglidepathref08_Segments_0a (y : Int × Nat × Nat × List PV × List PV × List PV) : Iglidepathref08_Segments_0 (xe (Xglidepathref08_Segments_0a y)) = y := (show Iglidepathref08_Segments_0 (xe (Xglidepathref08_Segments_0a y)) = (y.1, y.2.1, y.2.2.1, ((y.2.2.2.1.map AV.p).map pA_p), ((y.2.2.2.2.1.map AV.p).map pA_p), ((y.2.2.2.2.2.map AV.p).map pA_p)) from rfl).trans (by simp only [map_back])
theorem XIglidepathref08_Segments_0 (y : Yglidepathref08_Segments_0) : Iglidepathref08_Segments_0 (xe (XLglidepathref08_Segments_0.fn y)) = y := XIglidepathref08_Segments_0a y
noncomputable abbrev Lglidepathref08_Segments_0 : Q → Option Yglidepathref08_Segments_0 := lpO env a28.body 0 XLglidepathref08_Segments_0
noncomputable abbrev Rglidepathref08_Segments_0 : Q → Option (Ext × S) := lpR env a28.body 0
theorem Lglidepathref08_Segments_0a_of {s : Q} {y : Int × Nat × Nat × List PV × List PV × List PV} (h : Rglidepathref08_Segments_0 s = exO (Xglidepathref08_Segments_0a y)) : Lglidepathref08_Segments_0 s = some y := lpO_of Iglidepathref08_Segments_0 XIglidepathref08_Segments_0 (y := y) h
def Tglidepathref08_Segments_2a (n0 : Nat) (c1 : List PV) (i2 : Int) (i3 : Int) (n4 : Nat) (n5 : Nat) (n6 : Nat) (i7 : Int) (b8 : Bool) (i9 : Int) (c10 : List PV) (c11 : List PV) (c12 : List PV) : Q := ⟨(tm 111 [(0, (AV.p (PV.list n0 c1))), (1, (AV.p (PV.int IntKind.i64 i2))), (6, (AV.p (PV.int IntKind.i64 i3))), (7, (AV.msl 21 0 n4 1)), (8, (AV.msl 24 0 n5 1)), (9, (AV.msl 27 0 n6 1)), (10, (AV.p (PV.int IntKind.i64 i7))), (11, (AV.p (PV.bool b8))), (12, (AV.p (PV.int IntKind.i64 i9)))]), (mm 111 [(21, (Bk.pcs true c10)), (24, (Bk.pcs true c11)), (27, (Bk.pcs true c12))])⟩
def Xglidepathref08_Segments_2a (y : Nat × List PV × Int × Int × Nat × Nat × Nat × Int × List PV × List PV × List PV) : Ext × Q := (Ext.normal, ⟨(tm 111 [(0, (AV.p (PV.list y.1 y.2.1))), (1, (AV.p (PV.int IntKind.i64 y.2.2.1))), (6, (AV.p (PV.int IntKind.i64 y.2.2.2.1))), (7, (AV.msl 21 0 y.2.2.2.2.1 1)), (8, (AV.msl 24 0 y.2.2.2.2.2.1 1)), (9, (AV.msl 27 0 y.2.2.2.2.2.2.1 1)), (10, (AV.p (PV.int IntKind.i64 y.2.2.2.2.2.2.2.1)))]), (mm 111 [(21, (Bk.pcs true y.2.2.2.2.2.2.2.2.1)), (24, (Bk.pcs true y.2.2.2.2.2.2.2.2.2.1)), (27, (Bk.pcs true y.2.2.2.2.2.2.2.2.2.2))])⟩)
def Iglidepathref08_Segments_2a (q : Ext × S) : Nat × List PV × Int × Int × Nat × Nat × Nat × Int × List PV × List PV × List PV := ((pP_list0 (pA_p (avT q.2 0))), (pP_list1 (pA_p (avT q.2 0))), (pP_int1 (pA_p (avT q.2 1))), (pP_int1 (pA_p (avT q.2 6))), (pA_msl2 (avT q.2 7)), (pA_msl2 (avT q.2 8)), (pA_msl2 (avT q.2 9)), (pP_int1 (pA_p (avT q.2 10))), (pB_pcs1 (avM q.2 21)), (pB_pcs1 (avM q.2 24)), (pB_pcs1 (avM q.2 27)))
abbrev Yglidepathref08_Segments_2 : Type := Nat × List PV × Int × Int × Nat × Nat × Nat × Int × List PV × List PV × List PV
def XLglidepathref08_Segments_2 : XL Yglidepathref08_Segments_2 := .one Xglidepathref08_Segments_2a
def Iglidepathref08_Segments_2 (q : Ext × S) : Yglidepathref08_Segments_2 := (Iglidepathref08_Segments_2a q)
theorem XIglidepathref08_Segments_2a (y : Nat × List PV × Int × Int × Nat × Nat × Nat × Int × List PV × List PV × List PV) : Iglidepathref08_Segments_2 (xe (Xglidepathref08_Segments_2a y)) = y := (show Iglidepathref08_Segments_2 (xe (Xglidepathref08_Segments_2a y)) = (y.1, y.2.1, y.2.2.1, y.2.2.2.1, y.2.2.2.2.1, y.2.2.2.2.2.1, y.2.2.2.2.2.2.1, y.2.2.2.2.2.2.2.1, ((y.2.2.2.2.2.2.2.2.1.map AV.p).map pA_p), ((y.2.2.2.2.2.2.2.2.2.1.map AV.p).map pA_p), ((y.2.2.2.2.2.2.2.2.2.2.map AV.p).map pA_p)) from rfl).trans (by simp only [map_back])
theorem XIglidepathref08_Segments_2 (y : Yglidepathref08_Segments_2) : Iglidepathref08_Segments_2 (xe (XLglidepathref08_Segments_2.fn y)) = y := XIglidepathref08_Segments_2a y
noncomputable abbrev Lglidepathref08_Segments_2 : Q → Option Yglidepathref08_Segments_2 := lpO env a28.body 2 XLglidepathref08_Segments_2
noncomputable abbrev Rglidepathref08_Segments_2 : Q → Option (Ext × S) := lpR env a28.body 2
theorem Lglidepathref08_Segments_2a_of {s : Q} {y : Nat × List PV × Int × Int × Nat × Nat × Nat × Int × List PV × List PV × List PV} (h : Rglidepathref08_Segments_2 s = exO (Xglidepathref08_Segments_2a y)) : Lglidepathref08_Segments_2 s = some y := lpO_of Iglidepathref08_Segments_2 XIglidepathref08_Segments_2 (y := y) h
def Tglidepathref08_Segments_4a (i0 : Int) (n1 : Nat) (n2 : Nat) (c3 : List PV) (c4 : List PV) (c5 : List PV) : Q := ⟨(tm 111 [(6, (AV.p (PV.int IntKind.i64 i0))), (7, (AV.msl 21 0 n1 1)), (9, (AV.msl 27 0 n2 1)), (15, AV.nilS), (16, (AV.p (PV.int IntKind.i64 (0 : Int))))]), (mm 111 [(21, (Bk.pcs true c3)), (24, (Bk.pcs true c4)), (27, (Bk.pcs true c5))])⟩
def Tglidepathref08_Segments_4b (i0 : Int) (n1 : Nat) (n2 : Nat) (n3 : Nat) (c4 : List PV) (i5 : Int) (c6 : List PV) (c7 : List PV) (n8 : Nat) : Q := ⟨(tm 111 [(6, (AV.p (PV.int IntKind.i64 i0))), (7, (AV.msl 21 0 n1 1)), (9, (AV.msl 27 0 n2 1)), (15, (AV.app 106 n3 1 c4)), (16, (AV.p (PV.int IntKind.i64 i5)))]), (mm 111 [(21, (Bk.pcs true c6)), (27, (Bk.pcs true c7)), (106, (Bk.buf n8))])⟩
def Xglidepathref08_Segments_4a (y : Nat × List PV × List PV) : Ext × Q := (Ext.normal, ⟨(tm 111 [(7, (AV.msl 21 0 y.1 1)), (15, AV.nilS)]), (mm 111 [(21, (Bk.pcs true y.2.1)), (27, (Bk.pcs true y.2.2))])⟩)
def Iglidepathref08_Segments_4a (q : Ext × S) : Nat × List PV × List PV := ((pA_msl2 (avT q.2 7)), (pB_pcs1 (avM q.2 21)), (pB_pcs1 (avM q.2 27)))
def Xglidepathref08_Segments_4b (y : Nat × Nat × List PV × List PV × List PV × Nat) : Ext × Q := (Ext.normal, ⟨(tm 111 [(7, (AV.msl 21 0 y.1 1)), (15, (AV.app 106 y.2.1 1 y.2.2.1))]), (mm 111 [(21, (Bk.pcs true y.2.2.2.1)), (27, (Bk.pcs true y.2.2.2.2.1)), (106, (Bk.buf y.2.2.2.2.2))])⟩)
def Iglidepathref08_Segments_4b (q : Ext × S) : Nat × Nat × List PV × List PV × List PV × Nat := ((pA_msl2 (avT q.2 7)), (pA_app1 (avT q.2 15)), (pA_app3 (avT q.2 15)), (pB_pcs1 (avM q.2 21)), (pB_pcs1 (avM q.2 27)), (pB_buf0 (avM q.2 106)))
abbrev Yglidepathref08_Segments_4 : Type := (Nat × List PV × List PV) ⊕ ((Nat × Nat × List PV × List PV × List PV × Nat))
def XLglidepathref08_Segments_4 : XL Yglidepathref08_Segments_4 := .more Xglidepathref08_Segments_4a (.one Xglidepathref08_Segments_4b)
def Iglidepathref08_Segments_4 (q : Ext × S) : Yglidepathref08_Segments_4 := bif (cA (avT q.2 15) == 1) then (Sum.inl (Iglidepathref08_Segments_4a q)) else (Sum.inr (Iglidepathref08_Segments_4b q))
theorem XIglidepathref08_Segments_4a (y : Nat × List PV × List PV) : Iglidepathref08_Segments_4 (xe (Xglidepathref08_Segments_4a y)) = (Sum.inl y) := (show Iglidepathref08_Segments_4 (xe (Xglidepathref08_Segments_4a y)) = (Sum.inl (y.1, ((y.2.1.map AV.p).map pA_p), ((y.2.2.map AV.p).map pA_p))) from rfl).trans (by simp only [map_back])
theorem XIglidepathref08_Segments_4b (y : Nat × Nat × List PV × List PV × List PV × Nat) : Iglidepathref08_Segments_4 (xe (Xglidepathref08_Segments_4b y)) = (Sum.inr y) := (show Iglidepathref08_Segments_4 (xe (Xglidepathref08_Segments_4b y)) = (Sum.inr (y.1, y.2.1, y.2.2.1, ((y.2.2.2.1.map AV.p).map pA_p), ((y.2.2.2.2.1.map AV.p).map pA_p), y.2.2.2.2.2)) from rfl).trans (by simp only [map_back])
theorem XIglidepathref08_Segments_4 (y : Yglidepathref08_Segments_4) : Iglidepathref08_Segments_4 (xe (XLglidepathref08_Segments_4.fn y)) = y := (match y with | .inl y => XIglidepathref08_Segments_4a y | .inr y => XIglidepathref08_Segments_4b y)
noncomputable abbrev Lglidepathref08_Segments_4 : Q → Option Yglidepathref08_Segments_4 := lpO env a28.body 4 XLglidepathref08_Segments_4
noncomputable abbrev Rglidepathref08_Segments_4 : Q → Option (Ext × S) := lpR env a28.body 4
theorem Lglidepathref08_Segments_4a_of {s : Q} {y : Nat × List PV × List PV} (h : Rglidepathref08_Segments_4 s = exO (Xglidepathref08_Segments_4a y)) : Lglidepathref08_Segments_4 s = some (Sum.inl y) := lpO_of Iglidepathref08_Segments_4 XIglidepathref08_Segments_4 (y := (Sum.inl y)) h
theorem Lglidepathref08_Segments_4b_of {s : Q} {y : Nat × Nat × List PV × List PV × List PV × Nat} (h : Rglidepathref08_Segments_4 s = exO (Xglidepathref08_Segments_4b y)) : Lglidepathref08_Segments_4 s = some (Sum.inr y) := lpO_of Iglidepathref08_Segments_4 XIglidepathref08_Segments_4 (y := (Sum.inr y)) h
theorem Uglidepathref08_Segments : uniq ((blocksOf a28.body).map (·.1)) = true := by kernel_rfl
def Bglidepathref08_Segments_0a (_F : FnT) (N : Q → Option (Ext × S)) (E : Ext × Q → Option (Ext × S)) (_L0 : Q → Option Yglidepathref08_Segments_0) (L2 : Q → Option Yglidepathref08_Segments_2) (_L4 : Q → Option Yglidepathref08_Segments_4) (n0 : Nat) (c1 : List PV) (i2 : Int) (i3 : Int) (n4 : Nat) (n5 : Nat) (n6 : Nat) (i7 : Int) (c8 : List PV) (c9 : List PV) (c10 : List PV) : Option (Ext × S) :=
  bif (decide (i7 ≥ (0 : Int))) then
    bindO (L2 (Tglidepathref08_Segments_2a n0 c1 i2 i3 n4 n5 n6 i7 false (w64 (i7 + (1 : Int))) c8 c9 c10)) fun y0 =>
    N (Tglidepathref08_Segments_0a y0.1 y0.2.1 y0.2.2.1 y0.2.2.2.1 y0.2.2.2.2.1 y0.2.2.2.2.2.1 y0.2.2.2.2.2.2.1 (w64 (y0.2.2.2.2.2.2.2.1 - (1 : Int))) y0.2.2.2.2.2.2.2.2.1 y0.2.2.2.2.2.2.2.2.2.1 y0.2.2.2.2.2.2.2.2.2.2)
  else E (Xglidepathref08_Segments_0a (i3, n4, n6, c8, c9, c10))
theorem Bglidepathref08_Segments_0a_eq (F : FnT) (N : Q → Option (Ext × S)) (E : Ext × Q → Option (Ext × S)) (L0 : Q → Option Yglidepathref08_Segments_0) (L2 : Q → Option Yglidepathref08_Segments_2) (L4 : Q → Option Yglidepathref08_Segments_4) (n0 : Nat) (c1 : List PV) (i2 : Int) (i3 : Int) (n4 : Nat) (n5 : Nat) (n6 : Nat) (i7 : Int) (c8 : List PV) (c9 : List PV) (c10 : List PV) : semB (callP F Eglidepathref08_Segments 20) s28 (loopT [⟨0, Yglidepathref08_Segments_0, L0, XLglidepathref08_Segments_0⟩, ⟨2, Yglidepathref08_Segments_2, L2, XLglidepathref08_Segments_2⟩, ⟨4, Yglidepathref08_Segments_4, L4, XLglidepathref08_Segments_4⟩]) 400 (blkIn a28.body 0) N E (Tglidepathref08_Segments_0a n0 c1 i2 i3 n4 n5 n6 i7 c8 c9 c10) = Bglidepathref08_Segments_0a F N E L0 L2 L4 n0 c1 i2 i3 n4 n5 n6 i7 c8 c9 c10 := by kernel_rfl
theorem Rglidepathref08_Segments_0a_of  (n0 : Nat) (c1 : List PV) (i2 : Int) (i3 : Int) (n4 : Nat) (n5 : Nat) (n6 : Nat) (i7 : Int) (c8 : List PV) (c9 : List PV) (c10 : List PV) {r : Ext × S} (h : Bglidepathref08_Segments_0a (Fn env) Rglidepathref08_Segments_0 exO Lglidepathref08_Segments_0 Lglidepathref08_Segments_2 Lglidepathref08_Segments_4 n0 c1 i2 i3 n4 n5 n6 i7 c8 c9 c10 = some r) : Rglidepathref08_Segments_0 (Tglidepathref08_Segments_0a n0 c1 i2 i3 n4 n5 n6 i7 c8 c9 c10) = some r :=
  lp_of Eglidepathref08_Segments_ok (by kernel_rfl) (lo_cons (lpO_ok Uglidepathref08_Segments) (lo_cons (lpO_ok Uglidepathref08_Segments) (lo_cons (lpO_ok Uglidepathref08_Segments) lo_nil))) (by kernel_rfl) ((Bglidepathref08_Segments_0a_eq _ _ _ _ _ _ _ _ _ _ _ _ _ _ _ _ _).trans h)
def Bglidepathref08_Segments_2a (F : FnT) (N : Q → Option (Ext × S)) (E : Ext × Q → Option (Ext × S)) (_L0 : Q → Option Yglidepathref08_Segments_0) (_L2 : Q → Option Yglidepathref08_Segments_2) (_L4 : Q → Option Yglidepathref08_Segments_4) (n0 : Nat) (c1 : List PV) (i2 : Int) (i3 : Int) (n4 : Nat) (n5 : Nat) (n6 : Nat) (i7 : Int) (b8 : Bool) (i9 : Int) (c10 : List PV) (c11 : List PV) (c12 : List PV) : Option (Ext × S) :=
  bif (decide (i9 ≤ i3)) then
    bindO (F 25 (RSh.one (CK.int IntKind.i64)) [(PV.list n0 c1), (PV.int IntKind.i64 i7), (PV.int IntKind.i64 (w64 (i9 - (1 : Int))))]) fun (y0 : (Int)) =>
    bif (decide (((0 : Int) ≤ i9) ∧ (i9 < (n4 : Int)))) then
      bindO (intC IntKind.i64 (c10[(0 + ((Int.toNat i9) * 1))]?)) fun x1 =>
      bif (decide (((0 : Int) ≤ i9) ∧ (i9 < (n5 : Int)))) then
        bindO (intC IntKind.i64 (c11[(0 + ((Int.toNat i9) * 1))]?)) fun x2 =>
        bif b8 then
          bif (decide (((0 : Int) ≤ i7) ∧ (i7 < (n4 : Int)))) then
            bindO (intC IntKind.i64 (c10[(0 + ((Int.toNat i7) * 1))]?)) fun x3 =>
            bif (decide ((w64 ((w64 (y0 + i2)) + x1)) < x3)) then
              bif (decide (((0 : Int) ≤ i7) ∧ (i7 < (n4 : Int)))) then
                bindO (Gv.overO c10 (0 + ((Int.toNat i7) * 1)) [(PV.int IntKind.i64 (w64 ((w64 (y0 + i2)) + x1)))]) fun x4 =>
                bif (decide (((0 : Int) ≤ i7) ∧ (i7 < (n5 : Int)))) then
                  bindO (Gv.overO c11 (0 + ((Int.toNat i7) * 1)) [(PV.int IntKind.i64 (w64 (x2 + (1 : Int))))]) fun x5 =>
                  bif (decide (((0 : Int) ≤ i7) ∧ (i7 < (n6 : Int)))) then
                    bindO (Gv.overO c12 (0 + ((Int.toNat i7) * 1)) [(PV.int IntKind.i64 i9)]) fun x6 =>
                    N (Tglidepathref08_Segments_2a n0 c1 i2 i3 n4 n5 n6 i7 true (w64 (i9 + (1 : Int))) x4 x5 x6)
                  else none
                else none
              else none
            else bif (decide (((0 : Int) ≤ i7) ∧ (i7 < (n4 : Int)))) then
              bindO (intC IntKind.i64 (c10[(0 + ((Int.toNat i7) * 1))]?)) fun x7 =>
              bif ((w64 ((w64 (y0 + i2)) + x1)) == x7) then
                bif (decide (((0 : Int) ≤ i7) ∧ (i7 < (n5 : Int)))) then
                  bindO (intC IntKind.i64 (c11[(0 + ((Int.toNat i7) * 1))]?)) fun x8 =>
                  bif (decide ((w64 (x2 + (1 : Int))) < x8)) then
                    bif (decide (((0 : Int) ≤ i7) ∧ (i7 < (n4 : Int)))) then
                      bindO (Gv.overO c10 (0 + ((Int.toNat i7) * 1)) [(PV.int IntKind.i64 (w64 ((w64 (y0 + i2)) + x1)))]) fun x9 =>
                      bif (decide (((0 : Int) ≤ i7) ∧ (i7 < (n5 : Int)))) then
                        bindO (Gv.overO c11 (0 + ((Int.toNat i7) * 1)) [(PV.int IntKind.i64 (w64 (x2 + (1 : Int))))]) fun x10 =>
                        bif (decide (((0 : Int) ≤ i7) ∧ (i7 < (n6 : Int)))) then
                          bindO (Gv.overO c12 (0 + ((Int.toNat i7) * 1)) [(PV.int IntKind.i64 i9)]) fun x11 =>
                          N (Tglidepathref08_Segments_2a n0 c1 i2 i3 n4 n5 n6 i7 true (w64 (i9 + (1 : Int))) x9 x10 x11)
                        else none
                      else none
                    else none
                  else N (Tglidepathref08_Segments_2a n0 c1 i2 i3 n4 n5 n6 i7 b8 (w64 (i9 + (1 : Int))) c10 c11 c12)
                else none
              else N (Tglidepathref08_Segments_2a n0 c1 i2 i3 n4 n5 n6 i7 b8 (w64 (i9 + (1 : Int))) c10 c11 c12)
            else none
          else none
        else bif (decide (((0 : Int) ≤ i7) ∧ (i7 < (n4 : Int)))) then
          bindO (Gv.overO c10 (0 + ((Int.toNat i7) * 1)) [(PV.int IntKind.i64 (w64 ((w64 (y0 + i2)) + x1)))]) fun x12 =>
          bif (decide (((0 : Int) ≤ i7) ∧ (i7 < (n5 : Int)))) then
            bindO (Gv.overO c11 (0 + ((Int.toNat i7) * 1)) [(PV.int IntKind.i64 (w64 (x2 + (1 : Int))))]) fun x13 =>
            bif (decide (((0 : Int) ≤ i7) ∧ (i7 < (n6 : Int)))) then
              bindO (Gv.overO c12 (0 + ((Int.toNat i7) * 1)) [(PV.int IntKind.i64 i9)]) fun x14 =>
              N (Tglidepathref08_Segments_2a n0 c1 i2 i3 n4 n5 n6 i7 true (w64 (i9 + (1 : Int))) x12 x13 x14)
            else none
          else none
        else none
      else none
    else none
  else E (Xglidepathref08_Segments_2a (n0, c1, i2, i3, n4, n5, n6, i7, c10, c11, c12))
theorem Bglidepathref08_Segments_2a_eq (F : FnT) (N : Q → Option (Ext × S)) (E : Ext × Q → Option (Ext × S)) (L0 : Q → Option Yglidepathref08_Segments_0) (L2 : Q → Option Yglidepathref08_Segments_2) (L4 : Q → Option Yglidepathref08_Segments_4) (n0 : Nat) (c1 : List PV) (i2 : Int) (i3 : Int) (n4 : Nat) (n5 : Nat) (n6 : Nat) (i7 : Int) (b8 : Bool) (i9 : Int) (c10 : List PV) (c11 : List PV) (c12 : List PV) : semB (callP F Eglidepathref08_Segments 20) s28 (loopT [⟨0, Yglidepathref08_Segments_0, L0, XLglidepathref08_Segments_0⟩, ⟨2, Yglidepathref08_Segments_2, L2, XLglidepathref08_Segments_2⟩, ⟨4, Yglidepathref08_Segments_4, L4, XLglidepathref08_Segments_4⟩]) 400 (blkIn a28.body 2) N E (Tglidepathref08_Segments_2a n0 c1 i2 i3 n4 n5 n6 i7 b8 i9 c10 c11 c12) = Bglidepathref08_Segments_2a F N E L0 L2 L4 n0 c1 i2 i3 n4 n5 n6 i7 b8 i9 c10 c11 c12 := by kernel_rfl
theorem Rglidepathref08_Segments_2a_of  (n0 : Nat) (c1 : List PV) (i2 : Int) (i3 : Int) (n4 : Nat) (n5 : Nat) (n6 : Nat) (i7 : Int) (b8 : Bool) (i9 : Int) (c10 : List PV) (c11 : List PV) (c12 : List PV) {r : Ext × S} (h : Bglidepathref08_Segments_2a (Fn env) Rglidepathref08_Segments_2 exO Lglidepathref08_Segments_0 Lglidepathref08_Segments_2 Lglidepathref08_Segments_4 n0 c1 i2 i3 n4 n5 n6 i7 b8 i9 c10 c11 c12 = some r) : Rglidepathref08_Segments_2 (Tglidepathref08_Segments_2a n0 c1 i2 i3 n4 n5 n6 i7 b8 i9 c10 c11 c12) = some r :=
  lp_of Eglidepathref08_Segments_ok (by kernel_rfl) (lo_cons (lpO_ok Uglidepathref08_Segments) (lo_cons (lpO_ok Uglidepathref08_Segments) (lo_cons (lpO_ok Uglidepathref08_Segments) lo_nil))) (by kernel_rfl) ((Bglidepathref08_Segments_2a_eq _ _ _ _ _ _ _ _ _ _ _ _ _ _ _ _ _ _ _).trans h)
def Bglidepathref08_Segments_4a (_F : FnT) (N : Q → Option (Ext × S)) (E : Ext × Q → Option (Ext × S)) (_L0 : Q → Option Yglidepathref08_Segments_0) (_L2 : Q → Option Yglidepathref08_Segments_2) (_L4 : Q → Option Yglidepathref08_Segments_4) (i0 : Int) (n1 : Nat) (n2 : Nat) (c3 : List PV) (_c4 : List PV) (c5 : List PV) : Option (Ext × S) :=
  bif (decide ((0 : Int) < i0)) then
    bif (decide (((0 : Int) ≤ (0 : Int)) ∧ ((0 : Int) < (n2 : Int)))) then
      bindO (intC IntKind.i64 (c5[0]?)) fun x0 =>
      N (Tglidepathref08_Segments_4b i0 n1 n2 1 [(PV.int IntKind.i64 (0 : Int))] x0 c3 c5 1)
    else none
  else E (Xglidepathref08_Segments_4a (n1, c3, c5))
theorem Bglidepathref08_Segments_4a_eq (F : FnT) (N : Q → Option (Ext × S)) (E : Ext × Q → Option (Ext × S)) (L0 : Q → Option Yglidepathref08_Segments_0) (L2 : Q → Option Yglidepathref08_Segments_2) (L4 : Q → Option Yglidepathref08_Segments_4) (i0 : Int) (n1 : Nat) (n2 : Nat) (c3 : List PV) (c4 : List PV) (c5 : List PV) : semB (callP F Eglidepathref08_Segments 20) s28 (loopT [⟨0, Yglidepathref08_Segments_0, L0, XLglidepathref08_Segments_0⟩, ⟨2, Yglidepathref08_Segments_2, L2, XLglidepathref08_Segments_2⟩, ⟨4, Yglidepathref08_Segments_4, L4, XLglidepathref08_Segments_4⟩]) 400 (blkIn a28.body 4) N E (Tglidepathref08_Segments_4a i0 n1 n2 c3 c4 c5) = Bglidepathref08_Segments_4a F N E L0 L2 L4 i0 n1 n2 c3 c4 c5 := by kernel_rfl
theorem Rglidepathref08_Segments_4a_of  (i0 : Int) (n1 : Nat) (n2 : Nat) (c3 : List PV) (c4 : List PV) (c5 : List PV) {r : Ext × S} (h : Bglidepathref08_Segments_4a (Fn env) Rglidepathref08_Segments_4 exO Lglidepathref08_Segments_0 Lglidepathref08_Segments_2 Lglidepathref08_Segments_4 i0 n1 n2 c3 c4 c5 = some r) : Rglidepathref08_Segments_4 (Tglidepathref08_Segments_4a i0 n1 n2 c3 c4 c5) = some r :=
  lp_of Eglidepathref08_Segments_ok (by kernel_rfl) (lo_cons (lpO_ok Uglidepathref08_Segments) (lo_cons (lpO_ok Uglidepathref08_Segments) (lo_cons (lpO_ok Uglidepathref08_Segments) lo_nil))) (by kernel_rfl) ((Bglidepathref08_Segments_4a_eq _ _ _ _ _ _ _ _ _ _ _ _).trans h)
def Bglidepathref08_Segments_4b (_F : FnT) (N : Q → Option (Ext × S)) (E : Ext × Q → Option (Ext × S)) (_L0 : Q → Option Yglidepathref08_Segments_0) (_L2 : Q → Option Yglidepathref08_Segments_2) (_L4 : Q → Option Yglidepathref08_Segments_4) (i0 : Int) (n1 : Nat) (n2 : Nat) (n3 : Nat) (c4 : List PV) (i5 : Int) (c6 : List PV) (c7 : List PV) (n8 : Nat) : Option (Ext × S) :=
  bif (decide (i5 < i0)) then
    bif (decide ((n8 = n3) ∧ ((n3 + 1) ≤ big))) then
      bif (decide (((0 : Int) ≤ i5) ∧ (i5 < (n2 : Int)))) then
        bindO (intC IntKind.i64 (c7[(0 + ((Int.toNat i5) * 1))]?)) fun x0 =>
        N (Tglidepathref08_Segments_4b i0 n1 n2 (n3 + 1) (c4 ++ [(PV.int IntKind.i64 i5)]) x0 c6 c7 (n3 + 1))
      else none
    else none
  else E (Xglidepathref08_Segments_4b (n1, n3, c4, c6, c7, n8))
theorem Bglidepathref08_Segments_4b_eq (F : FnT) (N : Q → Option (Ext × S)) (E : Ext × Q → Option (Ext × S)) (L0 : Q → Option Yglidepathref08_Segments_0) (L2 : Q → Option Yglidepathref08_Segments_2) (L4 : Q → Option Yglidepathref08_Segments_4) (i0 : Int) (n1 : Nat) (n2 : Nat) (n3 : Nat) (c4 : List PV) (i5 : Int) (c6 : List PV) (c7 : List PV) (n8 : Nat) : semB (callP F Eglidepathref08_Segments 20) s28 (loopT [⟨0, Yglidepathref08_Segments_0, L0, XLglidepathref08_Segments_0⟩, ⟨2, Yglidepathref08_Segments_2, L2, XLglidepathref08_Segments_2⟩, ⟨4, Yglidepathref08_Segments_4, L4, XLglidepathref08_Segments_4⟩]) 400 (blkIn a28.body 4) N E (Tglidepathref08_Segments_4b i0 n1 n2 n3 c4 i5 c6 c7 n8) = Bglidepathref08_Segments_4b F N E L0 L2 L4 i0 n1 n2 n3 c4 i5 c6 c7 n8 := by kernel_rfl
theorem Rglidepathref08_Segments_4b_of  (i0 : Int) (n1 : Nat) (n2 : Nat) (n3 : Nat) (c4 : List PV) (i5 : Int) (c6 : List PV) (c7 : List PV) (n8 : Nat) {r : Ext × S} (h : Bglidepathref08_Segments_4b (Fn env) Rglidepathref08_Segments_4 exO Lglidepathref08_Segments_0 Lglidepathref08_Segments_2 Lglidepathref08_Segments_4 i0 n1 n2 n3 c4 i5 c6 c7 n8 = some r) : Rglidepathref08_Segments_4 (Tglidepathref08_Segments_4b i0 n1 n2 n3 c4 i5 c6 c7 n8) = some r :=
  lp_of Eglidepathref08_Segments_ok (by kernel_rfl) (lo_cons (lpO_ok Uglidepathref08_Segments) (lo_cons (lpO_ok Uglidepathref08_Segments) (lo_cons (lpO_ok Uglidepathref08_Segments) lo_nil))) (by kernel_rfl) ((Bglidepathref08_Segments_4b_eq _ _ _ _ _ _ _ _ _ _ _ _ _ _ _).trans h)
def tglidepathref08_Segments (_F : FnT) (L0 : Q → Option Yglidepathref08_Segments_0) (_L2 : Q → Option Yglidepathref08_Segments_2) (L4 : Q → Option Yglidepathref08_Segments_4) (p0n : Nat) (p0c : List PV) (p1 : Int) : Option (((Nat) × (List PV)) × (Int)) :=
  bif (decide (((w64 ((p0n : Int) + (1 : Int))) = (w64 ((p0n : Int) + (1 : Int)))) ∧ (((0 : Int) ≤ (w64 ((p0n : Int) + (1 : Int)))) ∧ ((w64 ((p0n : Int) + (1 : Int))) ≤ (big : Int))))) then
    bif (decide (((w64 ((p0n : Int) + (1 : Int))) = (w64 ((p0n : Int) + (1 : Int)))) ∧ (((0 : Int) ≤ (w64 ((p0n : Int) + (1 : Int)))) ∧ ((w64 ((p0n : Int) + (1 : Int))) ≤ (big : Int))))) then
      bif (decide (((w64 ((p0n : Int) + (1 : Int))) = (w64 ((p0n : Int) + (1 : Int)))) ∧ (((0 : Int) ≤ (w64 ((p0n : Int) + (1 : Int)))) ∧ ((w64 ((p0n : Int) + (1 : Int))) ≤ (big : Int))))) then
        bindO (L0 (Tglidepathref08_Segments_0a p0n p0c p1 (p0n : Int) (Int.toNat (w64 ((p0n : Int) + (1 : Int)))) (Int.toNat (w64 ((p0n : Int) + (1 : Int)))) (Int.toNat (w64 ((p0n : Int) + (1 : Int)))) (w64 ((p0n : Int) - (1 : Int))) (rep [(PV.int IntKind.i64 (0 : Int))] (Int.toNat (w64 ((p0n : Int) + (1 : Int))))) (rep [(PV.int IntKind.i64 (0 : Int))] (Int.toNat (w64 ((p0n : Int) + (1 : Int))))) (rep [(PV.int IntKind.i64 (0 : Int))] (Int.toNat (w64 ((p0n : Int) + (1 : Int))))))) fun y0 =>
        bindO (L4 (Tglidepathref08_Segments_4a y0.1 y0.2.1 y0.2.2.1 y0.2.2.2.1 y0.2.2.2.2.1 y0.2.2.2.2.2)) fun z =>
        Sum.elim (fun y1 =>
          bif (decide (((0 : Int) ≤ (0 : Int)) ∧ ((0 : Int) < (y1.1 : Int)))) then
            bindO (intC IntKind.i64 (y1.2.1[0]?)) fun x2 =>
            some ((0, []), x2)
          else none) (fun y3 =>
          bif (decide (((0 : Int) ≤ (0 : Int)) ∧ ((0 : Int) < (y3.1 : Int)))) then
            bindO (intC IntKind.i64 (y3.2.2.2.1[0]?)) fun x4 =>
            some ((y3.2.1, y3.2.2.1), x4)
          else none) z
      else none
    else none
  else none
theorem tglidepathref08_Segments_eq (F : FnT) (L0 : Q → Option Yglidepathref08_Segments_0) (L2 : Q → Option Yglidepathref08_Segments_2) (L4 : Q → Option Yglidepathref08_Segments_4) (p0n : Nat) (p0c : List PV) (p1 : Int) : semF (callP F Eglidepathref08_Segments 20) s28 (loopT [⟨0, Yglidepathref08_Segments_0, L0, XLglidepathref08_Segments_0⟩, ⟨2, Yglidepathref08_Segments_2, L2, XLglidepathref08_Segments_2⟩, ⟨4, Yglidepathref08_Segments_4, L4, XLglidepathref08_Segments_4⟩]) 400 a28 [PV.list p0n p0c, PV.int IntKind.i64 p1] (fun rv => decR (RSh.tup [(Prod.mk false [CK.list]), (Prod.mk false [(CK.int IntKind.i64)])]) rv.pv) = tglidepathref08_Segments F L0 L2 L4 p0n p0c p1 := by kernel_rfl
noncomputable abbrev Fglidepathref08_Segments (args : List PV) := Fn env 28 (RSh.tup [(Prod.mk false [CK.list]), (Prod.mk false [(CK.int IntKind.i64)])]) args
theorem Fglidepathref08_Segments_of  (p0n : Nat) (p0c : List PV) (p1 : Int) {res : (((Nat) × (List PV)) × (Int))} (h : tglidepathref08_Segments (Fn env) Lglidepathref08_Segments_0 Lglidepathref08_Segments_2 Lglidepathref08_Segments_4 p0n p0c p1 = some res) : Fglidepathref08_Segments [PV.list p0n p0c, PV.int IntKind.i64 p1] = some res :=
  fn_of Eglidepathref08_Segments_ok rfl rfl (lo_cons (lpO_ok Uglidepathref08_Segments) (lo_cons (lpO_ok Uglidepathref08_Segments) (lo_cons (lpO_ok Uglidepathref08_Segments) lo_nil))) ((tglidepathref08_Segments_eq _ _ _ _ _ _ _).trans h)

end Gv
