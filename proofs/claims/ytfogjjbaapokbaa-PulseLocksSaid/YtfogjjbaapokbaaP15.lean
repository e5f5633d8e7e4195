/- What the functions do, round by round: P15. -/
import Derived.Test.YtfogjjbaapokbaaP13
namespace Gv
open Go
set_option maxRecDepth 100000

/-! ### glidepathref01_Sum -/

def Eglidepathref01_Sum : List Entry := []
theorem Eglidepathref01_Sum_ok : ∀ e ∈ Eglidepathref01_Sum, EntOK env e := ent_nil
def Tglidepathref01_Sum_0a (n0 : Nat) (c1 : List PV) (n2 : Nat) (c3 : List PV) (i4 : Int) : Q := ⟨(tm 30 [(0, (AV.p (PV.list n0 c1))), (1, (AV.p (PV.list n2 c3))), (2, (AV.p (PV.int Go.IntKind.i64 i4))), (7, AV.nilS), (8, (AV.p (PV.int Go.IntKind.i64 (0 : Int))))]), (mm 30 [])⟩
def Tglidepathref01_Sum_0b (n0 : Nat) (c1 : List PV) (n2 : Nat) (c3 : List PV) (i4 : Int) (n5 : Nat) (c6 : List PV) (i7 : Int) (n8 : Nat) : Q := ⟨(tm 30 [(0, (AV.p (PV.list n0 c1))), (1, (AV.p (PV.list n2 c3))), (2, (AV.p (PV.int Go.IntKind.i64 i4))), (7, (AV.app 28 n5 1 c6)), (8, (AV.p (PV.int Go.IntKind.i64 i7)))]), (mm 30 [(28, (Bk.buf n8))])⟩
def Xglidepathref01_Sum_0a (y : Unit) : Ext × Q := (Ext.normal, ⟨(tm 30 [(7, AV.nilS)]), (mm 30 [])⟩)
def Iglidepathref01_Sum_0a (q : Ext × S) : Unit := ()
def Xglidepathref01_Sum_0b (y : Nat × List PV × Nat) : Ext × Q := (Ext.normal, ⟨(tm 30 [(7, (AV.app 28 y.1 1 y.2.1))]), (mm 30 [(28, (Bk.buf y.2.2))])⟩)
def Iglidepathref01_Sum_0b (q : Ext × S) : Nat × List PV × Nat := ((pA_app1 (avT q.2 7)), (pA_app3 (avT q.2 7)), (pB_buf0 (avM q.2 28)))
abbrev Yglidepathref01_Sum_0 : Type := (Unit) ⊕ ((Nat × List PV × Nat))
def XLglidepathref01_Sum_0 : XL Yglidepathref01_Sum_0 := .more Xglidepathref01_Sum_0a (.one Xglidepathref01_Sum_0b)
def Iglidepathref01_Sum_0 (q : Ext × S) : Yglidepathref01_Sum_0 := bif (cA (avT q.2 7) == 1) then (Sum.inl (Iglidepathref01_Sum_0a q)) else (Sum.inr (Iglidepathref01_Sum_0b q))
theorem XIglidepathref01_Sum_0a (y : Unit) : Iglidepathref01_Sum_0 (xe (Xglidepathref01_Sum_0a y)) = (Sum.inl y) := rfl
theorem XIglidepathref01_Sum_0b (y : Nat × List PV × Nat) : Iglidepathref01_Sum_0 (xe (Xglidepathref01_Sum_0b y)) = (Sum.inr y) := rfl
theorem XIglidepathref01_Sum_0 (y : Yglidepathref01_Sum_0) : Iglidepathref01_Sum_0 (xe (XLglidepathref01_Sum_0.fn y)) = y := (match y with | .inl y => XIglidepathref01_Sum_0a y | .inr y => XIglidepathref01_Sum_0b y)
noncomputable abbrev Lglidepathref01_Sum_0 : Q → Option Yglidepathref01_Sum_0 := lpO env a137.body 0 XLglidepathref01_Sum_0
noncomputable abbrev Rglidepathref01_Sum_0 : Q → Option (Ext × S) := lpR env a137.body 0
theorem Lglidepathref01_Sum_0a_of {s : Q} {y : Unit} (h : Rglidepathref01_Sum_0 s = exO (Xglidepathref01_Sum_0a y)) : Lglidepathref01_Sum_0 s = some (Sum.inl y) := lpO_of Iglidepathref01_Sum_0 XIglidepathref01_Sum_0 (y := (Sum.inl y)) h
theorem Lglidepathref01_Sum_0b_of {s : Q} {y : Nat × List PV × Nat} (h : Rglidepathref01_Sum_0 s = exO (Xglidepathref01_Sum_0b y)) : Lglidepathref01_Sum_0 s = some (Sum.inr y) := lpO_of Iglidepathref01_Sum_0 XIglidepathref01_Sum_0 (y := (Sum.inr y)) h
theorem Uglidepathref01_Sum : uniq ((blocksOf a137.body).map (·.1)) = true := by kernel_rfl
def Bglidepathref01_Sum_0a (F : FnT) (N : Q → Option (Ext × S)) (E : Ext × Q → Option (Ext × S)) (L0 : Q → Option Yglidepathref01_Sum_0) (n0 : Nat) (c1 : List PV) (n2 : Nat) (c3 : List PV) (i4 : Int) : Option (Ext × S) :=
  bif (decide ((0 : Int) < (n0 : Int))) then
    bif (decide (((0 : Int) ≤ (0 : Int)) ∧ ((0 : Int) < (n0 : Int)))) then
      bindO (Gv.intC Go.IntKind.i64 (c1[0]?)) fun x0 =>
      bif (decide (((0 : Int) ≤ (0 : Int)) ∧ ((0 : Int) < (n2 : Int)))) then
        bindO (Gv.intC Go.IntKind.i64 (c3[0]?)) fun x1 =>
        N (Tglidepathref01_Sum_0b n0 c1 n2 c3 i4 1 [(Gv.PV.int Go.IntKind.i64 (w64 (x0 + (w64 (i4 * x1)))))] (1 : Int) 1)
      else none
    else none
  else E (Xglidepathref01_Sum_0a ())
theorem Bglidepathref01_Sum_0a_eq (F : FnT) (N : Q → Option (Ext × S)) (E : Ext × Q → Option (Ext × S)) (L0 : Q → Option Yglidepathref01_Sum_0) (n0 : Nat) (c1 : List PV) (n2 : Nat) (c3 : List PV) (i4 : Int) : semB (callP F Eglidepathref01_Sum 20) s137 (loopT [⟨0, Yglidepathref01_Sum_0, L0, XLglidepathref01_Sum_0⟩]) 400 (blkIn a137.body 0) N E (Tglidepathref01_Sum_0a n0 c1 n2 c3 i4) = Bglidepathref01_Sum_0a F N E L0 n0 c1 n2 c3 i4 := by kernel_rfl
theorem Rglidepathref01_Sum_0a_of  (n0 : Nat) (c1 : List PV) (n2 : Nat) (c3 : List PV) (i4 : Int) {r : Ext × S} (h : Bglidepathref01_Sum_0a (Fn env) Rglidepathref01_Sum_0 exO Lglidepathref01_Sum_0 n0 c1 n2 c3 i4 = some r) : Rglidepathref01_Sum_0 (Tglidepathref01_Sum_0a n0 c1 n2 c3 i4) = some r :=
  lp_of Eglidepathref01_Sum_ok (by kernel_rfl) (lo_cons (lpO_ok Uglidepathref01_Sum) lo_nil) (by kernel_rfl) ((Bglidepathref01_Sum_0a_eq _ _ _ _ _ _ _ _ _).trans h)
def Bglidepathref01_Sum_0b (F : FnT) (N : Q → Option (Ext × S)) (E : Ext × Q → Option (Ext × S)) (L0 : Q → Option Yglidepathref01_Sum_0) (n0 : Nat) (c1 : List PV) (n2 : Nat) (c3 : List PV) (i4 : Int) (n5 : Nat) (c6 : List PV) (i7 : Int) (n8 : Nat) : Option (Ext × S) :=
  bif (decide (i7 < (n0 : Int))) then
    bif (decide (((0 : Int) ≤ i7) ∧ (i7 < (n0 : Int)))) then
      bindO (Gv.intC Go.IntKind.i64 (c1[((Int.toNat i7) * 1)]?)) fun x0 =>
      bif (decide (((0 : Int) ≤ i7) ∧ (i7 < (n2 : Int)))) then
        bindO (Gv.intC Go.IntKind.i64 (c3[((Int.toNat i7) * 1)]?)) fun x1 =>
        bif (decide ((n8 = n5) ∧ ((n5 + 1) ≤ Gv.big))) then
          N (Tglidepathref01_Sum_0b n0 c1 n2 c3 i4 (n5 + 1) (c6 ++ [(Gv.PV.int Go.IntKind.i64 (w64 (x0 + (w64 (i4 * x1)))))]) (w64 (i7 + (1 : Int))) (n5 + 1))
        else none
      else none
    else none
  else E (Xglidepathref01_Sum_0b (n5, c6, n8))
theorem Bglidepathref01_Sum_0b_eq (F : FnT) (N : Q → Option (Ext × S)) (E : Ext × Q → Option (Ext × S)) (L0 : Q → Option Yglidepathref01_Sum_0) (n0 : Nat) (c1 : List PV) (n2 : Nat) (c3 : List PV) (i4 : Int) (n5 : Nat) (c6 : List PV) (i7 : Int) (n8 : Nat) : semB (callP F Eglidepathref01_Sum 20) s137 (loopT [⟨0, Yglidepathref01_Sum_0, L0, XLglidepathref01_Sum_0⟩]) 400 (blkIn a137.body 0) N E (Tglidepathref01_Sum_0b n0 c1 n2 c3 i4 n5 c6 i7 n8) = Bglidepathref01_Sum_0b F N E L0 n0 c1 n2 c3 i4 n5 c6 i7 n8 := by kernel_rfl
theorem Rglidepathref01_Sum_0b_of  (n0 : Nat) (c1 : List PV) (n2 : Nat) (c3 : List PV) (i4 : Int) (n5 : Nat) (c6 : List PV) (i7 : Int) (n8 : Nat) {r : Ext × S} (h : Bglidepathref01_Sum_0b (Fn env) Rglidepathref01_Sum_0 exO Lglidepathref01_Sum_0 n0 c1 n2 c3 i4 n5 c6 i7 n8 = some r) : Rglidepathref01_Sum_0 (Tglidepathref01_Sum_0b n0 c1 n2 c3 i4 n5 c6 i7 n8) = some r :=
  lp_of Eglidepathref01_Sum_ok (by kernel_rfl) (lo_cons (lpO_ok Uglidepathref01_Sum) lo_nil) (by kernel_rfl) ((Bglidepathref01_Sum_0b_eq _ _ _ _ _ _ _ _ _ _ _ _ _).trans h)
def tglidepathref01_Sum (F : FnT) (L0 : Q → Option Yglidepathref01_Sum_0) (p0n : Nat) (p0c : List PV) (p1n : Nat) (p1c : List PV) (p2 : Int) : Option ((Nat) × (List PV)) :=
  bindO (L0 (Tglidepathref01_Sum_0a p0n p0c p1n p1c p2)) fun z =>
  Sum.elim (fun y0 =>
    some (0, [])) (fun y1 =>
    bif (decide (y1.2.2 = y1.1)) then
      some (y1.1, y1.2.1)
    else none) z
theorem tglidepathref01_Sum_eq (F : FnT) (L0 : Q → Option Yglidepathref01_Sum_0) (p0n : Nat) (p0c : List PV) (p1n : Nat) (p1c : List PV) (p2 : Int) : semF (callP F Eglidepathref01_Sum 20) s137 (loopT [⟨0, Yglidepathref01_Sum_0, L0, XLglidepathref01_Sum_0⟩]) 400 a137 [PV.list p0n p0c, PV.list p1n p1c, PV.int Go.IntKind.i64 p2] (fun rv => decR (Gv.RSh.one Gv.CK.list) rv.pv) = tglidepathref01_Sum F L0 p0n p0c p1n p1c p2 := by kernel_rfl
noncomputable abbrev Fglidepathref01_Sum (args : List PV) := Fn env 137 (Gv.RSh.one Gv.CK.list) args
theorem Fglidepathref01_Sum_of  (p0n : Nat) (p0c : List PV) (p1n : Nat) (p1c : List PV) (p2 : Int) {res : ((Nat) × (List PV))} (h : tglidepathref01_Sum (Fn env) Lglidepathref01_Sum_0 p0n p0c p1n p1c p2 = some res) : Fglidepathref01_Sum [PV.list p0n p0c, PV.list p1n p1c, PV.int Go.IntKind.i64 p2] = some res :=
  fn_of Eglidepathref01_Sum_ok rfl rfl (lo_cons (lpO_ok Uglidepathref01_Sum) lo_nil) ((tglidepathref01_Sum_eq _ _ _ _ _ _ _).trans h)

end Gv
