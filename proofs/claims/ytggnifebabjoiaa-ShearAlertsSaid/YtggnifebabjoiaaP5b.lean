/- What the functions do, round by round: P5b. -/
import Derived.Test.YtggnifebabjoiaaGvEnv
namespace Gv
open Go
set_option maxRecDepth 100000
def ErCopE : List Entry := []
theorem ErCopE_ok : ∀ e ∈ ErCopE, EntOK env e := ent_nil
def trCopE (_F : FnT) (p0n : Nat) (p0c : List PV) : Option ((Nat) × (List PV)) :=
  bif (decide (p0n = 0)) then
    some (0, [])
  else bif (decide ((List.length p0c) = (p0n * 3))) then
    bif (decide ((0 = 0) ∧ ((0 + p0n) ≤ big))) then
      bif (decide ((0 + p0n) = (0 + p0n))) then
        some ((0 + p0n), ([] ++ p0c))
      else none
    else none
  else none
theorem trCopE_eq (F : FnT) (p0n : Nat) (p0c : List PV) : semF (callP F ErCopE 20) s55 (loopT []) 400 a55 [PV.list p0n p0c] (fun rv => decR (RSh.one CK.list) rv.pv) = trCopE F p0n p0c := by kernel_rfl
noncomputable abbrev FrCopE (args : List PV) := Fn env 55 (RSh.one CK.list) args
theorem FrCopE_of  (p0n : Nat) (p0c : List PV) {res : ((Nat) × (List PV))} (h : trCopE (Fn env) p0n p0c = some res) : FrCopE [PV.list p0n p0c] = some res :=
  fn_of ErCopE_ok rfl rfl lo_nil ((trCopE_eq _ _ _).trans h)
def ErSamA : List Entry := []
theorem ErSamA_ok : ∀ e ∈ ErSamA, EntOK env e := ent_nil
def TrSamA_0a (n0 : Nat) (c1 : List PV) (n2 : Nat) (c3 : List PV) (i4 : Int) : Q := ⟨(tm 26 [(0, (AV.p (PV.list n0 c1))), (1, (AV.p (PV.list n2 c3))), (5, (AV.p (PV.int .i64 i4)))]), (mm 26 [])⟩
def XrSamA_0a (_y : Unit) : Ext × Q := (Ext.ret, ⟨(tm 26 [(4, (AV.p (PV.bool false)))]), (mm 26 [])⟩)
def IrSamA_0a (_q : Ext × S) : Unit := ()
def XrSamA_0b (_y : Unit) : Ext × Q := (Ext.normal, ⟨(tm 26 []), (mm 26 [])⟩)
def IrSamA_0b (_q : Ext × S) : Unit := ()
abbrev YrSamA_0 : Type := (Unit) ⊕ ((Unit))
def XLrSamA_0 : XL YrSamA_0 := .more XrSamA_0a (.one XrSamA_0b)
def IrSamA_0 (q : Ext × S) : YrSamA_0 := bif (cE q.1 == 2) then (Sum.inl (IrSamA_0a q)) else (Sum.inr (IrSamA_0b q))
theorem XIrSamA_0a (y : Unit) : IrSamA_0 (xe (XrSamA_0a y)) = (Sum.inl y) := rfl
theorem XIrSamA_0b (y : Unit) : IrSamA_0 (xe (XrSamA_0b y)) = (Sum.inr y) := rfl
theorem XIrSamA_0 (y : YrSamA_0) : IrSamA_0 (xe (XLrSamA_0.fn y)) = y := (match y with | .inl y => XIrSamA_0a y | .inr y => XIrSamA_0b y)
noncomputable abbrev LrSamA_0 : Q → Option YrSamA_0 := lpO env a59.body 0 XLrSamA_0
noncomputable abbrev RrSamA_0 : Q → Option (Ext × S) := lpR env a59.body 0
theorem UrSamA : uniq ((blocksOf a59.body).map (·.1)) = true := by kernel_rfl
def BrSamA_0a (_F : FnT) (N : QO) (E : EO) (_L0 : Q → Option YrSamA_0) (n0 : Nat) (c1 : List PV) (n2 : Nat) (c3 : List PV) (i4 : Int) : Option (Ext × S) :=
  bif (decide (i4 < (n0 : Int))) then
    bif (decide (((0 : Int) ≤ i4) ∧ (i4 < (n0 : Int)))) then
      bindO (intC .i64 (c1[((Int.toNat i4) * 3)]?)) fun x0 =>
      bindO (intC .i64 (c1[(((Int.toNat i4) * 3) + 1)]?)) fun x1 =>
      bindO (intC .i64 (c1[((((Int.toNat i4) * 3) + 1) + 1)]?)) fun x2 =>
      bif (decide (((0 : Int) ≤ i4) ∧ (i4 < (n2 : Int)))) then
        bindO (intC .i64 (c3[((Int.toNat i4) * 3)]?)) fun x3 =>
        bindO (intC .i64 (c3[(((Int.toNat i4) * 3) + 1)]?)) fun x4 =>
        bindO (intC .i64 (c3[((((Int.toNat i4) * 3) + 1) + 1)]?)) fun x5 =>
        bif (!((x0 == x3) && ((x1 == x4) && ((x2 == x5) && true)))) then
          E (XrSamA_0a ())
        else N (TrSamA_0a n0 c1 n2 c3 (w64 (i4 + (1 : Int))))
      else none
    else none
  else E (XrSamA_0b ())
theorem BrSamA_0a_eq (F : FnT) (N : QO) (E : EO) (L0 : Q → Option YrSamA_0) (n0 : Nat) (c1 : List PV) (n2 : Nat) (c3 : List PV) (i4 : Int) : semB (callP F ErSamA 20) s59 (loopT [⟨0, YrSamA_0, L0, XLrSamA_0⟩]) 400 (blkIn a59.body 0) N E (TrSamA_0a n0 c1 n2 c3 i4) = BrSamA_0a F N E L0 n0 c1 n2 c3 i4 := by kernel_rfl
theorem RrSamA_0a_of  (n0 : Nat) (c1 : List PV) (n2 : Nat) (c3 : List PV) (i4 : Int) {r : Ext × S} (h : BrSamA_0a (Fn env) RrSamA_0 exO LrSamA_0 n0 c1 n2 c3 i4 = some r) : RrSamA_0 (TrSamA_0a n0 c1 n2 c3 i4) = some r :=
  lp_of ErSamA_ok (by kernel_rfl) (lo_cons (lpO_ok UrSamA) lo_nil) (by kernel_rfl) ((BrSamA_0a_eq _ _ _ _ _ _ _ _ _).trans h)
def trSamA (_F : FnT) (L0 : Q → Option YrSamA_0) (p0n : Nat) (p0c : List PV) (p1n : Nat) (p1c : List PV) : Option (Bool) :=
  bif ((p0n : Int) != (p1n : Int)) then
    some false
  else bindO (L0 (TrSamA_0a p0n p0c p1n p1c (0 : Int))) fun z =>
  Sum.elim (fun _y0 =>
    some false) (fun _y1 =>
    some true) z
theorem trSamA_eq (F : FnT) (L0 : Q → Option YrSamA_0) (p0n : Nat) (p0c : List PV) (p1n : Nat) (p1c : List PV) : semF (callP F ErSamA 20) s59 (loopT [⟨0, YrSamA_0, L0, XLrSamA_0⟩]) 400 a59 [PV.list p0n p0c, PV.list p1n p1c] (fun rv => decR (RSh.one CK.bool) rv.pv) = trSamA F L0 p0n p0c p1n p1c := by kernel_rfl
noncomputable abbrev FrSamA (args : List PV) := Fn env 59 (RSh.one CK.bool) args
theorem FrSamA_of  (p0n : Nat) (p0c : List PV) (p1n : Nat) (p1c : List PV) {res : (Bool)} (h : trSamA (Fn env) LrSamA_0 p0n p0c p1n p1c = some res) : FrSamA [PV.list p0n p0c, PV.list p1n p1c] = some res :=
  fn_of ErSamA_ok rfl rfl (lo_cons (lpO_ok UrSamA) lo_nil) ((trSamA_eq _ _ _ _ _ _).trans h)
def EfewE : List Entry := []
theorem EfewE_ok : ∀ e ∈ EfewE, EntOK env e := ent_nil
def tfewE (_F : FnT) (p0n : Nat) (_p0c : List PV) : Option (Bool) :=
  bif (decide ((p0n : Int) ≤ (42 : Int))) then
    some true
  else some false
theorem tfewE_eq (F : FnT) (p0n : Nat) (p0c : List PV) : semF (callP F EfewE 20) s53 (loopT []) 400 a53 [PV.list p0n p0c] (fun rv => decR (RSh.one CK.bool) rv.pv) = tfewE F p0n p0c := by kernel_rfl
noncomputable abbrev FfewE (args : List PV) := Fn env 53 (RSh.one CK.bool) args
theorem FfewE_of  (p0n : Nat) (p0c : List PV) {res : (Bool)} (h : tfewE (Fn env) p0n p0c = some res) : FfewE [PV.list p0n p0c] = some res :=
  fn_of EfewE_ok rfl rfl lo_nil ((tfewE_eq _ _ _).trans h)
end Gv
