/- What the functions do, round by round: P5b. -/
import Derived.Test.YtggnifebabjoiaaGvEnv
namespace Gv
open Go
set_option maxRecDepth 100000
def ErCopP : List Entry := []
theorem ErCopP_ok : ∀ e ∈ ErCopP, EntOK env e := ent_nil
def trCopP (_F : FnT) (p0n : Nat) (p0c : List PV) : Option ((Nat) × (List PV)) :=
  bif (decide (p0n = 0)) then
    some (0, [])
  else bif (decide ((List.length p0c) = (p0n * 3))) then
    bif (decide ((0 = 0) ∧ ((0 + p0n) ≤ big))) then
      bif (decide ((0 + p0n) = (0 + p0n))) then
        some ((0 + p0n), ([] ++ p0c))
      else none
    else none
  else none
theorem trCopP_eq (F : FnT) (p0n : Nat) (p0c : List PV) : semF (callP F ErCopP 20) s22 (loopT []) 400 a22 [PV.list p0n p0c] (fun rv => decR (RSh.one CK.list) rv.pv) = trCopP F p0n p0c := by kernel_rfl
noncomputable abbrev FrCopP (args : List PV) := Fn env 22 (RSh.one CK.list) args
theorem FrCopP_of  (p0n : Nat) (p0c : List PV) {res : ((Nat) × (List PV))} (h : trCopP (Fn env) p0n p0c = some res) : FrCopP [PV.list p0n p0c] = some res :=
  fn_of ErCopP_ok rfl rfl lo_nil ((trCopP_eq _ _ _).trans h)
def Efew : List Entry := []
theorem Efew_ok : ∀ e ∈ Efew, EntOK env e := ent_nil
def tfew (_F : FnT) (p0n : Nat) (_p0c : List PV) : Option (Bool) :=
  bif (decide ((p0n : Int) ≤ (22 : Int))) then
    some true
  else some false
theorem tfew_eq (F : FnT) (p0n : Nat) (p0c : List PV) : semF (callP F Efew 20) s20 (loopT []) 400 a20 [PV.list p0n p0c] (fun rv => decR (RSh.one CK.bool) rv.pv) = tfew F p0n p0c := by kernel_rfl
noncomputable abbrev Ffew (args : List PV) := Fn env 20 (RSh.one CK.bool) args
theorem Ffew_of  (p0n : Nat) (p0c : List PV) {res : (Bool)} (h : tfew (Fn env) p0n p0c = some res) : Ffew [PV.list p0n p0c] = some res :=
  fn_of Efew_ok rfl rfl lo_nil ((tfew_eq _ _ _).trans h)
end Gv
