/- What the functions do, round by round: P5b. -/
import Derived.Test.YtggnifebabjoiaaGvEnv
namespace Gv
open Go
set_option maxRecDepth 100000
def Efew : List Entry := []
theorem Efew_ok : ∀ e ∈ Efew, EntOK env e := ent_nil
def tfew (_F : FnT) (p0n : Nat) (_p0c : List PV) : Option (Bool) :=
  bif (decide ((p0n : Int) ≤ (22 : Int))) then
    some true
  else some false
theorem tfew_eq (F : FnT) (p0n : Nat) (p0c : List PV) : semF (callP F Efew 20) s20 (loopT []) 400 a20 [PV.list p0n p0c] (fun rv => decR (RSh.one CK.bool) rv.pv) = tfew F p0n p0c := by kernel_rfl
noncomputable abbrev Ffew (args : List PV) := Fn env 20 (RSh.one CK.bool) args
theorem Ffew_of  (p0n : Nat) (p0c : List PV) {res : (Bool)} (h : tfew (Fn env) p0n p0c = some res) : Ffew [PV.list p0n p0c] = some res :=
  fn_of Efew_ok rfl rfl lo_nil ((tfew_eq _ _ _).trans h)
end Gv
