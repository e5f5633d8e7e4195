/- What the functions do, round by round: P5b. -/
import Derived.Test.YtggnifebabjoiaaGvEnv
namespace Gv
open Go
set_option maxRecDepth 100000
def EfewE : List Entry := []
theorem EfewE_ok : ∀ e ∈ EfewE, EntOK env e := ent_nil
def tfewE (_F : FnT) (p0n : Nat) (_p0c : List PV) : Option (Bool) :=
  bif (decide ((p0n : Int) ≤ (42 : Int))) then
    some true
  else some false
theorem tfewE_eq (F : FnT) (p0n : Nat) (p0c : List PV) : semF (callP F EfewE 20) s53 (loopT []) 400 a53 [PV.list p0n p0c] (fun rv => decR (RSh.one CK.bool) rv.pv) = tfewE F p0n p0c := by kernel_rfl
noncomputable abbrev FfewE (args : List PV) := Fn env 53 (RSh.one CK.bool) args
theorem FfewE_of  (p0n : Nat) (p0c : List PV) {res : (Bool)} (h : tfewE (Fn env) p0n p0c = some res) : FfewE [PV.list p0n p0c] = some res :=
  fn_of EfewE_ok rfl rfl lo_nil ((tfewE_eq _ _ _).trans h)
end Gv
