/- What the functions do, round by round: B2. -/
import Derived.Test.YtpbpkbckgifhdaaGvEnv
namespace Gv
open Go
set_option maxRecDepth 100000
def EbWi : List Entry := []
theorem EbWi_ok : ∀ e ∈ EbWi, EntOK env e := ent_nil
def tbWi (_F : FnT) (p0 p1 p2 : Int) : Option (Bool) :=
  bif (decide (p1 ≤ p0)) then
    bif (decide (p0 ≤ p2)) then
      some true
    else some false
  else some false
theorem tbWi_eq (F : FnT) (p0 p1 p2 : Int) : semF (callP F EbWi 20) s23 (loopT []) 400 a23 [PV.int .i64 p0, PV.int .i64 p1, PV.int .i64 p2] (fun rv => decR (RSh.one CK.bool) rv.pv) = tbWi F p0 p1 p2 := by kernel_rfl
noncomputable abbrev FbWi (args : List PV) := Fn env 23 (RSh.one CK.bool) args
theorem FbWi_of  (p0 p1 p2 : Int) {res : (Bool)} (h : tbWi (Fn env) p0 p1 p2 = some res) : FbWi [PV.int .i64 p0, PV.int .i64 p1, PV.int .i64 p2] = some res :=
  fn_of EbWi_ok rfl rfl lo_nil ((tbWi_eq _ _ _ _).trans h)
end Gv
