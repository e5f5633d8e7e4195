/- slices.Contains at this program. -/
import Derived.Test.YtnoifjomlmadkaaGvEnvA
import Derived.Test.YtnoifjomlmadkaaGvEnvB
namespace Gv
open Go Go.Proofs
def env0 (f : Nat) : Option AFn := match f with
  | 118 => some a118
  | 128 => some a128
  | _ => none
theorem env0_ok : EnvOK Try.prog env0 := by
  intro f af h
  unfold env0 at h
  split at h
  · cases h; exact .inl ⟨Try.f118, r118, k118, Try.func118, e118⟩
  · cases h; exact .inl ⟨Try.f128, r128, k128, Try.func128, e128⟩
  · cases h
end Gv
