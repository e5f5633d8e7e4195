/- slices.Contains at this program. -/
import Derived.Test.YtfhgjanheaocaaaGvEnvA
namespace Gv
open Go Go.Proofs
def env0 (f : Nat) : Option AFn := match f with
  | 74 => some a74
  | 94 => some a94
  | _ => none
theorem env0_ok : EnvOK Try.prog env0 := by
  intro f af h
  unfold env0 at h
  split at h
  · cases h; exact .inl ⟨Try.f74, r74, k74, Try.func74, e74⟩
  · cases h; exact .inl ⟨Try.f94, r94, k94, Try.func94, e94⟩
  · cases h
end Gv
