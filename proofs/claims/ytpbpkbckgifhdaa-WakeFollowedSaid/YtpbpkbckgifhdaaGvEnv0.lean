/- slices.Contains at this program. -/
import Derived.Test.YtpbpkbckgifhdaaGvEnvA
namespace Gv
open Go Go.Proofs
def env0 (f : Nat) : Option AFn := match f with
 | 115 => some a115
 | 152 => some a152
 | _ => none
theorem env0_ok : EnvOK Try.prog env0 := by
 intro f af h
 unfold env0 at h
 split at h
 ·cases h; exact .inl ⟨Try.f115, r115, k115, Try.func115, e115⟩
 ·cases h; exact .inl ⟨Try.f152, r152, k152, Try.func152, e152⟩
 ·cases h
end Gv
