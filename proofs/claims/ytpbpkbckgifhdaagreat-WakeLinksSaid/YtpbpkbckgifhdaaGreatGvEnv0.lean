/- slices.Contains at this program. -/
import Derived.Test.YtpbpkbckgifhdaaGreatGvEnvA
namespace Gv
open Go Go.Proofs
def env0 (f : Nat) : Option AFn := match f with
 | 72 => some a72
 | 100 => some a100
 | _ => none
theorem env0_ok : EnvOK Tryz.prog env0 := by
 intro f af h
 unfold env0 at h
 split at h
 ·cases h; exact .inl ⟨Tryz.f72, r72, k72, Tryz.func72, e72⟩
 ·cases h; exact .inl ⟨Tryz.f100, r100, k100, Tryz.func100, e100⟩
 ·cases h
end Gv
