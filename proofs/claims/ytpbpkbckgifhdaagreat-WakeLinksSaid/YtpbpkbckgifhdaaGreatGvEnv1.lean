/- Functions that the hand-made proofs call. -/
import Derived.Test.YtpbpkbckgifhdaaGreatGvEnvA
namespace Gv
open Go Go.Proofs
def env1 (f : Nat) : Option AFn := match f with
 | 49 => some a49
 | 19 => some a19
 | 108 => some a108
 | 92 => some a92
 | 95 => some a95
 | _ => none
theorem env1_ok : EnvOK Tryz.prog env1 := by
 intro f af h
 unfold env1 at h
 split at h
 ·cases h; exact .inl ⟨Tryz.f49, r49, k49, Tryz.func49, e49⟩
 ·cases h; exact .inl ⟨Tryz.f19, r19, k19, Tryz.func19, e19⟩
 ·cases h; exact .inl ⟨Tryz.f108, r108, k108, Tryz.func108, e108⟩
 ·cases h; exact .inl ⟨Tryz.f92, r92, k92, Tryz.func92, e92⟩
 ·cases h; exact .inl ⟨Tryz.f95, r95, k95, Tryz.func95, e95⟩
 ·cases h
end Gv
