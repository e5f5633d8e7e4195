/- Functions that the hand-made proofs call. -/
import Derived.Test.YtpbpkbckgifhdaaGvEnvA
namespace Gv
open Go Go.Proofs
def env1 (f : Nat) : Option AFn := match f with
 | 95 => some a95
 | 108 => some a108
 | 139 => some a139
 | 146 => some a146
 | 166 => some a166
 | _ => none
theorem env1_ok : EnvOK Try.prog env1 := by
 intro f af h
 unfold env1 at h
 split at h
 ·cases h; exact .inl ⟨Try.f95, r95, k95, Try.func95, e95⟩
 ·cases h; exact .inl ⟨Try.f108, r108, k108, Try.func108, e108⟩
 ·cases h; exact .inl ⟨Try.f139, r139, k139, Try.func139, e139⟩
 ·cases h; exact .inl ⟨Try.f146, r146, k146, Try.func146, e146⟩
 ·cases h; exact .inl ⟨Try.f166, r166, k166, Try.func166, e166⟩
 ·cases h
end Gv
