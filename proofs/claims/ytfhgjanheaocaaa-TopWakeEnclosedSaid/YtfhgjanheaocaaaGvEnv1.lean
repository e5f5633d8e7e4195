/- Functions that the hand-made proofs call. -/
import Derived.Test.YtfhgjanheaocaaaGvEnvA
namespace Gv
open Go Go.Proofs
def env1 (f : Nat) : Option AFn := match f with
  | 69 => some a69
  | 77 => some a77
  | 105 => some a105
  | 106 => some a106
  | _ => none
theorem env1_ok : EnvOK Try.prog env1 := by
  intro f af h
  unfold env1 at h
  split at h
  · cases h; exact .inl ⟨Try.f69, r69, k69, Try.func69, e69⟩
  · cases h; exact .inl ⟨Try.f77, r77, k77, Try.func77, e77⟩
  · cases h; exact .inl ⟨Try.f105, r105, k105, Try.func105, e105⟩
  · cases h; exact .inl ⟨Try.f106, r106, k106, Try.func106, e106⟩
  · cases h
end Gv
