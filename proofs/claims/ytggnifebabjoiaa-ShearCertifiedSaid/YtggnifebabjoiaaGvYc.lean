/- What a function yields, by what it yields when it is stopped. -/
import Derived.Test.YtggnifebabjoiaaGvY
namespace Gv
open Go
variable {env : Nat → Option AFn}
theorem run_iter_val {f : Nat} {sh : List (Option Nat)} {k : Nat} {caps : List PV} {rv : RV} (h : run env f (.it sh (k + 1) :: caps) = some rv) : ∃ v, rv = .val v := by
  rw [run_eq f _ (fun sh caps e => by cases e)] at h
  split at h <;> try (cases h; done)
  split at h <;> try (cases h; done)
  rename_i af haf hc
  have hy := hc.2
  simp only [yOK, Bool.and_eq_true] at hy
  have hres : af.res = [] := List.isEmpty_iff.1 hy.2
  have key : ∀ s : S, result s af.res = some rv → ∃ v, rv = .val v := fun s hs => by
    rw [hres] at hs
    unfold result at hs
    split at hs
    · simp at hs; exact ⟨_, hs.symm⟩
    · simp [resAll] at hs; exact ⟨_, hs.symm⟩
  split at h
  · exact key _ h
  · exact key _ h
  · cases h
theorem it_of {f : Nat} {sh : List (Option Nat)} {caps : List PV} {N : Nat} {cs : List PV} (h1 : N ≤ big) (h2 : cs.length = N * shSize sh)
    (h : ∀ k, k ≤ N → Fn env f (.one .list) (.it sh (k + 1) :: caps) = some (min (k + 1) N, cs.take (min (k + 1) N * shSize sh))) : Fn env f (.one .list) (.it sh 0 :: caps) = some (N, cs) := by
  have hf : Full (fun k => run env f (.it sh k :: caps)) sh N cs := by
    refine ⟨h1, h2, fun k hk => ?_⟩
    obtain ⟨rv, h3, h4⟩ := Fn_some (h k hk)
    obtain ⟨v, rfl⟩ := run_iter_val h3
    show run env f (.it sh (k + 1) :: caps) = _
    rw [h3]
    cases v <;> simp only [decR, RV.pv] at h4 <;> first | (cases h4; done) | skip
    all_goals (cases h4; rfl)
  unfold Fn
  rw [run_it hf]
  rfl
end Gv
