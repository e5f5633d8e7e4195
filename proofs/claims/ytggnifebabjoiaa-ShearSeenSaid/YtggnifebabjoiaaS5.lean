/- Events' errors and the state at a tick, by the specification; copies and comparisons. -/
import Derived.Test.YtggnifebabjoiaaS4
import Derived.Test.YtggnifebabjoiaaP5b
namespace Gv
open Go
set_option maxRecDepth 100000
theorem rCopP_is (l : List Z3) (hl : l.length < 1000) : FrCopP [.list l.length (encT l)] = some (l.length, encT l) := by
  refine FrCopP_of _ _ ?_
  unfold trCopP
  by_cases h : l.length = 0
  · have : l = [] := List.length_eq_zero_iff.1 h
    subst this
    rfl
  · rw [bif_neg h, bif_pos (encT_len l), bif_pos ⟨rfl, by unfold big; omega⟩, bif_pos rfl]
    simp
theorem few_is (l : List Z3) : Ffew [.list l.length (encT l)] = some (decide (l.length ≤ 22)) := by
  refine Ffew_of _ _ ?_
  unfold tfew
  by_cases h : l.length ≤ 22
  · rw [bif_pos (by omega), decide_eq_true h]
  · rw [bif_neg (by omega), decide_eq_false h]
end Gv
