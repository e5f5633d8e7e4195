/- The law of paths. -/
import Derived.Test.YtpbpkbckgifhdaaA0
import Derived.Test.YtpbpkbckgifhdaaK2
import Derived.Test.YtpbpkbckgifhdaaBL8
namespace Gv
open Go
set_option maxRecDepth 100000
theorem copV_is (l : List Z3) (hl : l.length ≤ 1000) : FrCopV [.list l.length (encT l)] = some (l.length, encT l) := by
  refine FrCopV_of _ _ ?_
  unfold trCopV
  by_cases h0 : l.length = 0
  · rw [bif_pos h0]
    have : l = [] := List.length_eq_zero_iff.1 h0
    subst this
    rfl
  · rw [bif_neg h0, bif_pos (encT_len l), bif_pos ⟨rfl, by unfold big; omega⟩, bif_pos rfl]
    simp
end Gv
