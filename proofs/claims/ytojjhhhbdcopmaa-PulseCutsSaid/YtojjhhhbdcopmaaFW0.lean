/- Few items. -/
import Derived.Test.YtojjhhhbdcopmaaS2
namespace Gv
open Go
theorem few_is (l : List ZZ) : Fglidepathlaw01_fewItems [.list l.length (encG l)] = some (decide (l.length ≤ 50)) := by
  refine Fglidepathlaw01_fewItems_of _ _ ?_
  unfold tglidepathlaw01_fewItems
  by_cases h : l.length ≤ 50
  · rw [bif_pos (by omega)]; simp [h]
  · rw [bif_neg (by omega)]; simp [h]
end Gv
