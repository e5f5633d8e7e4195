/- The examples of the document hold. -/
import Derived.Test.YtibgngimbdldcaaGvEnv
import Derived.Test.YtibgngimbdldcaaGvU
namespace Gv
open Go
theorem awake0 : callN env 5000 9 [] = some (.val (.bool true)) := by kernel_rfl
def m9 : List PV → Option RV
  | [] => some (.val (.bool true))
  | _ => none
theorem is9 : Is env 9 m9 := by
  intro args r h
  unfold m9 at h
  split at h <;> try (cases h; done)
  cases h
  exact (run_iff env).2 ⟨5000, awake0⟩

end Gv
