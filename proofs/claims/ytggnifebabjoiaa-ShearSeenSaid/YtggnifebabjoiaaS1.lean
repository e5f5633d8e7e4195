/- Alerts: the state after an event, and at a tick; the program's and the specification's. -/
import Derived.Test.YtggnifebabjoiaaS0
import Derived.Test.YtggnifebabjoiaaP3
namespace Gv
open Go
set_option maxRecDepth 100000
theorem rangeE_if (x a b : Int) : rangeE x a b = if a ≤ x ∧ x ≤ b then 0 else 2 := by unfold rangeE; split <;> split <;> omega
def eventE (e : Z3) : Int := both (rangeE e.1 0 1000000000000) (endE (-20000) 20000 e.2.1 e.2.2)
end Gv
