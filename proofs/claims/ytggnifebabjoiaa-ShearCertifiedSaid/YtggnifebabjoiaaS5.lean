import Derived.Test.YtggnifebabjoiaaS0
import Derived.Test.YtggnifebabjoiaaP3
import Derived.Test.YtggnifebabjoiaaP5b

/- Alerts: the state after an event, and at a tick; the program's and the specification's. -/
namespace Gv
open Go
set_option maxRecDepth 100000
theorem rangeE_if (x a b : Int) : rangeE x a b = if a ≤ x ∧ x ≤ b then 0 else 2 := by unfold rangeE; split <;> split <;> omega
def eventE (e : Z3) : Int := both (rangeE e.1 0 1000000000000) (endE (-20000) 20000 e.2.1 e.2.2)
end Gv

/- The state after an event; the program's and the specification's. -/
namespace Gv
open Go
set_option maxRecDepth 100000
end Gv

/- The state at a tick; the program's and the specification's. -/
namespace Gv
open Go
set_option maxRecDepth 100000
def evF : List Z3 → Int → Nat → Option (Int × Int)
  | [], _, _ => none
  | e :: l, b, i => if eventE e ≠ 0 then some ((i : Int), eventE e) else if e.1 ≤ b then some ((i : Int), 9) else evF l e.1 (i + 1)
def evsV (l : List Z3) : Int × Int := if 40 < l.length then (0, 8) else (evF l (-1) 0).getD (0, 0)
def evsE (l : List Z3) : Int := (evsV l).2
end Gv

/- Events' errors and the state at a tick, by the specification; copies and comparisons. -/
namespace Gv
open Go
set_option maxRecDepth 100000
theorem few_is (l : List Z3) : Ffew [.list l.length (encT l)] = some (decide (l.length ≤ 22)) := by
  refine Ffew_of _ _ ?_
  unfold tfew
  by_cases h : l.length ≤ 22
  · rw [bif_pos (by omega), decide_eq_true h]
  · rw [bif_neg (by omega), decide_eq_false h]
end Gv
