/- The state at a tick; the program's and the specification's. -/
import Derived.Test.YtggnifebabjoiaaS3
namespace Gv
open Go
set_option maxRecDepth 100000
def evF : List Z3 → Int → Nat → Option (Int × Int)
  | [], _, _ => none
  | e :: l, b, i => if eventE e ≠ 0 then some ((i : Int), eventE e) else if e.1 ≤ b then some ((i : Int), 9) else evF l e.1 (i + 1)
def evsV (l : List Z3) : Int × Int := if 40 < l.length then (0, 8) else (evF l (-1) 0).getD (0, 0)
def evsE (l : List Z3) : Int := (evsV l).2
end Gv
