/- The state after an event; the program's and the specification's. -/
import Derived.Test.YtggnifebabjoiaaS1
namespace Gv
open Go
set_option maxRecDepth 100000
abbrev flat6 (s : St5) (e : Int) : Bool × Int × Int × Int × Int × Int := (s.1, s.2.1, s.2.2.1, s.2.2.2.1, s.2.2.2.2, e)
abbrev zero6 (e : Int) : Bool × Int × Int × Int × Int × Int := (false, 0, 0, 0, 0, e)
end Gv
