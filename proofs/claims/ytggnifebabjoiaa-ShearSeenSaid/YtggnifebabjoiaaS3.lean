/- The state after an event; the program's and the specification's. -/
import Derived.Test.YtggnifebabjoiaaS1
namespace Gv
open Go
set_option maxRecDepth 100000
end Gv
