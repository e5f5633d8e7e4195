/- What the functions do, round by round: P3. -/
import Derived.Test.YtggnifebabjoiaaGvEnv
namespace Gv
open Go
set_option maxRecDepth 100000
end Gv
