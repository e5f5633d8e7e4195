/- What the functions do, round by round: B3. -/
import Derived.Test.YtpbpkbckgifhdaaGvEnv
namespace Gv
open Go
set_option maxRecDepth 100000
end Gv
