/- What the functions do, round by round: BL8. -/
import Derived.Test.YtpbpkbckgifhdaaGvEnv
namespace Gv
open Go
set_option maxRecDepth 100000
end Gv
