/- Shapes of the arguments of chapter 6. -/
import Derived.Test.YtpbpkbckgifhdaaGreatGvZb
import Derived.Test.YtpbpkbckgifhdaaGreatK2
namespace Gv
open Go
end Gv
