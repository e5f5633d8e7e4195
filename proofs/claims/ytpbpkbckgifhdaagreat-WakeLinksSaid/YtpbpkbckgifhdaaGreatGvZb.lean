/- More shapes of arguments: lists of numbers, gates. -/
import Derived.Test.YtpbpkbckgifhdaaGreatGvZ
namespace Gv
open Go
def jitterS : Shp := .cons (.int .i64) (.cons (.int .i64) .nil)
end Gv
