/- The greatest of numbers, where it stands first, and lists of the indexes that a question picks. -/
import Derived.Test.YtpbpkbckgifhdaaGreatGvYk
namespace Gv
open Go
end Gv
