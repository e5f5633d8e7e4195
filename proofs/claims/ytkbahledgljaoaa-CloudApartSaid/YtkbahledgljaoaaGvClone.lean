/- slices.Clone, told by what it gives: a list. -/
import Derived.Test.YtkbahledgljaoaaGvU
namespace Gv
open Go Go.RowKit
end Gv
