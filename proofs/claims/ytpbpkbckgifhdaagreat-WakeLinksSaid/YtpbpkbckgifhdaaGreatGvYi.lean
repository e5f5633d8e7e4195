/- Lists of whole numbers that are filled place by place, and lists of such lists. -/
import Derived.Test.YtpbpkbckgifhdaaGreatGvY
namespace Gv
open Go
def tabI (f : Nat → Int) (n : Nat) : List Int := (List.range n).map f
@[simp] theorem tabI_len (f : Nat → Int) (n : Nat) : (tabI f n).length = n := by simp [tabI]
def encLL (l : List (List Int)) : List PV := l.map fun r => .list r.length (encI r)
@[simp] theorem encLL_len (l : List (List Int)) : (encLL l).length = l.length := by simp [encLL]
@[simp] theorem encLL_get (l : List (List Int)) (i : Nat) : (encLL l)[i]? = l[i]?.map fun r => PV.list r.length (encI r) := by simp [encLL]
@[simp] theorem encLL_app (a b : List (List Int)) : encLL (a ++ b) = encLL a ++ encLL b := by simp [encLL]
end Gv
