/- Estimates: the specification's, and the law. -/
import Derived.Test.YtkbbilbpejbmiaaMS3
namespace Gv
open Go
set_option maxRecDepth 100000

/-! ### The specification's sums -/

theorem pw_take (l : List Int) (m : Nat) : ∀ n i, i + n ≤ m → pw (l.take m) i n = pw l i n
  | 0, i, _ => rfl
  | n + 1, i, h => by
    rw [pw, pw, pw_take l m n (i + 1) (by omega)]
    congr 1
    rw [List.getD_eq_getElem?_getD, List.getD_eq_getElem?_getD, List.getElem?_take, if_pos (by omega)]

theorem eq2 (p : Int × Int) : ((p.1 == p.1) && ((p.2 == p.2) && true)) = true := by simp
theorem eq00 : (((0 : Int) == 0) && (((0 : Int) == 0) && true)) = true := rfl

end Gv
