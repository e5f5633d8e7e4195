/- The law about telegrams. -/
import Derived.Test.YtggnifebabjoiaaA0
import Derived.Test.YtggnifebabjoiaaP7
namespace Gv
open Go
set_option maxRecDepth 100000
theorem telegramsLaw (r n k v a b c d e f g : Int) : Flaw11 [.agg [.int .i64 r, .int .i64 n, .int .i64 k, .int .i64 v], .agg [.int .i64 a, .int .i64 b, .int .i64 c, .int .i64 d, .int .i64 e, .int .i64 f, .int .i64 g]] = some true := by
  refine Flaw11_of _ _ _ _ _ _ _ _ _ _ _ ?_
  unfold tlaw11
  simp only [awake_is, enc_is, dcd_is, rTE_is, rDec_is, bindO_val, cond_true, bif_ne, bif_eq]
  by_cases h : telE r n k v = 0
  · simp only [rWords_is h, bindO_val, encV, h, if_true, bif_ne, bif_eq]
    simp
  · simp only [encV, h, if_false, bif_ne, bif_eq]
    simp
end Gv
