/- Light cases, and the bias of an estimator. -/
import Derived.Test.YtdbnojfklmfniaaGreatMC3
namespace Gv
open Go
set_option maxRecDepth 100000

theorem light_is (s v : List Int) {n d : Int} (hd : I64 d) : FLwlight [.agg [.list s.length (encI s), .list v.length (encI v), .int .i64 n, .int .i64 d]] =
    some (decide (s.length ≤ 20) && (decide (v.length ≤ 20) && (decide (caE s v n d ≠ 0) || decide (cnt s v ≤ 256)))) := by
  refine FLwlight_of _ _ _ _ _ _ ?_
  unfold tLwlight
  simp only [short_is, refCaseErr_is s v hd, bindO_val, bif_dec, bif_ne]
  by_cases h1 : s.length ≤ 20
  · by_cases h2 : v.length ≤ 20
    · rw [if_pos h1, if_pos h2, decide_eq_true h1, decide_eq_true h2, Bool.true_and, Bool.true_and]
      by_cases h3 : caE s v n d = 0
      · simp only [h3, if_true, refCasesC (ca_ok h3), bindO_val, ne_eq, not_true_eq_false, decide_false, Bool.false_or]
        by_cases h4 : cnt s v ≤ 256
        · rw [if_pos (by omega), decide_eq_true h4]
        · rw [if_neg (by omega), decide_eq_false h4]
      · simp only [h3, if_false, ne_eq, not_false_eq_true, decide_true, Bool.true_or]
    · rw [if_pos h1, if_neg h2, decide_eq_false h2, Bool.false_and, Bool.and_false]
  · rw [if_neg h1, decide_eq_false h1, Bool.false_and]

def kdE (kind : Int) : Int := if rangeE kind 0 3 = 0 then 0 else 14
theorem eq3 (a b c : Int) : ((a == a) && ((b == b) && ((c == c) && true))) = true := by simp
end Gv
