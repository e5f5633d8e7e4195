/- Headwinds: rounding, errors of legs and boxes; the law. -/
import Derived.Test.YtggnifebabjoiaaA0
import Derived.Test.YtggnifebabjoiaaP2
import Derived.Test.YtggnifebabjoiaaP8
namespace Gv
open Go
set_option maxRecDepth 100000
theorem fl_unique {n d q : Int} (hd : 0 < d) (h1 : q * d ≤ n) (h2 : n < (q + 1) * d) : n / d = q := by
  have a := (Int.le_ediv_iff_mul_le hd).2 h1
  have b := (Int.ediv_lt_iff_lt_mul hd).2 h2
  omega
theorem tdiv_parts (n : Int) {d : Int} (hd : 0 < d) : n.tdiv d * d + n.tmod d = n ∧ (n.tmod d < 0 → n / d = n.tdiv d - 1) ∧ (0 ≤ n.tmod d → n / d = n.tdiv d) := by
  have h1 : n.tdiv d * d + n.tmod d = n := by rw [Int.mul_comm]; exact Int.mul_tdiv_add_tmod n d
  have h2 := Int.tmod_lt_of_pos n hd
  have h3 : -d < n.tmod d := Int.lt_tmod_of_pos n hd
  refine ⟨h1, fun h => ?_, fun h => ?_⟩
  · refine fl_unique hd ?_ ?_
    · rw [Int.sub_mul, Int.one_mul]; omega
    · rw [Int.sub_add_cancel]; omega
  · refine fl_unique hd (by omega) ?_
    rw [Int.add_mul, Int.one_mul]; omega
theorem tdiv_small {n d : Int} (hd : 0 < d) (hn : -1000000000000 ≤ n ∧ n ≤ 1000000000000) : -1000000000000 ≤ n.tdiv d ∧ n.tdiv d ≤ 1000000000000 ∧ -1000000000001 ≤ n / d ∧ n / d ≤ 1000000000000 := by
  have h := Int.natAbs_tdiv_le_natAbs n d
  obtain ⟨h1, h2, h3⟩ := tdiv_parts n hd
  by_cases hc : n.tmod d < 0
  · have := h2 hc; omega
  · have := h3 (by omega); omega
theorem rDn_is {n d : Int} (hd : 0 < d) (hn : -1000000000000 ≤ n ∧ n ≤ 1000000000000) : FrDn [.int .i64 n, .int .i64 d] = some (n / d) := by
  refine FrDn_of _ _ ?_
  unfold trDn
  obtain ⟨h1, h2, h3⟩ := tdiv_parts n hd
  have hs := tdiv_small hd hn
  have hr := Int.tmod_lt_of_pos n hd
  have hr2 : -d < n.tmod d := Int.lt_tmod_of_pos n hd
  have hm : -1000000000000 ≤ n.tdiv d * d ∧ n.tdiv d * d ≤ 1000000000000 := by
    have e : n.tdiv d * d = n - n.tmod d := by omega
    rw [e]
    by_cases h0 : 0 ≤ n
    · have := Int.tmod_nonneg d h0
      have : n.tmod d ≤ n := by
        have hq : 0 ≤ n.tdiv d := Int.tdiv_nonneg h0 (by omega)
        have := Int.mul_nonneg hq (show 0 ≤ d by omega)
        omega
      omega
    · have hq : n.tdiv d ≤ 0 := by
        have := Int.tdiv_nonneg (a := -n) (b := d) (by omega) (by omega)
        rw [Int.neg_tdiv] at this
        omega
      have := Int.mul_nonneg (show 0 ≤ -n.tdiv d by omega) (show 0 ≤ d by omega)
      rw [Int.neg_mul] at this
      have hle : n.tmod d ≤ 0 := by
        have := Int.tmod_nonneg d (show 0 ≤ -n by omega)
        rw [Int.neg_tmod] at this
        omega
      omega
  rw [bif_pos (by omega), w64_in (n := n.tdiv d) (by omega), w64_in (n := n.tdiv d * d) (by omega)]
  by_cases hc : n.tmod d < 0
  · rw [bif_pos (by omega), w64_in (by omega), h2 hc]
  · rw [bif_neg (by omega), h3 (by omega)]
theorem rUp_is {n d : Int} (hd : 0 < d) (hn : -1000000000000 ≤ n ∧ n ≤ 1000000000000) : FrUp [.int .i64 n, .int .i64 d] = some (-(-n / d)) := by
  refine FrUp_of _ _ ?_
  unfold trUp
  have hs := tdiv_small (n := -n) hd (by omega)
  rw [w64_in (n := 0 - n) (by omega), show 0 - n = -n by omega]
  simp only [rDn_is hd (n := -n) (by omega), bindO_val]
  rw [w64_in (by omega), show 0 - -n / d = -(-n / d) by omega]
theorem bFloor_is {n d : Int} (hd : 0 < d) (hn : -1000000000000 ≤ n ∧ n ≤ 1000000000000) : FbFloor [.int .i64 n, .int .i64 d] = some (n / d) := by
  refine FbFloor_of _ _ ?_
  unfold tbFloor
  obtain ⟨h1, h2, h3⟩ := tdiv_parts n hd
  have hs := tdiv_small hd hn
  rw [bif_pos (by omega), bif_pos (by omega), w64_in (n := n.tdiv d) (by omega)]
  by_cases hc : n.tmod d < 0
  · rw [bif_pos hc, w64_in (by omega), h2 hc]
  · rw [bif_neg hc, h3 (by omega)]
theorem bCeil_is {n d : Int} (hd : 0 < d) (hn : -1000000000000 ≤ n ∧ n ≤ 1000000000000) : FbCeil [.int .i64 n, .int .i64 d] = some (-(-n / d)) := by
  refine FbCeil_of _ _ ?_
  unfold tbCeil
  have hs := tdiv_small (n := -n) hd (by omega)
  rw [w64_in (n := 0 - n) (by omega), show 0 - n = -n by omega]
  simp only [bFloor_is hd (n := -n) (by omega), bindO_val]
  rw [w64_in (by omega), show 0 - -n / d = -(-n / d) by omega]
theorem rangeE_iff (x a b : Int) : rangeE x a b = if a ≤ x ∧ x ≤ b then 0 else 2 := by unfold rangeE; split <;> split <;> omega
def mx (a b : Int) : Int := if b > a then b else a
section
variable {x y l a b c d : Int} (k1 : -1000 ≤ x ∧ x ≤ 1000) (k2 : -1000 ≤ y ∧ y ≤ 1000) (k3 : 1 ≤ l ∧ l ≤ 1000)
  (m1 : -10000 ≤ a ∧ a ≤ 10000) (m2 : -10000 ≤ b ∧ b ≤ 10000) (m3 : -10000 ≤ c ∧ c ≤ 10000) (m4 : -10000 ≤ d ∧ d ≤ 10000)
include k1 k2 k3
include m1 m2 m3 m4
end
end Gv
