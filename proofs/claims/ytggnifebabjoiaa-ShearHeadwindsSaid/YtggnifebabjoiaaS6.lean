/- Headwinds: rounding, errors of legs and boxes; the law. -/
import Derived.Test.YtggnifebabjoiaaA0
import Derived.Test.YtggnifebabjoiaaP2
import Derived.Test.YtggnifebabjoiaaP8
namespace Gv
open Go
set_option maxRecDepth 100000
theorem fl_unique {n d q : Int} (hd : 0 < d) (h1 : q * d ≤ n) (h2 : n < (q + 1) * d) : n / d = q := by
  have a := (Int.le_ediv_iff_mul_le hd).2 h1
  have b := (Int.ediv_lt_iff_lt_mul hd).2 h2
  omega
theorem tdiv_parts (n : Int) {d : Int} (hd : 0 < d) : n.tdiv d * d + n.tmod d = n ∧ (n.tmod d < 0 → n / d = n.tdiv d - 1) ∧ (0 ≤ n.tmod d → n / d = n.tdiv d) := by
  have h1 : n.tdiv d * d + n.tmod d = n := by rw [Int.mul_comm]; exact Int.mul_tdiv_add_tmod n d
  have h2 := Int.tmod_lt_of_pos n hd
  have h3 : -d < n.tmod d := Int.lt_tmod_of_pos n hd
  refine ⟨h1, fun h => ?_, fun h => ?_⟩
  · refine fl_unique hd ?_ ?_
    · rw [Int.sub_mul, Int.one_mul]; omega
    · rw [Int.sub_add_cancel]; omega
  · refine fl_unique hd (by omega) ?_
    rw [Int.add_mul, Int.one_mul]; omega
theorem tdiv_small {n d : Int} (hd : 0 < d) (hn : -1000000000000 ≤ n ∧ n ≤ 1000000000000) : -1000000000000 ≤ n.tdiv d ∧ n.tdiv d ≤ 1000000000000 ∧ -1000000000001 ≤ n / d ∧ n / d ≤ 1000000000000 := by
  have h := Int.natAbs_tdiv_le_natAbs n d
  obtain ⟨h1, h2, h3⟩ := tdiv_parts n hd
  by_cases hc : n.tmod d < 0
  · have := h2 hc; omega
  · have := h3 (by omega); omega
theorem rDn_is {n d : Int} (hd : 0 < d) (hn : -1000000000000 ≤ n ∧ n ≤ 1000000000000) : FrDn [.int .i64 n, .int .i64 d] = some (n / d) := by
  refine FrDn_of _ _ ?_
  unfold trDn
  obtain ⟨h1, h2, h3⟩ := tdiv_parts n hd
  have hs := tdiv_small hd hn
  have hr := Int.tmod_lt_of_pos n hd
  have hr2 : -d < n.tmod d := Int.lt_tmod_of_pos n hd
  have hm : -1000000000000 ≤ n.tdiv d * d ∧ n.tdiv d * d ≤ 1000000000000 := by
    have e : n.tdiv d * d = n - n.tmod d := by omega
    rw [e]
    by_cases h0 : 0 ≤ n
    · have := Int.tmod_nonneg d h0
      have : n.tmod d ≤ n := by
        have hq : 0 ≤ n.tdiv d := Int.tdiv_nonneg h0 (by omega)
        have := Int.mul_nonneg hq (show 0 ≤ d by omega)
        omega
      omega
    · have hq : n.tdiv d ≤ 0 := by
        have := Int.tdiv_nonneg (a := -n) (b := d) (by omega) (by omega)
        rw [Int.neg_tdiv] at this
        omega
      have := Int.mul_nonneg (show 0 ≤ -n.tdiv d by omega) (show 0 ≤ d by omega)
      rw [Int.neg_mul] at this
      have hle : n.tmod d ≤ 0 := by
        have := Int.tmod_nonneg d (show 0 ≤ -n by omega)
        rw [Int.neg_tmod] at this
        omega
      omega
  rw [bif_pos (by omega), w64_in (n := n.tdiv d) (by omega), w64_in (n := n.tdiv d * d) (by omega)]
  by_cases hc : n.tmod d < 0
  · rw [bif_pos (by omega), w64_in (by omega), h2 hc]
  · rw [bif_neg (by omega), h3 (by omega)]
theorem rUp_is {n d : Int} (hd : 0 < d) (hn : -1000000000000 ≤ n ∧ n ≤ 1000000000000) : FrUp [.int .i64 n, .int .i64 d] = some (-(-n / d)) := by
  refine FrUp_of _ _ ?_
  unfold trUp
  have hs := tdiv_small (n := -n) hd (by omega)
  rw [w64_in (n := 0 - n) (by omega), show 0 - n = -n by omega]
  simp only [rDn_is hd (n := -n) (by omega), bindO_val]
  rw [w64_in (by omega), show 0 - -n / d = -(-n / d) by omega]
theorem bFloor_is {n d : Int} (hd : 0 < d) (hn : -1000000000000 ≤ n ∧ n ≤ 1000000000000) : FbFloor [.int .i64 n, .int .i64 d] = some (n / d) := by
  refine FbFloor_of _ _ ?_
  unfold tbFloor
  obtain ⟨h1, h2, h3⟩ := tdiv_parts n hd
  have hs := tdiv_small hd hn
  rw [bif_pos (by omega), bif_pos (by omega), w64_in (n := n.tdiv d) (by omega)]
  by_cases hc : n.tmod d < 0
  · rw [bif_pos hc, w64_in (by omega), h2 hc]
  · rw [bif_neg hc, h3 (by omega)]
theorem bCeil_is {n d : Int} (hd : 0 < d) (hn : -1000000000000 ≤ n ∧ n ≤ 1000000000000) : FbCeil [.int .i64 n, .int .i64 d] = some (-(-n / d)) := by
  refine FbCeil_of _ _ ?_
  unfold tbCeil
  have hs := tdiv_small (n := -n) hd (by omega)
  rw [w64_in (n := 0 - n) (by omega), show 0 - n = -n by omega]
  simp only [bFloor_is hd (n := -n) (by omega), bindO_val]
  rw [w64_in (by omega), show 0 - -n / d = -(-n / d) by omega]
def legE (x y d : Int) : Int := if (-1000 ≤ x ∧ x ≤ 1000) ∧ (-1000 ≤ y ∧ y ≤ 1000) ∧ (1 ≤ d ∧ d ≤ 1000) then (if w64 (w64 (x * x) + w64 (y * y)) = w64 (d * d) then 0 else 3) else 2
theorem rangeE_iff (x a b : Int) : rangeE x a b = if a ≤ x ∧ x ≤ b then 0 else 2 := by unfold rangeE; split <;> split <;> omega
theorem cLeg_is (x y d : Int) : FcLeg [.agg [.int .i64 x, .int .i64 y, .int .i64 d]] = some (legE x y d) := by
  refine FcLeg_of _ _ _ ?_
  unfold tcLeg legE
  simp only [rE_is, eIf_is, fE4_is, bindO_val, bif_ne, rangeE_iff]
  unfold first4
  by_cases h1 : -1000 ≤ x ∧ x ≤ 1000 <;> by_cases h2 : -1000 ≤ y ∧ y ≤ 1000 <;> by_cases h3 : 1 ≤ d ∧ d ≤ 1000 <;> by_cases h4 : w64 (w64 (x * x) + w64 (y * y)) = w64 (d * d) <;>
    simp only [h1, h2, h3, h4, if_true, if_false, and_self, and_false, false_and, and_true, true_and, ne_eq, not_true_eq_false, Bool.false_eq_true] <;> rfl
theorem rLegE_is (x y d : Int) : FrLegE [.agg [.int .i64 x, .int .i64 y, .int .i64 d]] = some (legE x y d) := by
  refine FrLegE_of _ _ _ ?_
  unfold trLegE legE
  simp only [bWi_is, bindO_val, bif_dec, bif_ne]
  by_cases h1 : -1000 ≤ x ∧ x ≤ 1000 <;> by_cases h2 : -1000 ≤ y ∧ y ≤ 1000 <;> by_cases h3 : 1 ≤ d ∧ d ≤ 1000 <;> by_cases h4 : w64 (w64 (x * x) + w64 (y * y)) = w64 (d * d) <;>
    simp only [h1, h2, h3, h4, if_true, if_false, and_self, and_false, false_and, and_true, true_and]
def boxE (a b c d : Int) : Int := if (-10000 ≤ a ∧ a ≤ 10000) ∧ (-10000 ≤ b ∧ b ≤ 10000) ∧ (-10000 ≤ c ∧ c ≤ 10000) ∧ (-10000 ≤ d ∧ d ≤ 10000) then (if a > b then 9 else if c > d then 9 else 0) else 2
theorem rBoxE_is (a b c d : Int) : FrBoxE [.agg [.int .i64 a, .int .i64 b, .int .i64 c, .int .i64 d]] = some (boxE a b c d) := by
  refine FrBoxE_of _ _ _ _ ?_
  unfold trBoxE boxE
  simp only [rWind_is, bindO_val, bif_dec]
  by_cases h1 : -10000 ≤ a ∧ a ≤ 10000 <;> by_cases h2 : -10000 ≤ b ∧ b ≤ 10000 <;> by_cases h3 : -10000 ≤ c ∧ c ≤ 10000 <;> by_cases h4 : -10000 ≤ d ∧ d ≤ 10000 <;> by_cases h5 : a > b <;> by_cases h6 : c > d <;>
    simp only [h1, h2, h3, h4, h5, h6, if_true, if_false, and_self, and_false, false_and, and_true, true_and]
theorem boxB_is (a b c d : Int) : FeeB [.int .i64 (-10000), .int .i64 10000, .list 2 [.int .i64 a, .int .i64 b, .int .i64 c, .int .i64 d]] = some (boxE a b c d) := by
  rw [eeB_is]
  unfold boxE both
  simp only [rangeE_iff]
  by_cases h1 : -10000 ≤ a ∧ a ≤ 10000 <;> by_cases h2 : -10000 ≤ b ∧ b ≤ 10000 <;> by_cases h3 : -10000 ≤ c ∧ c ≤ 10000 <;> by_cases h4 : -10000 ≤ d ∧ d ≤ 10000 <;> by_cases h5 : b < a <;> by_cases h6 : d < c <;>
    simp only [h1, h2, h3, h4, h5, h6, gt_iff_lt, if_true, if_false, and_self, and_false, false_and, and_true, true_and, ne_eq, not_true_eq_false] <;> rfl
def mn (a b : Int) : Int := if b < a then b else a
def mx (a b : Int) : Int := if b > a then b else a
theorem times_is (f a b : Int) : Ftimes [.int .i64 f, .agg [.int .i64 a, .int .i64 b]] = some (mn (w64 (f * a)) (w64 (f * b)), mx (w64 (f * a)) (w64 (f * b))) := Ftimes_of _ _ _ rfl
def hwLo (x y l a b c d : Int) : Int := (mn (-x * a) (-x * b) + mn (-y * c) (-y * d)) / l
def hwHi (x y l a b c d : Int) : Int := -(-(mx (-x * a) (-x * b) + mx (-y * c) (-y * d)) / l)
theorem prod_bd {x a : Int} (h1 : -1000 ≤ x ∧ x ≤ 1000) (h2 : -10000 ≤ a ∧ a ≤ 10000) : -10000000 ≤ x * a ∧ x * a ≤ 10000000 := by
  have h := Int.natAbs_mul x a
  have : x.natAbs * a.natAbs ≤ 1000 * 10000 := Nat.mul_le_mul (by omega) (by omega)
  omega
theorem legE_ok {x y d : Int} (h : legE x y d = 0) : (-1000 ≤ x ∧ x ≤ 1000) ∧ (-1000 ≤ y ∧ y ≤ 1000) ∧ (1 ≤ d ∧ d ≤ 1000) := by
  unfold legE at h
  split at h
  · assumption
  · omega
theorem boxE_ok {a b c d : Int} (h : boxE a b c d = 0) : (-10000 ≤ a ∧ a ≤ 10000) ∧ (-10000 ≤ b ∧ b ≤ 10000) ∧ (-10000 ≤ c ∧ c ≤ 10000) ∧ (-10000 ≤ d ∧ d ≤ 10000) ∧ a ≤ b ∧ c ≤ d := by
  unfold boxE at h
  split at h
  · split at h
    · omega
    · split at h <;> omega
  · omega
theorem hwOf_is (x y l a b c d : Int) : FhwOf [.agg [.int .i64 x, .int .i64 y, .int .i64 l], .agg [.int .i64 a, .int .i64 b, .int .i64 c, .int .i64 d]] =
    some (if both (legE x y l) (boxE a b c d) = 0 then (hwLo x y l a b c d, hwHi x y l a b c d, 0) else (0, 0, both (legE x y l) (boxE a b c d))) := by
  refine FhwOf_of _ _ _ _ _ _ _ ?_
  unfold thwOf
  simp only [cLeg_is, boxB_is, fE2_is, bindO_val, bif_ne]
  by_cases h : both (legE x y l) (boxE a b c d) = 0
  · rw [if_pos h, if_pos h]
    obtain ⟨h1, h2⟩ := both_nil h
    obtain ⟨k1, k2, k3⟩ := legE_ok h1
    obtain ⟨m1, m2, m3, m4, m5, m6⟩ := boxE_ok h2
    have nx : -1000 ≤ -x ∧ -x ≤ 1000 := by omega
    have ny : -1000 ≤ -y ∧ -y ≤ 1000 := by omega
    have p1 := prod_bd nx m1
    have p2 := prod_bd nx m2
    have p3 := prod_bd ny m3
    have p4 := prod_bd ny m4
    rw [w64_in (n := 0 - x) (by omega), w64_in (n := 0 - y) (by omega), show 0 - x = -x by omega, show 0 - y = -y by omega]
    simp only [times_is, bindO_val]
    rw [w64_in (n := -x * a) (by omega), w64_in (n := -x * b) (by omega), w64_in (n := -y * c) (by omega), w64_in (n := -y * d) (by omega)]
    have b1 : -10000000 ≤ mn (-x * a) (-x * b) ∧ mn (-x * a) (-x * b) ≤ 10000000 := by unfold mn; split <;> omega
    have b2 : -10000000 ≤ mn (-y * c) (-y * d) ∧ mn (-y * c) (-y * d) ≤ 10000000 := by unfold mn; split <;> omega
    have b3 : -10000000 ≤ mx (-x * a) (-x * b) ∧ mx (-x * a) (-x * b) ≤ 10000000 := by unfold mx; split <;> omega
    have b4 : -10000000 ≤ mx (-y * c) (-y * d) ∧ mx (-y * c) (-y * d) ≤ 10000000 := by unfold mx; split <;> omega
    rw [w64_in (n := mn (-x * a) (-x * b) + mn (-y * c) (-y * d)) (by omega), w64_in (n := mx (-x * a) (-x * b) + mx (-y * c) (-y * d)) (by omega)]
    have hA : FrDn [.int .i64 (mn (-x * a) (-x * b) + mn (-y * c) (-y * d)), .int .i64 l] = _ := rDn_is (by omega) (by omega)
    have hB : FrUp [.int .i64 (mx (-x * a) (-x * b) + mx (-y * c) (-y * d)), .int .i64 l] = _ := rUp_is (by omega) (by omega)
    simp only [hA, hB, bindO_val]
    rfl
  · rw [if_neg h, if_neg h]
section
variable {x y l a b c d : Int} (k1 : -1000 ≤ x ∧ x ≤ 1000) (k2 : -1000 ≤ y ∧ y ≤ 1000) (k3 : 1 ≤ l ∧ l ≤ 1000)
  (m1 : -10000 ≤ a ∧ a ≤ 10000) (m2 : -10000 ≤ b ∧ b ≤ 10000) (m3 : -10000 ≤ c ∧ c ≤ 10000) (m4 : -10000 ≤ d ∧ d ≤ 10000)
include k1 k2 k3
theorem corner {u v : Int} (hu : -10000 ≤ u ∧ u ≤ 10000) (hv : -10000 ≤ v ∧ v ≤ 10000) :
    FbFloor [.int .i64 (w64 (0 - w64 (w64 (x * u) + w64 (y * v)))), .int .i64 l] = some ((-x * u + -y * v) / l) ∧
    FbCeil [.int .i64 (w64 (0 - w64 (w64 (x * u) + w64 (y * v)))), .int .i64 l] = some (-(-(-x * u + -y * v) / l)) := by
  have p1 := prod_bd k1 hu
  have p2 := prod_bd k2 hv
  have e : w64 (0 - w64 (w64 (x * u) + w64 (y * v))) = -x * u + -y * v := by
    rw [w64_in (n := x * u) (by omega), w64_in (n := y * v) (by omega), w64_in (n := x * u + y * v) (by omega), w64_in (by omega), Int.neg_mul, Int.neg_mul]
    omega
  rw [e]
  have e2 : -x * u + -y * v = -(x * u) + -(y * v) := by rw [Int.neg_mul, Int.neg_mul]
  rw [e2]
  exact ⟨bFloor_is (by omega) (by omega), bCeil_is (by omega) (by omega)⟩
include m1 m2 m3 m4
theorem rHead_is : FrHead [.agg [.int .i64 x, .int .i64 y, .int .i64 l], .agg [.int .i64 a, .int .i64 b, .int .i64 c, .int .i64 d]] = some (hwLo x y l a b c d, hwHi x y l a b c d) := by
  obtain ⟨f1, g1⟩ := corner k1 k2 k3 m1 m3
  obtain ⟨f2, g2⟩ := corner k1 k2 k3 m1 m4
  obtain ⟨f3, g3⟩ := corner k1 k2 k3 m2 m3
  obtain ⟨f4, g4⟩ := corner k1 k2 k3 m2 m4
  have w0 (i : Int) (h : 0 ≤ i ∧ i ≤ 10) : w64 i = i := w64_in (by omega)
  have mono : ∀ {p q : Int}, p ≤ q → p / l ≤ q / l := fun h => Int.ediv_le_ediv (by omega) h
  have e4 : ∀ lo hi : Int, RrHead_0 (TrHead_0b 4 x y l lo hi a b c d) = exO (XrHead_0a (x, y, l, lo, hi, a, b, c, d)) := by
    intro lo hi
    refine RrHead_0b_of _ _ _ _ _ _ _ _ _ _ ?_
    unfold BrHead_0b
    rw [bif_neg (by omega)]
    rfl
  have e3 : ∀ lo hi : Int, RrHead_0 (TrHead_0b 3 x y l lo hi a b c d) = exO (XrHead_0a (x, y, l, mn lo ((-x * b + -y * d) / l), mx hi (-(-(-x * b + -y * d) / l)), a, b, c, d)) := by
    intro lo hi
    refine RrHead_0b_of _ _ _ _ _ _ _ _ _ _ ?_
    unfold BrHead_0b
    rw [show Int.tdiv 3 2 = 1 from rfl, show Int.tmod 3 2 = 1 from rfl, w0 1 (by omega), bif_pos (by omega), bif_pos (by omega)]
    show bindO (some b) _ = _
    simp only [bindO_val]
    rw [bif_pos (by omega)]
    show bindO (some d) _ = _
    simp only [bindO_val, f4, g4]
    rw [show w64 (3 + 1) = 4 from w0 4 (by omega)]
    exact e4 _ _
  have e2 : ∀ lo hi : Int, RrHead_0 (TrHead_0b 2 x y l lo hi a b c d) = exO (XrHead_0a (x, y, l, mn (mn lo ((-x * b + -y * c) / l)) ((-x * b + -y * d) / l), mx (mx hi (-(-(-x * b + -y * c) / l))) (-(-(-x * b + -y * d) / l)), a, b, c, d)) := by
    intro lo hi
    refine RrHead_0b_of _ _ _ _ _ _ _ _ _ _ ?_
    unfold BrHead_0b
    rw [show Int.tdiv 2 2 = 1 from rfl, show Int.tmod 2 2 = 0 from rfl, w0 1 (by omega), bif_pos (by omega), bif_pos (by omega)]
    show bindO (some b) _ = _
    simp only [bindO_val]
    rw [bif_pos (by omega)]
    show bindO (some c) _ = _
    simp only [bindO_val, f3, g3]
    rw [show w64 (2 + 1) = 3 from w0 3 (by omega)]
    exact e3 _ _
  have e1 : ∀ lo hi : Int, RrHead_0 (TrHead_0b 1 x y l lo hi a b c d) = exO (XrHead_0a (x, y, l, mn (mn (mn lo ((-x * a + -y * d) / l)) ((-x * b + -y * c) / l)) ((-x * b + -y * d) / l), mx (mx (mx hi (-(-(-x * a + -y * d) / l))) (-(-(-x * b + -y * c) / l))) (-(-(-x * b + -y * d) / l)), a, b, c, d)) := by
    intro lo hi
    refine RrHead_0b_of _ _ _ _ _ _ _ _ _ _ ?_
    unfold BrHead_0b
    rw [show Int.tdiv 1 2 = 0 from rfl, show Int.tmod 1 2 = 1 from rfl, w0 0 (by omega), bif_pos (by omega), bif_pos (by omega)]
    show bindO (some a) _ = _
    simp only [bindO_val]
    rw [bif_pos (by omega)]
    show bindO (some d) _ = _
    simp only [bindO_val, f2, g2]
    rw [show w64 (1 + 1) = 2 from w0 2 (by omega)]
    exact e2 _ _
  have e0 : RrHead_0 (TrHead_0a x y l a b c d a b c d) = exO (XrHead_0a (x, y, l, hwLo x y l a b c d, hwHi x y l a b c d, a, b, c, d)) := by
    refine RrHead_0a_of _ _ _ _ _ _ _ _ _ _ _ ?_
    unfold BrHead_0a
    simp only [bindO_val, f1, g1]
    rw [if_neg (by omega), if_neg (by omega)]
    have := e1 ((-x * a + -y * c) / l) (-(-(-x * a + -y * c) / l))
    have lo : mn (mn (mn ((-x * a + -y * c) / l) ((-x * a + -y * d) / l)) ((-x * b + -y * c) / l)) ((-x * b + -y * d) / l) = hwLo x y l a b c d := by
      unfold hwLo
      generalize -x * a = A at *
      generalize -x * b = B at *
      generalize -y * c = C at *
      generalize -y * d = D at *
      by_cases q1 : B < A <;> by_cases q2 : D < C
      · have r1 : (B + D) / l ≤ (A + C) / l := mono (by omega)
        have r2 : (B + D) / l ≤ (A + D) / l := mono (by omega)
        have r3 : (B + D) / l ≤ (B + C) / l := mono (by omega)
        simp only [mn, q1, q2, if_true]
        repeat' split
        all_goals omega
      · have r1 : (B + C) / l ≤ (A + C) / l := mono (by omega)
        have r2 : (B + C) / l ≤ (A + D) / l := mono (by omega)
        have r3 : (B + C) / l ≤ (B + D) / l := mono (by omega)
        simp only [mn, q1, q2, if_true, if_false]
        repeat' split
        all_goals omega
      · have r1 : (A + D) / l ≤ (A + C) / l := mono (by omega)
        have r2 : (A + D) / l ≤ (B + C) / l := mono (by omega)
        have r3 : (A + D) / l ≤ (B + D) / l := mono (by omega)
        simp only [mn, q1, q2, if_true, if_false]
        repeat' split
        all_goals omega
      · have r1 : (A + C) / l ≤ (B + C) / l := mono (by omega)
        have r2 : (A + C) / l ≤ (A + D) / l := mono (by omega)
        have r3 : (A + C) / l ≤ (B + D) / l := mono (by omega)
        simp only [mn, q1, q2, if_false]
        repeat' split
        all_goals omega
    have hi : mx (mx (mx (-(-(-x * a + -y * c) / l)) (-(-(-x * a + -y * d) / l))) (-(-(-x * b + -y * c) / l))) (-(-(-x * b + -y * d) / l)) = hwHi x y l a b c d := by
      unfold hwHi
      generalize -x * a = A at *
      generalize -x * b = B at *
      generalize -y * c = C at *
      generalize -y * d = D at *
      by_cases q1 : B > A <;> by_cases q2 : D > C
      · have r1 : -(B + D) / l ≤ -(A + C) / l := mono (by omega)
        have r2 : -(B + D) / l ≤ -(A + D) / l := mono (by omega)
        have r3 : -(B + D) / l ≤ -(B + C) / l := mono (by omega)
        simp only [mx, q1, q2, if_true]
        repeat' split
        all_goals omega
      · have r1 : -(B + C) / l ≤ -(A + C) / l := mono (by omega)
        have r2 : -(B + C) / l ≤ -(A + D) / l := mono (by omega)
        have r3 : -(B + C) / l ≤ -(B + D) / l := mono (by omega)
        simp only [mx, q1, q2, if_true, if_false]
        repeat' split
        all_goals omega
      · have r1 : -(A + D) / l ≤ -(A + C) / l := mono (by omega)
        have r2 : -(A + D) / l ≤ -(B + C) / l := mono (by omega)
        have r3 : -(A + D) / l ≤ -(B + D) / l := mono (by omega)
        simp only [mx, q1, q2, if_true, if_false]
        repeat' split
        all_goals omega
      · have r1 : -(A + C) / l ≤ -(B + C) / l := mono (by omega)
        have r2 : -(A + C) / l ≤ -(A + D) / l := mono (by omega)
        have r3 : -(A + C) / l ≤ -(B + D) / l := mono (by omega)
        simp only [mx, q1, q2, if_false]
        repeat' split
        all_goals omega
    rw [lo, hi] at this
    exact this
  refine FrHead_of _ _ _ _ _ _ _ ?_
  unfold trHead
  rw [LrHead_0a_of e0]
  rfl
end
theorem mul_between (x a b u : Int) (h1 : a ≤ u) (h2 : u ≤ b) : mn (-x * a) (-x * b) ≤ -x * u ∧ -x * u ≤ mx (-x * a) (-x * b) := by
  by_cases hx : 0 ≤ -x
  · have k1 := Int.mul_le_mul_of_nonneg_left h1 hx
    have k2 := Int.mul_le_mul_of_nonneg_left h2 hx
    unfold mn mx
    constructor <;> split <;> omega
  · have k1 := Int.mul_le_mul_of_nonneg_left h1 (show 0 ≤ x by omega)
    have k2 := Int.mul_le_mul_of_nonneg_left h2 (show 0 ≤ x by omega)
    simp only [Int.neg_mul]
    unfold mn mx
    constructor <;> split <;> omega
theorem headwindsLaw (x y l a b c d p q : Int) : Flaw3 [.agg [.int .i64 x, .int .i64 y, .int .i64 l], .agg [.int .i64 a, .int .i64 b, .int .i64 c, .int .i64 d], .agg [.int .i64 p, .int .i64 q]] = some true := by
  refine Flaw3_of _ _ _ _ _ _ _ _ _ ?_
  unfold tlaw3
  simp only [awake_is, cond_true, hwOf_is, cLeg_is, rLegE_is, rBoxE_is, bindO_val, bne_self_eq_false, cond_false, bif_eq, bif_ne]
  by_cases h1 : legE x y l = 0
  · have hb : both (legE x y l) (boxE a b c d) = boxE a b c d := both_zero h1
    rw [hb]
    rw [if_pos h1]
    by_cases h2 : boxE a b c d = 0
    · obtain ⟨k1, k2, k3⟩ := legE_ok h1
      obtain ⟨m1, m2, m3, m4, m5, m6⟩ := boxE_ok h2
      simp only [h2, if_true]
      rw [w64_in (n := b - a) (by omega), w64_in (n := b - a + 1) (by omega), w64_in (n := d - c) (by omega), w64_in (n := d - c + 1) (by omega)]
      have hA : FbMod [.int .i64 p, .int .i64 (b - a + 1)] = _ := bMod_is p (b - a + 1) (by omega) (by omega)
      have hB : FbMod [.int .i64 q, .int .i64 (d - c + 1)] = _ := bMod_is q (d - c + 1) (by omega) (by omega)
      have hC : FrHead [.agg [.int .i64 x, .int .i64 y, .int .i64 l], .agg [.int .i64 a, .int .i64 b, .int .i64 c, .int .i64 d]] = _ := rHead_is k1 k2 k3 m1 m2 m3 m4
      simp only [hA, hB, hC, bindO_val, beq_self_eq_true, Bool.and_self, cond_true]
      have u1 := Int.emod_nonneg p (show b - a + 1 ≠ 0 by omega)
      have u2 := Int.emod_lt_of_pos p (show 0 < b - a + 1 by omega)
      have v1 := Int.emod_nonneg q (show d - c + 1 ≠ 0 by omega)
      have v2 := Int.emod_lt_of_pos q (show 0 < d - c + 1 by omega)
      generalize p % (b - a + 1) = u at *
      generalize q % (d - c + 1) = v at *
      rw [w64_in (n := a + u) (by omega), w64_in (n := c + v) (by omega)]
      obtain ⟨s1, s2⟩ := mul_between x a b (a + u) (by omega) (by omega)
      obtain ⟨t1, t2⟩ := mul_between y c d (c + v) (by omega) (by omega)
      have p1 := prod_bd k1 (show -10000 ≤ a + u ∧ a + u ≤ 10000 by omega)
      have p2 := prod_bd k2 (show -10000 ≤ c + v ∧ c + v ≤ 10000 by omega)
      rw [w64_in (n := x * (a + u)) (by omega), w64_in (n := y * (c + v)) (by omega), w64_in (n := x * (a + u) + y * (c + v)) (by omega), w64_in (n := 0 - (x * (a + u) + y * (c + v))) (by omega)]
      rw [Int.neg_mul] at s1 s2 t1 t2
      have nx : -1000 ≤ -x ∧ -x ≤ 1000 := by omega
      have ny : -1000 ≤ -y ∧ -y ≤ 1000 := by omega
      have r1 := prod_bd nx m1
      have r2 := prod_bd nx m2
      have r3 := prod_bd ny m3
      have r4 := prod_bd ny m4
      have lo : hwLo x y l a b c d * l ≤ 0 - (x * (a + u) + y * (c + v)) := by
        have : hwLo x y l a b c d * l ≤ mn (-x * a) (-x * b) + mn (-y * c) (-y * d) := Int.ediv_mul_le _ (by omega)
        simp only [Int.neg_mul] at *
        omega
      have hi : 0 - (x * (a + u) + y * (c + v)) ≤ hwHi x y l a b c d * l := by
        have : -(mx (-x * a) (-x * b) + mx (-y * c) (-y * d)) / l * l ≤ -(mx (-x * a) (-x * b) + mx (-y * c) (-y * d)) := Int.ediv_mul_le _ (by omega)
        unfold hwHi
        rw [Int.neg_mul]
        simp only [Int.neg_mul] at *
        omega
      have blo : -30000000 ≤ hwLo x y l a b c d * l := by
        have := Int.lt_ediv_add_one_mul_self (mn (-x * a) (-x * b) + mn (-y * c) (-y * d)) (show 0 < l by omega)
        rw [Int.add_mul, Int.one_mul] at this
        have e : hwLo x y l a b c d * l = (mn (-x * a) (-x * b) + mn (-y * c) (-y * d)) / l * l := rfl
        have b1 : -10000000 ≤ mn (-x * a) (-x * b) := by unfold mn; split <;> omega
        have b2 : -10000000 ≤ mn (-y * c) (-y * d) := by unfold mn; split <;> omega
        omega
      have bhi : hwHi x y l a b c d * l ≤ 30000000 := by
        have := Int.lt_ediv_add_one_mul_self (-(mx (-x * a) (-x * b) + mx (-y * c) (-y * d))) (show 0 < l by omega)
        rw [Int.add_mul, Int.one_mul] at this
        have e : hwHi x y l a b c d * l = -(-(mx (-x * a) (-x * b) + mx (-y * c) (-y * d)) / l * l) := by unfold hwHi; rw [Int.neg_mul]
        have b1 : mx (-x * a) (-x * b) ≤ 10000000 := by unfold mx; split <;> omega
        have b2 : mx (-y * c) (-y * d) ≤ 10000000 := by unfold mx; split <;> omega
        omega
      rw [w64_in (n := hwLo x y l a b c d * l) (by omega), w64_in (n := hwHi x y l a b c d * l) (by omega), bif_pos lo, bif_pos hi]
    · simp [h2]
  · have hb : both (legE x y l) (boxE a b c d) = legE x y l := both_not h1
    rw [hb]
    simp [h1]
end Gv
