/- PulseCleaned: the whole statement on any two spectra. -/
import Derived.IntWalk
import Derived.Test.YtibgngimbdldcaaV0
import Derived.Test.YtibgngimbdldcaaV1
namespace Gv
open Go
set_option maxRecDepth 100000
theorem t6 (p a b c d p' a' b' c' d' : Int) : semF (look [(9, m9), (39, m39), (40, m40), (23, m23), (41, m41)]) noSh noLp 200 a6 [.agg [.int .i64 p, .int .i64 a, .int .i64 b, .int .i64 c, .int .i64 d], .agg [.int .i64 p', .int .i64 a', .int .i64 b', .int .i64 c', .int .i64 d']] =
  bif both (countE p a b c d) (countE p' a' b' c' d') != 0 then
    bif both (countE p a b c d) (countE p' a' b' c' d') == both (countE p a b c d) (countE p' a' b' c' d') then
      bif ok (both (countE p a b c d) (countE p' a' b' c' d')) (cl a p' a' p) == 0 &&
  (ok (both (countE p a b c d) (countE p' a' b' c' d')) (cl b p' b' p) == 0 &&
    (ok (both (countE p a b c d) (countE p' a' b' c' d')) (cl c p' c' p) == 0 &&
      (ok (both (countE p a b c d) (countE p' a' b' c' d')) (cl d p' d' p) == 0 && true))) then
        some (.val (.bool true))
      else some (.val (.bool false))
    else some (.val (.bool false))
  else bif both (countE p a b c d) (countE p' a' b' c' d') != 0 then
    some (.val (.bool false))
  else bif !(ok (both (countE p a b c d) (countE p' a' b' c' d')) (cl a p' a' p) == cl a p' a' p &&
    (ok (both (countE p a b c d) (countE p' a' b' c' d')) (cl b p' b' p) == cl b p' b' p &&
      (ok (both (countE p a b c d) (countE p' a' b' c' d')) (cl c p' c' p) == cl c p' c' p &&
        (ok (both (countE p a b c d) (countE p' a' b' c' d')) (cl d p' d' p) == cl d p' d' p &&
          true)))) then
    some (.val (.bool false))
  else bif both (countE p a b c d) (countE p a b c d) != 0 then
    some (.val (.bool false))
  else bif !(ok (both (countE p a b c d) (countE p a b c d)) (cl a p a p) == 0 &&
    (ok (both (countE p a b c d) (countE p a b c d)) (cl b p b p) == 0 &&
      (ok (both (countE p a b c d) (countE p a b c d)) (cl c p c p) == 0 &&
        (ok (both (countE p a b c d) (countE p a b c d)) (cl d p d p) == 0 && true)))) then
    some (.val (.bool false))
  else bif countE (w (2 * p')) (w (2 * a')) (w (2 * b'))
    (w (2 * c')) (w (2 * d')) !=
  0 then
    some (.val (.bool true))
  else bif ok
    (both (countE p a b c d)
      (countE (w (2 * p')) (w (2 * a')) (w (2 * b'))
        (w (2 * c')) (w (2 * d'))))
    (cl a (w (2 * p')) (w (2 * a')) p) !=
  w (2 * ok (both (countE p a b c d) (countE p' a' b' c' d')) (cl a p' a' p)) then
    some (.val (.bool false))
  else bif ok
    (both (countE p a b c d)
      (countE (w (2 * p')) (w (2 * a')) (w (2 * b'))
        (w (2 * c')) (w (2 * d'))))
    (cl b (w (2 * p')) (w (2 * b')) p) !=
  w (2 * ok (both (countE p a b c d) (countE p' a' b' c' d')) (cl b p' b' p)) then
    some (.val (.bool false))
  else bif ok
    (both (countE p a b c d)
      (countE (w (2 * p')) (w (2 * a')) (w (2 * b'))
        (w (2 * c')) (w (2 * d'))))
    (cl c (w (2 * p')) (w (2 * c')) p) !=
  w (2 * ok (both (countE p a b c d) (countE p' a' b' c' d')) (cl c p' c' p)) then
    some (.val (.bool false))
  else bif ok
    (both (countE p a b c d)
      (countE (w (2 * p')) (w (2 * a')) (w (2 * b'))
        (w (2 * c')) (w (2 * d'))))
    (cl d (w (2 * p')) (w (2 * d')) p) !=
  w (2 * ok (both (countE p a b c d) (countE p' a' b' c' d')) (cl d p' d' p)) then
    some (.val (.bool false))
  else bif both (countE p a b c d)
    (countE (w (2 * p')) (w (2 * a')) (w (2 * b'))
      (w (2 * c')) (w (2 * d'))) ==
  0 then
    some (.val (.bool true))
  else some (.val (.bool false)) := by kernel_rfl

theorem w_in {n : Int} (h : -9223372036854775808 ≤ n ∧ n ≤ 9223372036854775807) : w n = n := IntWalk.i64_in n h

theorem rangeE_zero {x a b : Int} (h : rangeE x a b = 0) : a ≤ x ∧ x ≤ b := by
  unfold rangeE at h
  split at h
  · cases h
  · omega

theorem count_zero {p a b c d : Int} (h : countE p a b c d = 0) : (1 ≤ p ∧ p ≤ 1000) ∧ (0 ≤ a ∧ a ≤ 1000000000000) ∧ (0 ≤ b ∧ b ≤ 1000000000000) ∧ (0 ≤ c ∧ c ≤ 1000000000000) ∧ (0 ≤ d ∧ d ≤ 1000000000000) := by
  unfold countE first4 at h
  split at h
  · rename_i h1; exact absurd h h1
  · rename_i h1
    split at h
    · rename_i h2; exact absurd h h2
    · rename_i h2
      split at h
      · rename_i h3; exact absurd h h3
      · rename_i h3
        split at h
        · rename_i h4; exact absurd h h4
        · rename_i h4
          exact ⟨rangeE_zero (by simpa using h1), rangeE_zero (by simpa using h2), rangeE_zero (by simpa using h3), rangeE_zero (by simpa using h4), rangeE_zero h⟩

theorem mul_le {x y m n : Int} (hx : 0 ≤ x ∧ x ≤ m) (hy : 0 ≤ y ∧ y ≤ n) : 0 ≤ x * y ∧ x * y ≤ m * n :=
  ⟨Int.mul_nonneg hx.1 hy.1, Int.mul_le_mul hx.2 hy.2 hy.1 (by omega)⟩

theorem cl_self (a p : Int) : cl a p a p = 0 := by simp [cl, w_in]

theorem cl_in {a p b q : Int} (ha : 0 ≤ a ∧ a ≤ 2000000000000) (hp : 1 ≤ p ∧ p ≤ 2000) (hb : 0 ≤ b ∧ b ≤ 2000000000000) (hq : 1 ≤ q ∧ q ≤ 2000) : cl a q b p = a * q - b * p ∧ -4000000000000000 ≤ a * q - b * p ∧ a * q - b * p ≤ 4000000000000000 := by
  have h1 := mul_le ha ⟨by omega, hq.2⟩
  have h2 := mul_le hb ⟨by omega, hp.2⟩
  refine ⟨?_, by omega, by omega⟩
  unfold cl
  rw [w_in (n := a * q) (by omega), w_in (n := b * p) (by omega), w_in (n := a * q - b * p) (by omega)]

theorem cl_twice {a p b q : Int} (ha : 0 ≤ a ∧ a ≤ 1000000000000) (hp : 1 ≤ p ∧ p ≤ 1000) (hb : 0 ≤ b ∧ b ≤ 1000000000000) (hq : 1 ≤ q ∧ q ≤ 1000) : cl a (w (2 * q)) (w (2 * b)) p = w (2 * cl a q b p) := by
  rw [w_in (by omega), w_in (by omega : -9223372036854775808 ≤ 2 * b ∧ 2 * b ≤ 9223372036854775807)]
  obtain ⟨h1, h2, h3⟩ := cl_in (a := a) (p := p) (b := b) (q := q) (by omega) (by omega) (by omega) (by omega)
  obtain ⟨k1, k2, k3⟩ := cl_in (a := a) (p := p) (b := 2 * b) (q := 2 * q) (by omega) (by omega) (by omega) (by omega)
  rw [h1, k1, w_in (by omega)]
  have e1 : a * (2 * q) = 2 * (a * q) := by rw [← Int.mul_assoc, Int.mul_comm a 2, Int.mul_assoc]
  have e2 : 2 * b * p = 2 * (b * p) := Int.mul_assoc ..
  rw [e1, e2]
  omega

theorem run6 (p a b c d p' a' b' c' d' : Int) : run env 6 [.agg [.int .i64 p, .int .i64 a, .int .i64 b, .int .i64 c, .int .i64 d], .agg [.int .i64 p', .int .i64 a', .int .i64 b', .int .i64 c', .int .i64 d']] = some (.val (.bool true)) := by
  refine run_plain (cle_cons is9 (cle_cons is39 (cle_cons is40 (cle_cons is23 (cle_cons is41 cle_nil))))) rfl rfl ((t6 p a b c d p' a' b' c' d').trans ?_)
  simp only [cond_eq_ite, bne_iff_ne, beq_iff_eq, ne_eq]
  by_cases h1 : countE p a b c d = 0
  · by_cases h2 : countE p' a' b' c' d' = 0
    · obtain ⟨x0, x1, x2, x3, x4⟩ := count_zero h1
      obtain ⟨y0, y1, y2, y3, y4⟩ := count_zero h2
      by_cases h3 : countE (w (2 * p')) (w (2 * a')) (w (2 * b')) (w (2 * c')) (w (2 * d')) = 0
      · simp [h1, h2, h3, both, ok, cl_self, cl_twice x1 x0 y1 y0, cl_twice x2 x0 y2 y0, cl_twice x3 x0 y3 y0, cl_twice x4 x0 y4 y0]
      · simp [h1, h2, h3, both, ok, cl_self]
    · simp [h1, h2, both, ok]
  · simp [h1, both, ok]
end Gv
