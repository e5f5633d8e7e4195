/- Drives: what they reach, and in how many ticks; the program's and the specification's. -/
import Derived.Test.YtnoifjomlmadkaaPO2
import Derived.Test.YtnoifjomlmadkaaGvYk
namespace Gv
open Go
set_option maxRecDepth 100000

theorem within_is (x a b : Int) : FB0_Within [.int .i64 x, .int .i64 a, .int .i64 b] = some (decide (a ≤ x ∧ x ≤ b)) := by
  refine FB0_Within_of _ _ _ ?_
  unfold tB0_Within
  by_cases h1 : a ≤ x
  · by_cases h2 : x ≤ b
    · rw [bif_pos h1, bif_pos h2]; simp [h1, h2]
    · rw [bif_pos h1, bif_neg h2]; simp [h2]
  · rw [bif_neg h1]; simp [h1]
theorem errorIf_is (b : Bool) (e : Int) : Fscan_errorIf [.bool b, .int .i64 e] = some (if b then e else 0) := by
  refine Fscan_errorIf_of _ _ ?_
  unfold tscan_errorIf
  cases b <;> rfl
theorem rangeError_is (x a b : Int) : Fscan_rangeError [.int .i64 x, .int .i64 a, .int .i64 b] = some (rangeE x a b) := by
  refine Fscan_rangeError_of _ _ _ ?_
  unfold tscan_rangeError
  simp only [errorIf_is, bindO_val, if_true, Bool.false_eq_true, if_false]
  by_cases h1 : x < a
  · rw [bif_pos h1, rangeE_out (by omega)]
  · by_cases h2 : x > b
    · rw [bif_neg h1, bif_pos h2, rangeE_out (by omega)]
    · rw [bif_neg h1, bif_neg h2, rangeE_in (by omega)]
theorem firstError2_is (e0 e1 : Int) : Fn env 59 (RSh.one (CK.int IntKind.i64)) [.list 2 [.int .i64 e0, .int .i64 e1]] = some (both e0 e1) := by
  refine Fscan_firstError_2_of _ _ ?_
  unfold tscan_firstError_2 both
  rw [bif_ne, bif_ne]
  by_cases h0 : e0 = 0
  · subst h0
    by_cases h1 : e1 = 0
    · subst h1; rfl
    · simp [h1]
  · simp [h0]

def axE (r a : Int) : Int := both (rangeE r 1 30) (rangeE a 1 30)
theorem axE_ok {r a : Int} (h : axE r a = 0) : (1 ≤ r ∧ r ≤ 30) ∧ 1 ≤ a ∧ a ≤ 30 := by
  by_cases h1 : 1 ≤ r ∧ r ≤ 30
  · by_cases h2 : 1 ≤ a ∧ a ≤ 30
    · exact ⟨h1, h2⟩
    · unfold axE both at h
      rw [rangeE_in h1, rangeE_out h2] at h
      cases h
  · unfold axE both at h
    rw [rangeE_out h1] at h
    cases h
theorem checkAxis_is (r a : Int) : Fscan_CheckAxis [.agg [.int .i64 r, .int .i64 a]] = some (axE r a) := by
  refine Fscan_CheckAxis_of _ _ ?_
  unfold tscan_CheckAxis
  simp only [rangeError_is, firstError2_is, bindO_val]
  rfl
theorem refAxis_is (r a : Int) : FR3_AxisErr [.agg [.int .i64 r, .int .i64 a]] = some (axE r a) := by
  refine FR3_AxisErr_of _ _ ?_
  unfold tR3_AxisErr
  simp only [within_is, bindO_val]
  unfold axE
  by_cases h1 : 1 ≤ r ∧ r ≤ 30
  · by_cases h2 : 1 ≤ a ∧ a ≤ 30
    · rw [bif_pos h1, bif_pos h2, rangeE_in h1, rangeE_in h2]; rfl
    · rw [bif_pos h1, bif_neg h2, rangeE_in h1, rangeE_out h2]; rfl
  · rw [bif_neg h1, rangeE_out h1]; rfl

/-! One tick more, and all of them -/
def gx (r a : Int) (x : Nat) : Int := if (x : Int) * a < r then (x : Int) * a else r
def gr (r a : Int) (k : Nat) : Int := gx r a (k / 2 + 1)
def rc (r a : Int) : Nat → Int
  | 0 => 0
  | k + 1 => rc r a k + gr r a k

section
variable {r a : Int}
theorem mul_pos' {x : Nat} (ha : 1 ≤ a ∧ a ≤ 30) (hx : x ≤ 2000) : (x : Int) ≤ (x : Int) * a ∧ (x : Int) * a ≤ 60000 := by
  constructor
  · have := Int.mul_le_mul_of_nonneg_left ha.1 (show (0 : Int) ≤ (x : Int) by omega)
    omega
  · have h1 := Int.mul_le_mul_of_nonneg_left ha.2 (show (0 : Int) ≤ (x : Int) by omega)
    omega
theorem gx_in (hr : 1 ≤ r ∧ r ≤ 30) (ha : 1 ≤ a ∧ a ≤ 30) {x : Nat} (h1 : 1 ≤ x) (hx : x ≤ 2000) : 1 ≤ gx r a x ∧ gx r a x ≤ 30 := by
  have := mul_pos' ha hx
  unfold gx
  split <;> omega
theorem rc_in (hr : 1 ≤ r ∧ r ≤ 30) (ha : 1 ≤ a ∧ a ≤ 30) : ∀ k : Nat, k ≤ 1000 → (k : Int) ≤ rc r a k ∧ rc r a k ≤ 30 * (k : Int)
  | 0, _ => by simp [rc]
  | k + 1, h => by
    have h1 := rc_in hr ha k (by omega)
    have h2 := gx_in hr ha (x := k / 2 + 1) (by omega) (by omega)
    rw [rc]
    unfold gr
    omega

theorem growth_is (hr : 1 ≤ r ∧ r ≤ 30) (ha : 1 ≤ a ∧ a ≤ 30) (k : Nat) (hk : k ≤ 1000) : Fscan_growth [.agg [.int .i64 r, .int .i64 a], .int .i64 (k : Int)] = some (gr r a k) := by
  refine Fscan_growth_of _ _ _ ?_
  unfold tscan_growth
  have e : Int.tdiv (k : Int) 2 = ((k / 2 : Nat) : Int) := by rw [Int.tdiv_eq_ediv_of_nonneg (by omega)]; omega
  have e2 : ((k / 2 : Nat) : Int) + 1 = ((k / 2 + 1 : Nat) : Int) := by omega
  have hm := mul_pos' (x := k / 2 + 1) ha (by omega)
  rw [e, w64_in (n := ((k / 2 : Nat) : Int)) (by omega), w64_in (n := ((k / 2 : Nat) : Int) + 1) (by omega), e2, w64_in (by omega)]
  rfl

theorem reach_at (hr : 1 ≤ r ∧ r ≤ 30) (ha : 1 ≤ a ∧ a ≤ 30) (t : Nat) (ht : t ≤ 1000) : ∀ k, k ≤ t → Rscan_ReachOf_0 (Tscan_ReachOf_0a (rc r a k) (t : Int) (k : Int) r a) = exO (Xscan_ReachOf_0a (rc r a t, r, a)) := by
  refine up_ind _ ?_ ?_
  · refine Rscan_ReachOf_0a_of _ _ _ _ _ ?_
    unfold Bscan_ReachOf_0a
    rw [bif_neg (by omega)]
    rfl
  · intro k hk ih
    have h1 := rc_in hr ha k (by omega)
    have h2 := rc_in hr ha (k + 1) (by omega)
    refine Rscan_ReachOf_0a_of _ _ _ _ _ ?_
    unfold Bscan_ReachOf_0a
    rw [bif_pos (by omega)]
    simp only [growth_is hr ha k (by omega), bindO_val]
    have e : rc r a k + gr r a k = rc r a (k + 1) := rfl
    rw [e, w64_in (n := rc r a (k + 1)) (by omega), w64_in (n := (k : Int) + 1) (by omega)]
    exact ih

theorem reachOf_is (r a t : Int) : Fscan_ReachOf [.agg [.int .i64 r, .int .i64 a], .int .i64 t] = some (if both (axE r a) (rangeE t 0 1000) = 0 then (rc r a t.toNat, 0) else (0, both (axE r a) (rangeE t 0 1000))) := by
  refine Fscan_ReachOf_of _ _ _ ?_
  unfold tscan_ReachOf
  simp only [checkAxis_is, rangeError_is, firstError2_is, bindO_val]
  rw [bif_ne]
  by_cases h : both (axE r a) (rangeE t 0 1000) = 0
  · rw [if_pos h, if_pos h]
    have h0 : axE r a = 0 ∧ rangeE t 0 1000 = 0 := by
      unfold both at h
      split at h
      · rename_i h1; exact absurd h h1
      · rename_i h1; exact ⟨by simpa using h1, h⟩
    obtain ⟨hr, ha⟩ := axE_ok h0.1
    have ht := rangeE_ok h0.2
    obtain ⟨n, rfl⟩ : ∃ n : Nat, t = n := ⟨t.toNat, by omega⟩
    have := Lscan_ReachOf_0a_of (reach_at hr ha n (by omega) 0 (Nat.zero_le _))
    have this : Lscan_ReachOf_0 (Tscan_ReachOf_0a 0 (n : Int) 0 r a) = _ := this
    rw [this, Int.toNat_natCast]
    rfl
  · rw [if_neg h, if_neg h]

/-! The specification's sum -/
def sx (r a : Int) : Nat → Int
  | 0 => 0
  | n + 1 => sx r a n + gx r a (n + 1)
theorem sx_in (hr : 1 ≤ r ∧ r ≤ 30) (ha : 1 ≤ a ∧ a ≤ 30) : ∀ k : Nat, k ≤ 1000 → 0 ≤ sx r a k ∧ sx r a k ≤ 30 * (k : Int)
  | 0, _ => by simp [sx]
  | k + 1, h => by
    have h1 := sx_in hr ha k (by omega)
    have h2 := gx_in hr ha (x := k + 1) (by omega) (by omega)
    rw [sx]
    omega
theorem rc_sx (r a : Int) : ∀ t : Nat, rc r a t = sx r a (t / 2) + sx r a ((t + 1) / 2)
  | 0 => by simp [rc, sx]
  | t + 1 => by
    rw [rc, rc_sx r a t, show (t + 1 + 1) / 2 = t / 2 + 1 by omega, sx]
    unfold gr
    omega
/-- The sum of the first j terms. -/
def ps (r a : Int) (t j : Nat) : Int := if j ≤ (t + 1) / 2 then sx r a j else sx r a ((t + 1) / 2) + sx r a (t / 2) - sx r a (t - j)
theorem ps_end (r a : Int) (t : Nat) : ps r a t t = rc r a t := by
  rw [rc_sx]
  unfold ps
  split
  · have h : t = 0 ∨ t = 1 := by omega
    rcases h with rfl | rfl <;> simp [sx]
  · rw [Nat.sub_self, sx]
    omega
theorem ps_step (t j : Nat) (h : j < t) : ps r a t (j + 1) = ps r a t j + gx r a (min (j + 1) (t - j)) := by
  unfold ps
  by_cases h1 : j + 1 ≤ (t + 1) / 2
  · rw [if_pos h1, if_pos (by omega), Nat.min_eq_left (by omega), sx]
  · rw [if_neg h1, Nat.min_eq_right (by omega)]
    obtain ⟨m, hm⟩ : ∃ m, t - j = m + 1 := ⟨t - j - 1, by omega⟩
    have hm2 : t - (j + 1) = m := by omega
    rw [hm2, hm]
    by_cases h2 : j ≤ (t + 1) / 2
    · have hj : j = (t + 1) / 2 := by omega
      have ht : t / 2 = m + 1 := by omega
      rw [if_pos h2, hj, ht, sx]
      omega
    · rw [if_neg h2, sx]
      omega
theorem ps_in (hr : 1 ≤ r ∧ r ≤ 30) (ha : 1 ≤ a ∧ a ≤ 30) {t j : Nat} (ht : t ≤ 1000) (hj : j ≤ t) : -60000 ≤ ps r a t j ∧ ps r a t j ≤ 60000 := by
  have h1 := sx_in hr ha j (by omega)
  have h2 := sx_in hr ha ((t + 1) / 2) (by omega)
  have h3 := sx_in hr ha (t / 2) (by omega)
  have h4 := sx_in hr ha (t - j) (by omega)
  unfold ps
  split <;> omega
theorem gx_min (ha : 1 ≤ a ∧ a ≤ 30) (x y : Nat) : gx r a (min x y) = if (if (y : Int) * a < (x : Int) * a then (y : Int) * a else (x : Int) * a) < r then (if (y : Int) * a < (x : Int) * a then (y : Int) * a else (x : Int) * a) else r := by
  have hpos : (0 : Int) < a := by omega
  by_cases h : y < x
  · have hlt : (y : Int) * a < (x : Int) * a := Int.mul_lt_mul_of_pos_right (by omega) hpos
    rw [Nat.min_eq_right (by omega), if_pos hlt]
    rfl
  · have hle : (x : Int) * a ≤ (y : Int) * a := Int.mul_le_mul_of_nonneg_right (by omega) (by omega)
    rw [Nat.min_eq_left (by omega), if_neg (show ¬ (y : Int) * a < (x : Int) * a by omega)]
    rfl
theorem refReach_at (hr : 1 ≤ r ∧ r ≤ 30) (ha : 1 ≤ a ∧ a ≤ 30) (t : Nat) (ht : t ≤ 1000) : ∀ j, j ≤ t → RR3_Reach_0 (TR3_Reach_0a (t : Int) (ps r a t j) ((j + 1 : Nat) : Int) r a) = exO (XR3_Reach_0a (rc r a t, r, a)) := by
  refine up_ind _ ?_ ?_
  · refine RR3_Reach_0a_of _ _ _ _ _ ?_
    unfold BR3_Reach_0a
    rw [bif_neg (by omega), ps_end]
    rfl
  · intro j hj ih
    have h1 := ps_in hr ha ht (show j + 1 ≤ t by omega)
    have m1 := mul_pos' (x := t - j) ha (by omega)
    have m2 := mul_pos' (x := j + 1) ha (by omega)
    have e1 : w64 (w64 ((t : Int) + 1) - ((j + 1 : Nat) : Int)) = ((t - j : Nat) : Int) := by
      rw [w64_in (n := (t : Int) + 1) (by omega), w64_in (by omega)]; omega
    have e2 : w64 (((j + 1 : Nat) : Int) + 1) = ((j + 1 + 1 : Nat) : Int) := by rw [w64_in (by omega)]; omega
    refine RR3_Reach_0a_of _ _ _ _ _ ?_
    unfold BR3_Reach_0a
    rw [bif_pos (by omega), e1, e2, w64_in (n := ((t - j : Nat) : Int) * a) (by omega), w64_in (n := ((j + 1 : Nat) : Int) * a) (by omega), ← gx_min ha, ← ps_step t j hj, w64_in (by omega)]
    exact ih
theorem refReach_is (hr : 1 ≤ r ∧ r ≤ 30) (ha : 1 ≤ a ∧ a ≤ 30) (t : Nat) (ht : t ≤ 1000) : FR3_Reach [.agg [.int .i64 r, .int .i64 a], .int .i64 (t : Int)] = some (rc r a t) := by
  refine FR3_Reach_of _ _ _ ?_
  unfold tR3_Reach
  have := LR3_Reach_0a_of (refReach_at hr ha t ht 0 (Nat.zero_le _))
  have h0 : ps r a t 0 = 0 := by unfold ps; rw [if_pos (by omega)]; rfl
  rw [h0] at this
  have this : LR3_Reach_0 (TR3_Reach_0a (t : Int) 0 1 r a) = _ := this
  rw [this]
  rfl

/-! The first number of ticks that reaches a distance -/
theorem ticks_at (hr : 1 ≤ r ∧ r ≤ 30) (ha : 1 ≤ a ∧ a ≤ 30) {d : Int} (hd : d ≤ 360) : ∀ (m t : Nat), d ≤ (t : Int) + m → t + m ≤ 400 → ∃ T : Nat, t ≤ T ∧ T ≤ t + m ∧
    Rscan_ticksFor_0 (Tscan_ticksFor_0a d (t : Int) (rc r a t) r a) = exO (Xscan_ticksFor_0a ((T : Int), r, a)) ∧
    RR3_Ticks_0 (TR3_Ticks_0a d (t : Int) r a) = exO (XR3_Ticks_0a ((T : Int), r, a)) ∧ d ≤ rc r a T ∧ ∀ s, t ≤ s → s < T → rc r a s < d := by
  intro m
  induction m with
  | zero =>
    intro t h1 h2
    have h3 := rc_in hr ha t (by omega)
    refine ⟨t, Nat.le_refl _, by omega, Rscan_ticksFor_0a_of _ _ _ _ _ ?_, RR3_Ticks_0a_of _ _ _ _ ?_, by omega, fun s a b => by omega⟩
    · unfold Bscan_ticksFor_0a
      rw [bif_neg (by omega)]
      rfl
    · unfold BR3_Ticks_0a
      simp only [refReach_is hr ha t (by omega), bindO_val]
      rw [bif_neg (by omega)]
      rfl
  | succ m ih =>
    intro t h1 h2
    have h3 := rc_in hr ha t (by omega)
    have h4 := rc_in hr ha (t + 1) (by omega)
    by_cases hlt : rc r a t < d
    · obtain ⟨T, a1, a2, a3, a4, a5, a6⟩ := ih (t + 1) (by omega) (by omega)
      have hw : w64 ((t : Int) + 1) = ((t + 1 : Nat) : Int) := by rw [w64_in (by omega)]; omega
      refine ⟨T, by omega, by omega, Rscan_ticksFor_0a_of _ _ _ _ _ ?_, RR3_Ticks_0a_of _ _ _ _ ?_, a5, fun s b1 b2 => ?_⟩
      · unfold Bscan_ticksFor_0a
        rw [bif_pos hlt]
        simp only [growth_is hr ha t (by omega), bindO_val, hw]
        have e : rc r a t + gr r a t = rc r a (t + 1) := rfl
        rw [e, w64_in (by omega)]
        exact a3
      · unfold BR3_Ticks_0a
        simp only [refReach_is hr ha t (by omega), bindO_val, hw]
        rw [bif_pos hlt]
        exact a4
      · by_cases he : s = t
        · subst he; exact hlt
        · exact a6 s (by omega) b2
    · refine ⟨t, Nat.le_refl _, by omega, Rscan_ticksFor_0a_of _ _ _ _ _ ?_, RR3_Ticks_0a_of _ _ _ _ ?_, by omega, fun s a b => by omega⟩
      · unfold Bscan_ticksFor_0a
        rw [bif_neg (by omega)]
        rfl
      · unfold BR3_Ticks_0a
        simp only [refReach_is hr ha t (by omega), bindO_val]
        rw [bif_neg (by omega)]
        rfl

theorem ticks_are (hr : 1 ≤ r ∧ r ≤ 30) (ha : 1 ≤ a ∧ a ≤ 30) {d : Int} (hd : 0 ≤ d ∧ d ≤ 360) : ∃ T : Nat, T ≤ 360 ∧ Fscan_ticksFor [.agg [.int .i64 r, .int .i64 a], .int .i64 d] = some (T : Int) ∧ FR3_Ticks [.agg [.int .i64 r, .int .i64 a], .int .i64 d] = some (T : Int) ∧
    d ≤ rc r a T ∧ ∀ s, s < T → rc r a s < d := by
  obtain ⟨T, _, a2, a3, a4, a5, a6⟩ := ticks_at hr ha hd.2 d.toNat 0 (by omega) (by omega)
  refine ⟨T, by omega, Fscan_ticksFor_of _ _ _ ?_, FR3_Ticks_of _ _ _ ?_, a5, fun s h => a6 s (Nat.zero_le _) h⟩
  · unfold tscan_ticksFor
    have h := Lscan_ticksFor_0a_of a3
    have h : Lscan_ticksFor_0 (Tscan_ticksFor_0a d 0 0 r a) = _ := h
    rw [h]
    rfl
  · unfold tR3_Ticks
    have h := LR3_Ticks_0a_of a4
    have h : LR3_Ticks_0 (TR3_Ticks_0a d 0 r a) = _ := h
    rw [h]
    rfl
end
end Gv
