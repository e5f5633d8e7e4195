/- Estimators: the program's and the specification's. -/
import Derived.Test.YtkbbilbpejbmiaaMS2

namespace Gv
open Go
set_option maxRecDepth 100000

def zz (p : Int × Int) (e : Int) : Int × (Int × Int) := (p.1, (p.2, e))

/-! ### Windows -/

/-- What is asked of a spectrum that is accepted. -/
structure Sp (l : List Int) : Prop where
  pos : 1 ≤ l.length
  len : l.length ≤ 16
  sm : Sm 10000 l
theorem sp_ok {l : List Int} (h : spE l = 0) : Sp l := by
  obtain ⟨a, b, c⟩ := spE_ok h
  exact ⟨a, b, c⟩

theorem max_zero {l : List Int} (h : Sp l) (hm : maxL l = 0) (j : Nat) : l.getD j 0 = 0 := by
  have a := h.sm.getD (by omega) j
  by_cases hj : j < l.length
  · have := maxL_ge (getD_mem hj)
    omega
  · rw [List.getD_eq_getElem?_getD, List.getElem?_eq_none (by omega)]; rfl
theorem max_nonneg {l : List Int} (h : Sp l) : 0 ≤ maxL l ∧ maxL l ≤ 10000 := h.sm _ (maxL_mem h.pos)

theorem sum_zero {l : List Int} (h : Sp l) : sumL l = 0 ↔ maxL l = 0 := by
  obtain ⟨_, p1, p2, _⟩ := pkL_spec h.pos
  constructor
  · intro hs
    have := pw_ge (by omega) h.sm l.length 0 (pkL l) (by omega) (by omega)
    have := max_nonneg h
    unfold sumL at hs
    omega
  · intro hm
    exact pw_zero _ _ fun j _ _ => max_zero h hm j
theorem sum_bd {l : List Int} (h : Sp l) : 0 ≤ sumL l ∧ sumL l ≤ 160000 := by
  have := pw_bd (by omega) h.sm l.length 0
  have := h.len
  unfold sumL
  omega
theorem mom_bd {l : List Int} (h : Sp l) : 0 ≤ momL l ∧ momL l ≤ 2560000 := by
  have a := mo_bd (by omega) h.sm l.length 0 16 (by have := h.len; omega)
  have := h.len
  unfold momL
  omega

theorem isDark_is {l : List Int} (h : Sp l) : Fline_isDark [.list l.length (encI l)] = some (decide (maxL l = 0)) := by
  refine Fline_isDark_of _ _ ?_
  unfold tline_isDark
  simp only [maxS_is l h.pos (by have := h.len; omega), bindO_val, bif_eq]
  split
  · rename_i e; rw [decide_eq_true e]
  · rename_i e; rw [decide_eq_false e]

/-! ### The centroid -/

def ceS (l : List Int) (half : Int) : Int := pw l (nLo (pkL l) half) (nN l (pkL l) half)
def ceM (l : List Int) (half : Int) : Int := mo l (nLo (pkL l) half) (nN l (pkL l) half)
theorem ce_bd {l : List Int} (h : Sp l) (half : Int) : 0 ≤ ceS l half ∧ ceS l half ≤ 160000 ∧ 0 ≤ ceM l half ∧ ceM l half ≤ 2560000 := by
  have hl := h.len
  have hn : nN l (pkL l) half ≤ 16 := by simp only [nN]; omega
  have a := pw_bd (by omega) h.sm (nN l (pkL l) half) (nLo (pkL l) half)
  by_cases h0 : nN l (pkL l) half = 0
  · unfold ceS ceM
    rw [h0] at a ⊢
    simp [pw, mo]
  · have b := mo_bd (by omega) h.sm (nN l (pkL l) half) (nLo (pkL l) half) 16 (by simp only [nN] at h0 ⊢; omega)
    unfold ceS ceM
    omega
theorem ce_zero {l : List Int} (h : Sp l) {half : Int} (hh : 0 ≤ half) : ceS l half = 0 ↔ maxL l = 0 := by
  obtain ⟨_, p1, p2, _⟩ := pkL_spec h.pos
  constructor
  · intro hs
    have := pw_ge (by omega) h.sm (nN l (pkL l) half) (nLo (pkL l) half) (pkL l) (by simp only [nLo]; omega) (by simp only [nLo, nN]; omega)
    have := max_nonneg h
    unfold ceS at hs
    omega
  · intro hm
    exact pw_zero _ _ fun j _ _ => max_zero h hm j

def cenE (l : List Int) (half : Int) : Int := both (spE l) (rangeE half 0 16)
def cenR (l : List Int) (half : Int) : Int × (Int × Int) :=
  if cenE l half ≠ 0 then (0, (0, cenE l half)) else if maxL l = 0 then (0, (0, 11)) else zz (lowF (ceM l half) (ceS l half)) 0

/-! ### All estimators -/

theorem kindError_is (k : Int) : Fline_kindError [.int .i64 k] = some (if rangeE k 0 3 = 0 then 0 else 14) := by
  refine Fline_kindError_of _ ?_
  unfold tline_kindError
  simp only [outside_is, bindO_val, bif_dec]
  by_cases h : rangeE k 0 3 = 0 <;> simp [h]
def parD (l : List Int) : Int := 2 * l.getD (pkL l) 0 - l.getD (pkL l - 1) 0 - l.getD (pkL l + 1) 0
def parN (l : List Int) : Int := 2 * parD l * pkL l + l.getD (pkL l + 1) 0 - l.getD (pkL l - 1) 0
def estPar (l : List Int) : Int × Int := if pkL l = 0 ∨ pkL l + 1 = l.length then ((pkL l : Int), 1) else lowF (parN l) (2 * parD l)
theorem par_bd {l : List Int} (h : Sp l) (h0 : pkL l ≠ 0) : 0 < parD l ∧ parD l ≤ 20000 ∧ -1000000 ≤ parN l ∧ parN l ≤ 1000000 := by
  obtain ⟨_, p1, p2, p3⟩ := pkL_spec h.pos
  have a := h.sm.getD (by omega) (pkL l)
  have b := h.sm.getD (by omega) (pkL l - 1)
  have c := h.sm.getD (by omega) (pkL l + 1)
  have d := p3 (pkL l - 1) (by omega)
  have e : l.getD (pkL l + 1) 0 ≤ maxL l := by
    by_cases hj : pkL l + 1 < l.length
    · exact maxL_ge (getD_mem hj)
    · have := max_nonneg h
      rw [List.getD_eq_getElem?_getD, List.getElem?_eq_none (by omega)]
      exact this.1
  have hl := h.len
  have g1 : 0 < parD l := by unfold parD; omega
  have g2 : parD l ≤ 20000 := by unfold parD; omega
  have g3 : 0 ≤ parD l * (pkL l : Int) := Int.mul_nonneg (by omega) (by omega)
  have g4 : parD l * (pkL l : Int) ≤ 20000 * 16 := Int.mul_le_mul g2 (by omega) (by omega) (by omega)
  have g5 : 2 * parD l * (pkL l : Int) = 2 * (parD l * (pkL l : Int)) := by rw [Int.mul_assoc]
  refine ⟨g1, g2, ?_, ?_⟩ <;> (unfold parN; omega)

/-- The first line up to which at least half of the power is. -/
def medP (l : List Int) (k : Nat) : Bool := decide (sumL l ≤ 2 * pw l 0 (k + 1))
def medL (l : List Int) : Nat := fstN (medP l) l.length 0

def est (l : List Int) (k : Int) : Int × Int :=
  if maxL l = 0 then (0, 1) else if k = 1 then lowF (momL l) (sumL l) else if k = 2 then estPar l else if k = 3 then ((medL l : Int), 1) else ((pkL l : Int), 1)

theorem byPeak_is {l : List Int} (h : Sp l) : Fline_byPeak [.list l.length (encI l)] = some ((pkL l : Int), 1) := by
  refine Fline_byPeak_of _ _ ?_
  unfold tline_byPeak
  simp only [peak_is l h.pos (by have := h.len; omega), bindO_val, whole_is]
theorem byCentroid_is {l : List Int} (h : Sp l) (hm : maxL l ≠ 0) : Fline_byCentroid [.list l.length (encI l)] = some (lowF (momL l) (sumL l)) := by
  refine Fline_byCentroid_of _ _ ?_
  unfold tline_byCentroid
  have a := sum_bd h
  have b := mom_bd h
  have c := sum_zero h
  simp only [sumsAllS_is l (by have := h.len; omega) h.sm, bindO_val, lowest_is (n := momL l) (d := sumL l) (by unfold Bd; omega) (by unfold Bd; omega) (by omega)]

theorem byParabola_is {l : List Int} (h : Sp l) : Fline_byParabola [.list l.length (encI l)] = some (estPar l) := by
  refine Fline_byParabola_of _ _ ?_
  unfold tline_byParabola estPar
  obtain ⟨_, p1, p2, p3⟩ := pkL_spec h.pos
  have hl := h.len
  simp only [peak_is l h.pos (by omega), bindO_val, whole_is, bif_eq]
  rw [w64_in (n := (l.length : Int) - 1) (by omega)]
  by_cases h0 : pkL l = 0
  · rw [if_pos (by omega), if_pos (.inl h0)]
  · rw [if_neg (by omega)]
    by_cases h1 : pkL l + 1 = l.length
    · rw [if_pos (by omega), if_pos (.inr h1)]
    · have a := h.sm.getD (by omega) (pkL l)
      have b := h.sm.getD (by omega) (pkL l - 1)
      have c := h.sm.getD (by omega) (pkL l + 1)
      obtain ⟨g1, g2, g3, g4⟩ := par_bd h h0
      have i1 : w64 ((pkL l : Int) - 1) = ((pkL l - 1 : Nat) : Int) := by rw [w64_in (by omega)]; omega
      have i2 : w64 ((pkL l : Int) + 1) = ((pkL l + 1 : Nat) : Int) := by rw [w64_in (by omega)]; omega
      have q1 : decide ((0 : Int) ≤ ((pkL l : Nat) : Int) ∧ ((pkL l : Nat) : Int) < (l.length : Int)) = true := decide_eq_true (by omega)
      have q2 : decide ((0 : Int) ≤ ((pkL l - 1 : Nat) : Int) ∧ ((pkL l - 1 : Nat) : Int) < (l.length : Int)) = true := decide_eq_true (by omega)
      have q3 : decide ((0 : Int) ≤ ((pkL l + 1 : Nat) : Int) ∧ ((pkL l + 1 : Nat) : Int) < (l.length : Int)) = true := decide_eq_true (by omega)
      rw [if_neg (by omega), if_neg (by omega), i1, i2]
      simp only [q1, q2, q3, cond_true, Int.toNat_natCast, Nat.mul_one, encI_get, get_getD 0 (show pkL l < l.length by omega), get_getD 0 (show pkL l - 1 < l.length by omega), get_getD 0 (show pkL l + 1 < l.length by omega), Option.map_some, intC_int, bindO_val]
      have e1 : w64 (w64 (w64 (2 * l.getD (pkL l) 0) - l.getD (pkL l - 1) 0) - l.getD (pkL l + 1) 0) = parD l := by
        rw [w64_in (n := 2 * l.getD (pkL l) 0) (by omega), w64_in (n := 2 * l.getD (pkL l) 0 - l.getD (pkL l - 1) 0) (by omega)]
        exact w64_in (by unfold parD at g1 g2; omega)
      have f1 : 0 ≤ parD l * (pkL l : Int) := Int.mul_nonneg (by omega) (by omega)
      have f2 : parD l * (pkL l : Int) ≤ 20000 * 16 := Int.mul_le_mul g2 (by omega) (by omega) (by omega)
      have f3 : 2 * parD l * (pkL l : Int) = 2 * (parD l * (pkL l : Int)) := by rw [Int.mul_assoc]
      rw [e1, w64_in (n := 2 * parD l) (by omega), w64_in (n := 2 * parD l * (pkL l : Int)) (by omega), w64_in (n := 2 * parD l * (pkL l : Int) + l.getD (pkL l + 1) 0) (by omega), w64_in (n := 2 * parD l * (pkL l : Int) + l.getD (pkL l + 1) 0 - l.getD (pkL l - 1) 0) (by omega)]
      rw [show 2 * parD l * (pkL l : Int) + l.getD (pkL l + 1) 0 - l.getD (pkL l - 1) 0 = parN l from rfl]
      simp only [lowest_is (n := parN l) (d := 2 * parD l) (by unfold Bd; omega) (by unfold Bd; omega) (by omega), bindO_val]

theorem med_end {l : List Int} (h : Sp l) {k : Nat} (hk : k + 1 = l.length) : medP l k = true := by
  have a := sum_bd h
  unfold medP
  rw [hk]
  exact decide_eq_true (by unfold sumL at *; omega)

theorem med_loop {l : List Int} (h : Sp l) : ∀ k, k ≤ l.length - 1 →
    Rline_byMedian_0 (Tline_byMedian_0a l.length (encI l) (sumL l) (k : Int) (pw l 0 (k + 1))) = exO (Xline_byMedian_0a (fstN (medP l) (l.length - k) k : Int)) := by
  have hl := h.len
  have hp := h.pos
  refine up_ind _ ?_ ?_
  · refine Rline_byMedian_0a_of _ _ _ _ _ ?_
    unfold Bline_byMedian_0a
    have a := med_end h (k := l.length - 1) (by omega)
    have b := pw_bd (by omega) h.sm (l.length - 1 + 1) 0
    rw [show l.length - (l.length - 1) = 0 + 1 by omega, fstN_stop a]
    have a' := of_decide_eq_true a
    rw [w64_in (by omega), bif_neg (by omega)]
    rfl
  · intro k hk ih
    refine Rline_byMedian_0a_of _ _ _ _ _ ?_
    unfold Bline_byMedian_0a
    have b := pw_bd (by omega) h.sm (k + 1) 0
    have b2 := h.sm.getD (by omega) (k + 1)
    rw [show l.length - k = (l.length - (k + 1)) + 1 by omega, w64_in (n := 2 * pw l 0 (k + 1)) (by omega)]
    by_cases hq : medP l k = true
    · have := of_decide_eq_true hq
      rw [fstN_stop hq, bif_neg (by omega)]
      rfl
    · have hq' : medP l k = false := by simpa using hq
      have := of_decide_eq_false hq'
      rw [fstN_go hq', bif_pos (by omega), show w64 ((k : Int) + 1) = ((k + 1 : Nat) : Int) by rw [w64_in (by omega)]; omega, bif_pos (by omega)]
      simp only [Int.toNat_natCast, Nat.mul_one, encI_get, get_getD 0 (show k + 1 < l.length by omega), Option.map_some, intC_int, bindO_val]
      have e := pw_snoc l (k + 1) 0
      rw [Nat.zero_add] at e
      rw [w64_in (by omega), ← e]
      exact ih

theorem byMedian_is {l : List Int} (h : Sp l) : Fline_byMedian [.list l.length (encI l)] = some ((medL l : Int), 1) := by
  refine Fline_byMedian_of _ _ ?_
  unfold tline_byMedian
  have hl := h.len
  have hp := h.pos
  have := Lline_byMedian_0a_of (med_loop h 0 (by omega))
  rw [show ((0 : Nat) : Int) = 0 from rfl, show pw l 0 (0 + 1) = l.getD 0 0 by simp [pw], Nat.sub_zero] at this
  simp only [sumsAllS_is l (by omega) h.sm, bindO_val]
  rw [bif_pos (by omega)]
  simp only [encI_get, get_getD 0 (show 0 < l.length by omega), Option.map_some, intC_int, bindO_val, this, whole_is]
  rfl

theorem estimate_is {l : List Int} (h : Sp l) {k : Int} (hk : rangeE k 0 3 = 0) : Fn env 59 (.agg [.int .i64, .int .i64]) [.list l.length (encI l), .int .i64 k] = some (est l k) := by
  have hr := rangeE_ok hk
  have hc : k = 0 ∨ k = 1 ∨ k = 2 ∨ k = 3 := by omega
  unfold est
  rcases hc with rfl | rfl | rfl | rfl
  · refine Fline_estimate0_of _ _ ?_
    unfold tline_estimate0
    simp only [isDark_is h, bindO_val, bif_dec, whole_is, byPeak_is h]
    by_cases hm : maxL l = 0 <;> simp [hm]
  · refine Fline_estimate1_of _ _ ?_
    unfold tline_estimate1
    simp only [isDark_is h, bindO_val, bif_dec, whole_is]
    by_cases hm : maxL l = 0
    · simp [hm]
    · simp only [hm, if_false, byCentroid_is h hm, bindO_val, if_true]
  · refine Fline_estimate2_of _ _ ?_
    unfold tline_estimate2
    simp only [isDark_is h, bindO_val, bif_dec, whole_is, byParabola_is h]
    by_cases hm : maxL l = 0 <;> simp [hm]
  · refine Fline_estimate3_of _ _ ?_
    unfold tline_estimate3
    simp only [isDark_is h, bindO_val, bif_dec, whole_is, byMedian_is h]
    by_cases hm : maxL l = 0 <;> simp [hm]

def estE (l : List Int) (k : Int) : Int := both (spE l) (if rangeE k 0 3 = 0 then 0 else 14)
def estR (l : List Int) (k : Int) : Int × (Int × Int) := if estE l k ≠ 0 then (0, (0, estE l k)) else zz (est l k) 0
theorem estimated_is (l : List Int) (k : Int) (hl : l.length < 4294967296) : Fline_Estimated [.list l.length (encI l), .int .i64 k] = some (estR l k) := by
  refine Fline_Estimated_of _ _ _ ?_
  unfold tline_Estimated estR
  simp only [spError_is l hl, kindError_is, lnFirst2_is, bindO_val, bif_ne]
  rw [show both (spE l) (if rangeE k 0 3 = 0 then 0 else 14) = estE l k from rfl]
  by_cases he : estE l k = 0
  · obtain ⟨e1, e2⟩ := both_nil he
    have hk : rangeE k 0 3 = 0 := by
      split at e2
      · assumption
      · cases e2
    simp only [he, ne_eq, not_true_eq_false, if_false, if_true, estimate_is (sp_ok e1) hk, bindO_val]
    rfl
  · simp only [he, ne_eq, not_false_eq_true, if_true, if_false]
end Gv
