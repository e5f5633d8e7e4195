import Derived.Test.YtkbahledgljaoaaCS3a
import Derived.Test.YtkbahledgljaoaaCS9

/- The middle of numbers by counting. -/
namespace Gv
open Go

theorem cnt_lt_le {l : List Int} {x y : Int} (h : y < x) : l.countP (fun z => decide (z ≤ y)) ≤ l.countP (fun z => decide (z < x)) :=
  List.countP_mono_left fun z _ hz => by
    have := of_decide_eq_true hz
    exact decide_eq_true (by omega)
theorem mid_counts {l : List Int} (h1 : 1 ≤ l.length) : l.countP (fun z => decide (z < midL l)) ≤ (l.length - 1) / 2 ∧ (l.length - 1) / 2 < l.countP (fun z => decide (z ≤ midL l)) := by
  have hasc := isort_asc l
  have hp : ∀ p : Int → Bool, l.countP p = (isort l).countP p := fun p => ((isort_perm l).countP_eq p).symm
  have hat : (l.length - 1) / 2 < (isort l).length := by rw [isort_len]; omega
  have hm : midL l = (isort l).getD ((l.length - 1) / 2) 0 := rfl
  constructor
  · have h := cnt_drop (l := isort l) (p := fun z => !decide (z < midL l)) (k := (l.length - 1) / 2) fun i hi1 hi2 => by
      have := asc_get hasc hi1 hi2
      rw [hm]
      simp only [Bool.not_eq_true', decide_eq_false_iff_not]
      omega
    have hc := List.length_eq_countP_add_countP (fun z => decide (z < midL l)) (l := isort l)
    rw [hp]
    have e : (isort l).countP (fun z => !decide (z < midL l)) = (isort l).countP (fun a => ¬ (decide (a < midL l)) = true) := by
      congr 1
      funext z
      by_cases hz : z < midL l <;> simp [hz]
    rw [e] at h
    omega
  · have h := cnt_take (l := isort l) (p := fun z => decide (z ≤ midL l)) (k := (l.length - 1) / 2 + 1) (by omega) fun i hi => by
      have := asc_get hasc (show i ≤ (l.length - 1) / 2 by omega) hat
      rw [hm]
      exact decide_eq_true this
    rw [hp]
    omega
theorem mid_unique {l : List Int} {y : Int} (h1 : 1 ≤ l.length) (h2 : l.countP (fun z => decide (z < y)) ≤ (l.length - 1) / 2) (h3 : (l.length - 1) / 2 < l.countP (fun z => decide (z ≤ y))) : y = midL l := by
  have hm := mid_counts h1
  rcases Int.lt_trichotomy y (midL l) with h | h | h
  · have := cnt_lt_le (l := l) h
    omega
  · exact h
  · have := cnt_lt_le (l := l) h
    omega
theorem mid_mem {l : List Int} (h1 : 1 ≤ l.length) : midL l ∈ l := by
  have hat : (l.length - 1) / 2 < (isort l).length := by rw [isort_len]; omega
  refine (isort_perm l).mem_iff.1 ?_
  have : midL l = (isort l)[(l.length - 1) / 2] := by
    show (isort l).getD _ 0 = _
    simp [List.getD, List.getElem?_eq_getElem hat]
  rw [this]
  exact List.getElem_mem hat
theorem cnt_le_split (l : List Int) (x : Int) : l.countP (fun z => decide (z ≤ x)) = l.countP (fun z => decide (z < x)) + l.countP (fun z => decide (z = x)) := by
  induction l with
  | nil => rfl
  | cons z l ih =>
    simp only [List.countP_cons, ih]
    by_cases a : z < x
    · simp [a, show z ≤ x by omega, show ¬ z = x by omega]; omega
    · by_cases b : z = x
      · simp [b]; omega
      · simp [a, b, show ¬ z ≤ x by omega]
end Gv

/- The reference's middle: its two loops. -/
namespace Gv
open Go
set_option maxRecDepth 100000

def ltC (l : List Int) (x : Int) : Nat := l.countP fun z => decide (z < x)
def eqC (l : List Int) (x : Int) : Nat := l.countP fun z => decide (z = x)
theorem ltC_le (l : List Int) (x : Int) : ltC l x ≤ l.length := List.countP_le_length
theorem eqC_le (l : List Int) (x : Int) : eqC l x ≤ l.length := List.countP_le_length

theorem count_loop (l : List Int) (hl : l.length ≤ 1000) (i : Nat) (x : Int) (hx : l[i]? = some x) : ∀ k, k ≤ l.length → ∀ a b : Nat, a ≤ k → b ≤ k →
    Rglidepathref08_Middle_2 (Tglidepathref08_Middle_2a l.length (encI l) i a b k) = exO (Xglidepathref08_Middle_2a (l.length, encI l, i, ((a + ltC (l.drop k) x : Nat) : Int), ((b + eqC (l.drop k) x : Nat) : Int))) := by
  have hi : i < l.length := (List.getElem?_eq_some_iff.1 hx).1
  refine up_ind (P := fun k => ∀ a b : Nat, a ≤ k → b ≤ k → Rglidepathref08_Middle_2 (Tglidepathref08_Middle_2a l.length (encI l) i a b k) = exO (Xglidepathref08_Middle_2a (l.length, encI l, i, ((a + ltC (l.drop k) x : Nat) : Int), ((b + eqC (l.drop k) x : Nat) : Int)))) _ ?_ ?_
  · intro a b _ _
    refine Rglidepathref08_Middle_2a_of _ _ _ _ _ _ ?_
    unfold Bglidepathref08_Middle_2a
    rw [bif_neg (by omega), List.drop_length]
    rfl
  · intro k hk ih a b ha hb
    obtain ⟨z, hz, hd⟩ := get_drop hk
    refine Rglidepathref08_Middle_2a_of _ _ _ _ _ _ ?_
    unfold Bglidepathref08_Middle_2a
    rw [bif_pos (by omega)]
    have hb1 : (decide (((0 : Int) ≤ (k : Int)) ∧ ((k : Int) < (l.length : Int)))) = true := decide_eq_true ⟨by omega, by omega⟩
    have hb2 : (decide (((0 : Int) ≤ (i : Int)) ∧ ((i : Int) < (l.length : Int)))) = true := decide_eq_true ⟨by omega, by omega⟩
    have wk : w64 ((k : Int) + 1) = ((k + 1 : Nat) : Int) := by rw [w64_in (by omega)]; omega
    have wa : w64 ((a : Int) + 1) = ((a + 1 : Nat) : Int) := by rw [w64_in (by omega)]; omega
    have wb : w64 ((b : Int) + 1) = ((b + 1 : Nat) : Int) := by rw [w64_in (by omega)]; omega
    simp only [hb1, hb2, cond_true, Int.toNat_natCast, Nat.mul_one, encI_get, hz, hx, Option.map_some, intC_int, bindO_val, wk, wa, wb, bif_eq]
    rw [hd]
    have c1 : ltC (z :: l.drop (k + 1)) x = ltC (l.drop (k + 1)) x + (if z < x then 1 else 0) := by
      unfold ltC
      rw [List.countP_cons]
      by_cases h : z < x <;> simp [h]
    have c2 : eqC (z :: l.drop (k + 1)) x = eqC (l.drop (k + 1)) x + (if z = x then 1 else 0) := by
      unfold eqC
      rw [List.countP_cons]
      by_cases h : z = x <;> simp [h]
    rw [c1, c2]
    by_cases h1 : z < x
    · rw [bif_pos h1, if_neg (show ¬ z = x by omega), if_pos h1, if_neg (show ¬ z = x by omega)]
      have := ih (a + 1) b (by omega) (by omega)
      rw [show a + 1 + ltC (l.drop (k + 1)) x = a + (ltC (l.drop (k + 1)) x + 1) by omega] at this
      exact this
    · rw [bif_neg h1, if_neg h1]
      by_cases h2 : z = x
      · rw [if_pos h2, if_pos h2]
        have := ih a (b + 1) (by omega) (by omega)
        rw [show b + 1 + eqC (l.drop (k + 1)) x = b + (eqC (l.drop (k + 1)) x + 1) by omega] at this
        exact this
      · rw [if_neg h2, if_neg h2]
        exact ih a b (by omega) (by omega)

theorem cnt_of (l : List Int) (x : Int) : l.countP (fun z => decide (z < x)) = ltC l x ∧ l.countP (fun z => decide (z ≤ x)) = ltC l x + eqC l x := ⟨rfl, cnt_le_split l x⟩

theorem refMiddle_loop (l : List Int) (h1 : 1 ≤ l.length) (hl : l.length ≤ 1000) : ∀ i, i ≤ l.length → midL l ∈ l.drop i →
    Rglidepathref08_Middle_0 (Tglidepathref08_Middle_0a l.length (encI l) i) = exO (Xglidepathref08_Middle_0b (midL l)) := by
  refine up_ind (P := fun i => midL l ∈ l.drop i → Rglidepathref08_Middle_0 (Tglidepathref08_Middle_0a l.length (encI l) i) = exO (Xglidepathref08_Middle_0b (midL l))) _ ?_ ?_
  · intro h
    rw [List.drop_length] at h
    cases h
  · intro i hi ih hm
    obtain ⟨x, hx, hd⟩ := get_drop hi
    refine Rglidepathref08_Middle_0a_of _ _ _ ?_
    unfold Bglidepathref08_Middle_0a
    rw [bif_pos (by omega)]
    have hs := count_loop l hl i x hx 0 (by omega) 0 0 (by omega) (by omega)
    rw [List.drop_zero, Nat.zero_add, Nat.zero_add] at hs
    have hs := Lglidepathref08_Middle_2a_of hs
    have hs : Lglidepathref08_Middle_2 (Tglidepathref08_Middle_2a l.length (encI l) i (0 : Int) (0 : Int) (0 : Int)) = _ := hs
    have hb2 : (decide (((0 : Int) ≤ (i : Int)) ∧ ((i : Int) < (l.length : Int)))) = true := decide_eq_true ⟨by omega, by omega⟩
    have wk : w64 ((i : Int) + 1) = ((i + 1 : Nat) : Int) := by rw [w64_in (by omega)]; omega
    have hat : w64 (Int.tdiv (w64 ((l.length : Int) - 1)) 2) = (((l.length - 1) / 2 : Nat) : Int) := by
      rw [w64_in (n := (l.length : Int) - 1) (by omega), Int.tdiv_eq_ediv_of_nonneg (by omega), w64_in (by omega)]
      omega
    have hlc := ltC_le l x
    have hec := eqC_le l x
    have hsum : w64 (((ltC l x : Nat) : Int) + ((eqC l x : Nat) : Int)) = ((ltC l x + eqC l x : Nat) : Int) := by rw [w64_in (by omega)]; omega
    simp only [hs, bindO_val, hb2, cond_true, Int.toNat_natCast, Nat.mul_one, encI_get, hx, Option.map_some, intC_int, wk, hat, hsum]
    obtain ⟨e1, e2⟩ := cnt_of l x
    by_cases hc : ltC l x ≤ (l.length - 1) / 2 ∧ (l.length - 1) / 2 < ltC l x + eqC l x
    · rw [bif_pos (by omega), bif_pos (by omega)]
      rw [show x = midL l from mid_unique h1 (by rw [e1]; exact hc.1) (by rw [e2]; exact hc.2)]
      rfl
    · have hne : x ≠ midL l := fun h => hc (by
        have := mid_counts h1
        rw [← h, e1, e2] at this
        exact this)
      have hm' : midL l ∈ l.drop (i + 1) := by
        rw [hd] at hm
        rcases List.mem_cons.1 hm with h | h
        · exact absurd h.symm hne
        · exact h
      have hn := ih hm'
      by_cases hc1 : ltC l x ≤ (l.length - 1) / 2
      · rw [bif_pos (by omega), bif_neg (by omega)]
        exact hn
      · rw [bif_neg (by omega)]
        exact hn
theorem refMiddle_is (l : List Int) (h1 : 1 ≤ l.length) (hl : l.length ≤ 1000) : Fglidepathref08_Middle [.list l.length (encI l)] = some (midL l) := by
  refine Fglidepathref08_Middle_of _ _ ?_
  unfold tglidepathref08_Middle
  have h := refMiddle_loop l h1 hl 0 (by omega) (by rw [List.drop_zero]; exact mid_mem h1)
  have h := Lglidepathref08_Middle_0b_of h
  have h : Lglidepathref08_Middle_0 (Tglidepathref08_Middle_0a l.length (encI l) (0 : Int)) = _ := h
  rw [h]
  rfl
end Gv
