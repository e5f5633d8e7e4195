/- Where estimates lie; estimates of a spectrum times a number, and the centroid of a mirrored one. -/
import Derived.Test.YtkbbilbpejbmiaaMS4
namespace Gv
open Go
set_option maxRecDepth 100000

/-! ### Bounds -/

theorem fstN_lt {p : Nat → Bool} : ∀ n i, 1 ≤ n → p (i + n - 1) = true → fstN p n i ≤ i + n - 1
  | 0, i, h, _ => by omega
  | n + 1, i, _, h => by
    unfold fstN
    split
    · omega
    · rename_i hp
      by_cases hn : n = 0
      · subst hn
        exact absurd h hp
      · have := fstN_lt n (i + 1) (by omega) (by rw [show i + 1 + n - 1 = i + (n + 1) - 1 by omega]; exact h)
        omega
theorem med_lt {l : List Int} (h : Sp l) : medL l < l.length := by
  have hp := h.pos
  have := fstN_lt (p := medP l) l.length 0 hp (by rw [Nat.zero_add]; exact med_end h (by omega))
  unfold medL
  omega

theorem mo_le {m : Int} {l : List Int} (hm : 0 ≤ m) (h : Sm m l) (M : Nat) : ∀ n i, i + n ≤ M + 1 → mo l i n ≤ M * pw l i n
  | 0, i, _ => by simp [mo, pw]
  | n + 1, i, hi => by
    have a := mo_le hm h M n (i + 1) (by omega)
    have b := h.getD hm i
    have c : (i : Int) * l.getD i 0 ≤ M * l.getD i 0 := Int.mul_le_mul_of_nonneg_right (by omega) b.1
    rw [mo, pw, Int.mul_add]
    omega
theorem mom_le {l : List Int} (h : Sp l) : momL l ≤ ((l.length : Int) - 1) * sumL l := by
  have hp := h.pos
  have := mo_le (by omega) h.sm (l.length - 1) l.length 0 (by omega)
  rw [show ((l.length - 1 : Nat) : Int) = (l.length : Int) - 1 by omega] at this
  exact this

theorem pk_next {l : List Int} (h : Sp l) : l.getD (pkL l + 1) 0 ≤ maxL l := by
  by_cases hj : pkL l + 1 < l.length
  · exact maxL_ge (getD_mem hj)
  · have := max_nonneg h
    rw [List.getD_eq_getElem?_getD, List.getElem?_eq_none (by omega)]
    exact this.1

/-- The parabola's numerator, from the peak on. -/
theorem par_near {l : List Int} (h : Sp l) (h0 : pkL l ≠ 0) : parN l = 2 * parD l * pkL l + (l.getD (pkL l + 1) 0 - l.getD (pkL l - 1) 0) ∧ -parD l ≤ l.getD (pkL l + 1) 0 - l.getD (pkL l - 1) 0 ∧ l.getD (pkL l + 1) 0 - l.getD (pkL l - 1) 0 ≤ parD l := by
  obtain ⟨_, p1, p2, p3⟩ := pkL_spec h.pos
  have d := p3 (pkL l - 1) (by omega)
  have e := pk_next h
  refine ⟨by unfold parN; omega, ?_, ?_⟩ <;> (unfold parD; omega)

/-- What is told of an estimate: in lowest terms, within its spectrum, small. -/
structure Eo (l : List Int) (f : Int × Int) : Prop where
  den : 0 < f.2
  gcd : Int.gcd f.1 f.2 = 1
  num : 0 ≤ f.1
  top : f.1 ≤ ((l.length : Int) - 1) * f.2
  nb : f.1 ≤ 2560000
  db : f.2 ≤ 160000

theorem eo_whole {l : List Int} (k : Nat) (h : k < l.length) (hl : l.length ≤ 16) : Eo l ((k : Int), 1) := ⟨by simp, by simp, by simp, by simp; omega, by simp; omega, by simp⟩
theorem lowF_le {n d a b : Int} (hd : 0 < d) (h : n * b ≤ a * d) : (lowF n d).1 * b ≤ a * (lowF n d).2 := by
  obtain ⟨e1, e2⟩ := lowF_mul n d
  have g := gcd_pos (n := n) hd
  refine Int.le_of_mul_le_mul_right ?_ g
  rw [show (lowF n d).1 * b * (Int.gcd n d : Int) = (lowF n d).1 * (Int.gcd n d : Int) * b by grind, show a * (lowF n d).2 * (Int.gcd n d : Int) = a * ((lowF n d).2 * (Int.gcd n d : Int)) by grind, e1, e2]
  exact h
theorem lowF_ge {n d a b : Int} (hd : 0 < d) (h : a * d ≤ n * b) : a * (lowF n d).2 ≤ (lowF n d).1 * b := by
  obtain ⟨e1, e2⟩ := lowF_mul n d
  have g := gcd_pos (n := n) hd
  refine Int.le_of_mul_le_mul_right ?_ g
  rw [show (lowF n d).1 * b * (Int.gcd n d : Int) = (lowF n d).1 * (Int.gcd n d : Int) * b by grind, show a * (lowF n d).2 * (Int.gcd n d : Int) = a * ((lowF n d).2 * (Int.gcd n d : Int)) by grind, e1, e2]
  exact h
theorem eo_low {l : List Int} {n d : Int} (hd : 0 < d) (h0 : 0 ≤ n) (h1 : n ≤ ((l.length : Int) - 1) * d) (hn : n ≤ 2560000) (hb : d ≤ 160000) : Eo l (lowF n d) := by
  have b := tdiv_bd (m := 2560000) (n := n) (Int.gcd n d) (by unfold Bd; omega)
  have c := tdiv_bd (m := 160000) (n := d) (Int.gcd n d) (by unfold Bd; omega)
  rw [show n.tdiv (Int.gcd n d) = (lowF n d).1 from rfl] at b
  rw [show d.tdiv (Int.gcd n d) = (lowF n d).2 from rfl] at c
  have t := lowF_le (b := 1) hd (by rw [Int.mul_one]; exact h1)
  have u := lowF_ge (a := 0) (b := 1) (n := n) hd (by omega)
  unfold Bd at b c
  exact ⟨lowF_den hd, lowF_gcd hd, by omega, by omega, by omega, by omega⟩

theorem est_ok {l : List Int} (h : Sp l) (k : Int) : Eo l (est l k) := by
  have hl := h.len
  have hp := h.pos
  obtain ⟨_, p1, p2, p3⟩ := pkL_spec hp
  unfold est
  split
  · exact eo_whole 0 (by omega) hl
  · rename_i hm
    split
    · have a := sum_bd h
      have b := mom_bd h
      have c := sum_zero h
      exact eo_low (by omega) b.1 (mom_le h) (by omega) (by omega)
    · split
      · unfold estPar
        split
        · exact eo_whole _ p1 hl
        · rename_i hk
          obtain ⟨a1, a2, a3, a4⟩ := par_bd h (fun q => hk (.inl q))
          obtain ⟨b1, b2, b3⟩ := par_near h (fun q => hk (.inl q))
          have c1 : parD l * 1 ≤ parD l * (pkL l : Int) := Int.mul_le_mul_of_nonneg_left (by omega) (by omega)
          have c2 : parD l * ((pkL l : Int) + 1) ≤ parD l * ((l.length : Int) - 1) := Int.mul_le_mul_of_nonneg_left (by omega) (by omega)
          have c3 : ((l.length : Int) - 1) * (2 * parD l) = 2 * (parD l * ((l.length : Int) - 1)) := by grind
          have c4 : 2 * parD l * (pkL l : Int) = 2 * (parD l * (pkL l : Int)) := by grind
          rw [Int.mul_add] at c2
          exact eo_low (by omega) (by omega) (by omega) (by omega) (by omega)
      · split
        · exact eo_whole _ (med_lt h) hl
        · exact eo_whole _ p1 hl

theorem par_half {l : List Int} (h : Sp l) : -(estPar l).2 ≤ 2 * ((estPar l).1 - pkL l * (estPar l).2) ∧ 2 * ((estPar l).1 - pkL l * (estPar l).2) ≤ (estPar l).2 := by
  unfold estPar
  split
  · simp
  · rename_i hk
    obtain ⟨a1, a2, a3, a4⟩ := par_bd h (fun q => hk (.inl q))
    obtain ⟨b1, b2, b3⟩ := par_near h (fun q => hk (.inl q))
    have t := lowF_le (n := parN l) (d := 2 * parD l) (a := 2 * (pkL l : Int) + 1) (b := 2) (by omega) (by
      rw [show (2 * (pkL l : Int) + 1) * (2 * parD l) = 2 * (2 * parD l * (pkL l : Int)) + 2 * parD l by grind]; omega)
    have u := lowF_ge (n := parN l) (d := 2 * parD l) (a := 2 * (pkL l : Int) - 1) (b := 2) (by omega) (by
      rw [show (2 * (pkL l : Int) - 1) * (2 * parD l) = 2 * (2 * parD l * (pkL l : Int)) - 2 * parD l by grind]; omega)
    rw [Int.add_mul] at t
    rw [Int.sub_mul] at u
    have e : 2 * (pkL l : Int) * (lowF (parN l) (2 * parD l)).2 = 2 * ((pkL l : Int) * (lowF (parN l) (2 * parD l)).2) := by grind
    omega

/-! ### A spectrum times a number -/

def tmL (b : Int) (l : List Int) : List Int := l.map (b * ·)
@[simp] theorem tm_len (b : Int) (l : List Int) : (tmL b l).length = l.length := by simp [tmL]
theorem tm_getD (b : Int) (l : List Int) (i : Nat) : (tmL b l).getD i 0 = b * l.getD i 0 := by
  unfold tmL
  rw [List.getD_eq_getElem?_getD, List.getD_eq_getElem?_getD, List.getElem?_map]
  cases l[i]? <;> simp
theorem tm_maxF {b : Int} (hb : 0 < b) : ∀ (l : List Int) (m : Int), maxF (b * m) (tmL b l) = b * maxF m l
  | [], m => rfl
  | x :: l, m => by
    show maxF (if b * x > b * m then b * x else b * m) (tmL b l) = b * maxF (if x > m then x else m) l
    by_cases h : x > m
    · rw [if_pos h, if_pos (Int.mul_lt_mul_of_pos_left h hb), tm_maxF hb l x]
    · have : ¬ b * x > b * m := by
        have := Int.mul_le_mul_of_nonneg_left (show x ≤ m by omega) (show 0 ≤ b by omega)
        omega
      rw [if_neg h, if_neg this, tm_maxF hb l m]
theorem tm_maxL {b : Int} (hb : 0 < b) (l : List Int) : maxL (tmL b l) = b * maxL l := by
  cases l with
  | nil => simp [tmL, maxL]
  | cons x l => exact tm_maxF hb l x
theorem tm_firstV {b : Int} (hb : 0 < b) (v : Int) : ∀ (l : List Int) (i : Nat), firstV (b * v) (tmL b l) i = firstV v l i
  | [], i => rfl
  | x :: l, i => by
    show (if b * v = b * x then some i else firstV (b * v) (tmL b l) (i + 1)) = if v = x then some i else firstV v l (i + 1)
    rw [tm_firstV hb v l (i + 1)]
    by_cases h : v = x
    · rw [if_pos h, if_pos (by rw [h])]
    · rw [if_neg h, if_neg fun q => h (Int.eq_of_mul_eq_mul_left (by omega) q)]
theorem tm_pk {b : Int} (hb : 0 < b) (l : List Int) : pkL (tmL b l) = pkL l := by
  unfold pkL
  rw [tm_maxL hb, tm_firstV hb]
theorem tm_pw (b : Int) (l : List Int) : ∀ n i, pw (tmL b l) i n = b * pw l i n
  | 0, i => by simp [pw]
  | n + 1, i => by rw [pw, pw, tm_pw b l n (i + 1), tm_getD, Int.mul_add]
theorem tm_mo (b : Int) (l : List Int) : ∀ n i, mo (tmL b l) i n = b * mo l i n
  | 0, i => by simp [mo]
  | n + 1, i => by rw [mo, mo, tm_mo b l n (i + 1), tm_getD, Int.mul_add]; grind
theorem tm_sum (b : Int) (l : List Int) : sumL (tmL b l) = b * sumL l := by unfold sumL; rw [tm_len, tm_pw]
theorem tm_mom (b : Int) (l : List Int) : momL (tmL b l) = b * momL l := by unfold momL; rw [tm_len, tm_mo]
theorem fstN_congr {p q : Nat → Bool} (h : ∀ j, p j = q j) : ∀ n i, fstN p n i = fstN q n i
  | 0, i => rfl
  | n + 1, i => by unfold fstN; rw [h i, fstN_congr h n (i + 1)]
theorem tm_med {b : Int} (hb : 0 < b) (l : List Int) : medL (tmL b l) = medL l := by
  unfold medL
  rw [tm_len]
  refine fstN_congr (fun j => ?_) _ _
  unfold medP
  rw [tm_sum, tm_pw, show 2 * (b * pw l 0 (j + 1)) = b * (2 * pw l 0 (j + 1)) by grind]
  rw [Bool.eq_iff_iff, decide_eq_true_iff, decide_eq_true_iff]
  exact ⟨fun h => Int.le_of_mul_le_mul_left h hb, fun h => Int.mul_le_mul_of_nonneg_left h (by omega)⟩
theorem tm_est {b : Int} (hb : 0 < b) {l : List Int} (h : Sp l) (h2 : Sp (tmL b l)) (k : Int) : est (tmL b l) k = est l k := by
  unfold est
  rw [tm_maxL hb, tm_sum, tm_mom, tm_pk hb, tm_med hb]
  by_cases hm : maxL l = 0
  · rw [if_pos (by rw [hm, Int.mul_zero]), if_pos hm]
  · have hm2 : ¬ b * maxL l = 0 := fun q => (Int.mul_eq_zero.1 q).elim (by omega) hm
    rw [if_neg hm2, if_neg hm]
    have a := sum_bd h
    have c := sum_zero h
    have s0 : 0 < sumL l := by omega
    have e1 : lowF (b * momL l) (b * sumL l) = lowF (momL l) (sumL l) := lowF_same (Int.mul_pos hb s0) s0 (by grind)
    have e2 : estPar (tmL b l) = estPar l := by
      unfold estPar
      rw [tm_pk hb, tm_len]
      by_cases hk : pkL l = 0 ∨ pkL l + 1 = l.length
      · rw [if_pos hk, if_pos hk]
      · rw [if_neg hk, if_neg hk]
        obtain ⟨a1, _⟩ := par_bd h (fun q => hk (.inl q))
        have d1 : parD (tmL b l) = b * parD l := by
          unfold parD
          rw [tm_pk hb, tm_getD, tm_getD, tm_getD]
          grind
        have d2 : parN (tmL b l) = b * parN l := by
          unfold parN
          rw [d1, tm_pk hb, tm_getD, tm_getD]
          grind
        rw [d1, d2]
        have := Int.mul_pos hb a1
        exact lowF_same (by omega) (by omega) (by grind)
    rw [e1, e2]

/-! ### A mirrored spectrum -/

theorem rev_getD (l : List Int) {i : Nat} (h : i < l.length) : l.reverse.getD i 0 = l.getD (l.length - 1 - i) 0 := by
  rw [List.getD_eq_getElem?_getD, List.getD_eq_getElem?_getD, List.getElem?_reverse h]
theorem rev_pw (l : List Int) : ∀ n i, i + n ≤ l.length → pw l.reverse i n = pw l (l.length - i - n) n
  | 0, i, _ => rfl
  | n + 1, i, h => by
    rw [pw, rev_pw l n (i + 1) (by omega), rev_getD l (by omega), show l.length - (i + 1) - n = l.length - i - (n + 1) by omega, pw_snoc, show l.length - i - (n + 1) + n = l.length - 1 - i by omega]
    omega
theorem rev_mo (l : List Int) : ∀ n i, i + n ≤ l.length → mo l.reverse i n = ((l.length : Int) - 1) * pw l (l.length - i - n) n - mo l (l.length - i - n) n
  | 0, i, _ => by simp [mo, pw]
  | n + 1, i, h => by
    rw [mo, rev_mo l n (i + 1) (by omega), rev_getD l (by omega), show l.length - (i + 1) - n = l.length - i - (n + 1) by omega, pw_snoc, mo_snoc, show l.length - i - (n + 1) + n = l.length - 1 - i by omega]
    obtain ⟨x, hx⟩ : ∃ x, x = l.getD (l.length - 1 - i) 0 := ⟨_, rfl⟩
    rw [← hx, show ((l.length - 1 - i : Nat) : Int) = (l.length : Int) - 1 - i by omega]
    grind
theorem rev_sum (l : List Int) : sumL l.reverse = sumL l := by
  unfold sumL
  rw [List.length_reverse, rev_pw l l.length 0 (by omega), show l.length - 0 - l.length = 0 by omega]
theorem rev_mom (l : List Int) : momL l.reverse = ((l.length : Int) - 1) * sumL l - momL l := by
  unfold momL sumL
  rw [List.length_reverse, rev_mo l l.length 0 (by omega), show l.length - 0 - l.length = 0 by omega]
theorem rev_sp {l : List Int} (h : Sp l) : Sp l.reverse := ⟨by rw [List.length_reverse]; exact h.pos, by rw [List.length_reverse]; exact h.len, fun x hx => h.sm x (List.mem_reverse.1 hx)⟩
theorem sp_in {l : List Int} (h : Sp l) : spE l = 0 := by
  have hl := h.len
  have hp := h.pos
  unfold spE spP listIE
  rw [if_neg (by omega), if_neg (by omega)]
  have : ∀ (r : List Int) (i : Nat), (∀ x ∈ r, 0 ≤ x ∧ x ≤ 10000) → findE (fun x => rangeE x 0 10000) r i = none := by
    intro r
    induction r with
    | nil => intro i _; rfl
    | cons x r ih =>
      intro i hx
      simp only [findE]
      rw [if_neg (by rw [rangeE_in (hx x (by simp))]; exact fun h => h rfl)]
      exact ih _ fun y hy => hx y (by simp [hy])
  rw [this l 0 h.sm]
  rfl
theorem rev_cen {l : List Int} (h : Sp l) (hm : maxL l ≠ 0) : est l.reverse 1 = lowF (((l.length : Int) - 1) * (est l 1).2 - (est l 1).1) (est l 1).2 := by
  have a := sum_bd h
  have c := sum_zero h
  have s0 : 0 < sumL l := by omega
  have h2 := rev_sp h
  have m2 : maxL l.reverse ≠ 0 := fun q => by have := (sum_zero h2).2 q; rw [rev_sum] at this; omega
  have e : est l 1 = lowF (momL l) (sumL l) := by unfold est; rw [if_neg hm, if_pos rfl]
  have e2 : est l.reverse 1 = lowF (((l.length : Int) - 1) * sumL l - momL l) (sumL l) := by unfold est; rw [if_neg m2, if_pos rfl, rev_sum, rev_mom]
  rw [e, e2]
  obtain ⟨f1, f2⟩ := lowF_mul (momL l) (sumL l)
  have g := gcd_pos (n := momL l) s0
  have d := lowF_den (n := momL l) s0
  refine lowF_same s0 d ?_
  obtain ⟨x, hx⟩ : ∃ x, x = (lowF (momL l) (sumL l)).1 := ⟨_, rfl⟩
  obtain ⟨y, hy⟩ : ∃ x, x = (lowF (momL l) (sumL l)).2 := ⟨_, rfl⟩
  obtain ⟨u, hu⟩ : ∃ x : Int, x = (Int.gcd (momL l) (sumL l) : Int) := ⟨_, rfl⟩
  rw [← hx, ← hu] at f1
  rw [← hy, ← hu] at f2
  rw [← hx, ← hy, ← f1, ← f2]
  grind
end Gv
