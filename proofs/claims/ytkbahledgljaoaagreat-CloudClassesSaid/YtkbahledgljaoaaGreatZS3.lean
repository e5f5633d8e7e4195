/- Whether a class is sure: what the functions give. -/
import Derived.Test.YtkbahledgljaoaaGreatZS2
namespace Gv
open Go
set_option maxRecDepth 100000

/-- From one signal on, n parts have the class. -/
def rowOK (l : List Cl) (own x y : Int) : Nat → Bool
  | 0 => true
  | n + 1 => if idxF l x y 0 = own then rowOK l own x (y + 1) n else false
def boxOK (l : List Cl) (own x y : Int) (m : Nat) : Nat → Bool
  | 0 => true
  | n + 1 => if rowOK l own x y m = true then boxOK l own (x + 1) y m n else false
theorem rowOK_iff (l : List Cl) (own x : Int) : ∀ (n : Nat) (y : Int), rowOK l own x y n = true ↔ ∀ j : Nat, j < n → idxF l x (y + j) 0 = own
  | 0, y => ⟨fun _ j hj => by omega, fun _ => rfl⟩
  | n + 1, y => by
    unfold rowOK
    by_cases h : idxF l x y 0 = own
    · rw [if_pos h, rowOK_iff l own x n (y + 1)]
      constructor
      · intro h2 j hj
        cases j with
        | zero => rw [show y + ((0 : Nat) : Int) = y by omega]; exact h
        | succ j => rw [show y + ((j + 1 : Nat) : Int) = y + 1 + (j : Int) by omega]; exact h2 j (by omega)
      · intro h2 j hj
        rw [show y + 1 + (j : Int) = y + ((j + 1 : Nat) : Int) by omega]
        exact h2 (j + 1) (by omega)
    · rw [if_neg h]
      constructor
      · intro h2
        cases h2
      · intro h2
        have := h2 0 (by omega)
        rw [show y + ((0 : Nat) : Int) = y by omega] at this
        exact absurd this h
theorem boxOK_iff (l : List Cl) (own y : Int) (m : Nat) : ∀ (n : Nat) (x : Int), boxOK l own x y m n = true ↔ ∀ i : Nat, i < n → ∀ j : Nat, j < m → idxF l (x + i) (y + j) 0 = own
  | 0, x => ⟨fun _ i hi => by omega, fun _ => rfl⟩
  | n + 1, x => by
    unfold boxOK
    by_cases h : rowOK l own x y m = true
    · rw [if_pos h, boxOK_iff l own y m n (x + 1)]
      constructor
      · intro h2 i hi
        cases i with
        | zero => rw [show x + ((0 : Nat) : Int) = x by omega]; exact (rowOK_iff l own x m y).1 h
        | succ i => rw [show x + ((i + 1 : Nat) : Int) = x + 1 + (i : Int) by omega]; exact h2 i (by omega)
      · intro h2 i hi
        rw [show x + 1 + (i : Int) = x + ((i + 1 : Nat) : Int) by omega]
        exact h2 (i + 1) (by omega)
    · rw [if_neg h]
      constructor
      · intro h2
        cases h2
      · intro h2
        have h3 : ∀ j : Nat, j < m → idxF l x (y + j) 0 = own := fun j hj => by
          have := h2 0 (by omega) j hj
          rw [show x + ((0 : Nat) : Int) = x by omega] at this
          exact this
        exact absurd ((rowOK_iff l own x m y).2 h3) h

def sureV (l : List Cl) (s p : Int) (o : Nat) : Bool := boxOK l (idxF l s p 0) (s - o) (p - o) (2 * o + 1) (2 * o + 1)
theorem sureV_zero (l : List Cl) (s p : Int) : sureV l s p 0 = true := by
  refine (boxOK_iff _ _ _ _ _ _).2 fun i hi j hj => ?_
  have hi : i = 0 := by omega
  have hj : j = 0 := by omega
  subst hi
  subst hj
  rw [show s - ((0 : Nat) : Int) + ((0 : Nat) : Int) = s by omega, show p - ((0 : Nat) : Int) + ((0 : Nat) : Int) = p by omega]
theorem sureV_less (l : List Cl) (s p : Int) {o a : Nat} (h : a ≤ o) (hs : sureV l s p o = true) : sureV l s p a = true := by
  refine (boxOK_iff _ _ _ _ _ _).2 fun i hi j hj => ?_
  have := (boxOK_iff _ _ _ _ _ _).1 hs (i + (o - a)) (by omega) (j + (o - a)) (by omega)
  rw [show s - (o : Int) + ((i + (o - a) : Nat) : Int) = s - (a : Int) + (i : Int) by omega, show p - (o : Int) + ((j + (o - a) : Nat) : Int) = p - (a : Int) + (j : Int) by omega] at this
  exact this

theorem sure_inner (l : List Cl) (hl : l.length ≤ 1000) (own s p : Int) (hs : -100000 ≤ s ∧ s ≤ 100000) (hp : -100000 ≤ p ∧ p ≤ 100000) (o : Nat) (ho : o ≤ 1000) (i : Nat) (hi : i ≤ 3000) (i5 i6 : Int) : ∀ j, j ≤ 2 * o + 1 →
    Rcloud_isSure_2 (Tcloud_isSure_2a l.length (encL4 l) o own i i5 i6 ((2 * o + 1 : Nat) : Int) j s p) = if rowOK l own (s + i - o) (p + j - o) (2 * o + 1 - j) = true then exO (Xcloud_isSure_2b (l.length, encL4 l, o, own, i5, i6, s, p)) else exO (Xcloud_isSure_2a ()) := by
  refine up_ind _ ?_ ?_
  · rw [Nat.sub_self, if_pos (show rowOK l own (s + i - o) (p + (2 * o + 1 : Nat) - o) 0 = true from rfl)]
    refine Rcloud_isSure_2a_of _ _ _ _ _ _ _ _ _ _ _ ?_
    unfold Bcloud_isSure_2a
    rw [bif_neg (by omega)]
    rfl
  · intro j hj ih
    have wk : w64 ((j : Int) + 1) = ((j + 1 : Nat) : Int) := by rw [w64_in (by omega)]; omega
    have w1 : w64 (s + (i : Int)) = s + i := w64_in (by omega)
    have w2 : w64 (s + (i : Int) - (o : Int)) = s + i - o := w64_in (by omega)
    have w3 : w64 (p + (j : Int)) = p + j := w64_in (by omega)
    have w4 : w64 (p + (j : Int) - (o : Int)) = p + j - o := w64_in (by omega)
    have hc := classOf_is l (by omega) (s + i - o) (p + j - o)
    have hbody : Bcloud_isSure_2a (Fn env) Rcloud_isSure_2 exO Lcloud_isSure_0 Lcloud_isSure_2 l.length (encL4 l) o own i i5 i6 ((2 * o + 1 : Nat) : Int) j s p =
        (if idxF l (s + i - o) (p + j - o) 0 = own then Rcloud_isSure_2 (Tcloud_isSure_2a l.length (encL4 l) o own i i5 i6 ((2 * o + 1 : Nat) : Int) (j + 1 : Nat) s p) else exO (Xcloud_isSure_2a ())) := by
      unfold Bcloud_isSure_2a
      rw [bif_pos (by omega)]
      simp only [w1, w2, w3, w4, hc, bindO_val, wk, bif_ne]
    rw [show 2 * o + 1 - j = (2 * o + 1 - (j + 1)) + 1 by omega]
    unfold rowOK
    by_cases h : idxF l (s + i - o) (p + j - o) 0 = own
    · rw [if_pos h] at hbody
      rw [if_pos h]
      rw [show p + ((j + 1 : Nat) : Int) - (o : Int) = p + (j : Int) - (o : Int) + 1 by omega] at ih
      by_cases h2 : rowOK l own (s + i - o) (p + j - o + 1) (2 * o + 1 - (j + 1)) = true
      · rw [if_pos h2] at ih ⊢
        exact Rcloud_isSure_2a_of _ _ _ _ _ _ _ _ _ _ _ (hbody.trans ih)
      · rw [if_neg h2] at ih ⊢
        exact Rcloud_isSure_2a_of _ _ _ _ _ _ _ _ _ _ _ (hbody.trans ih)
    · rw [if_neg h] at hbody
      rw [if_neg h, if_neg (by simp)]
      exact Rcloud_isSure_2a_of _ _ _ _ _ _ _ _ _ _ _ hbody

theorem sure_outer (l : List Cl) (hl : l.length ≤ 1000) (own s p : Int) (hs : -100000 ≤ s ∧ s ≤ 100000) (hp : -100000 ≤ p ∧ p ≤ 100000) (o : Nat) (ho : o ≤ 1000) : ∀ i, i ≤ 2 * o + 1 →
    Rcloud_isSure_0 (Tcloud_isSure_0a l.length (encL4 l) o own ((2 * o + 1 : Nat) : Int) i s p) = if boxOK l own (s + i - o) (p - o) (2 * o + 1) (2 * o + 1 - i) = true then exO (Xcloud_isSure_0a (s, p)) else exO (Xcloud_isSure_0b ()) := by
  refine up_ind _ ?_ ?_
  · rw [Nat.sub_self, if_pos (show boxOK l own (s + (2 * o + 1 : Nat) - o) (p - o) (2 * o + 1) 0 = true from rfl)]
    refine Rcloud_isSure_0a_of _ _ _ _ _ _ _ _ ?_
    unfold Bcloud_isSure_0a
    rw [bif_neg (by omega)]
    rfl
  · intro i hi ih
    have wk : w64 ((i : Int) + 1) = ((i + 1 : Nat) : Int) := by rw [w64_in (by omega)]; omega
    have w1 : w64 (2 * (o : Int)) = 2 * (o : Int) := w64_in (by omega)
    have w2 : w64 (2 * (o : Int) + 1) = ((2 * o + 1 : Nat) : Int) := by rw [w64_in (by omega)]; omega
    have hq := sure_inner l hl own s p hs hp o ho i (by omega) ((2 * o + 1 : Nat) : Int) i 0 (by omega)
    rw [Nat.sub_zero, show p + ((0 : Nat) : Int) - (o : Int) = p - o by omega] at hq
    rw [show 2 * o + 1 - i = (2 * o + 1 - (i + 1)) + 1 by omega]
    unfold boxOK
    by_cases h : rowOK l own (s + i - o) (p - o) (2 * o + 1) = true
    · rw [if_pos h] at hq ⊢
      have hL := Lcloud_isSure_2b_of hq
      have hL : Lcloud_isSure_2 (Tcloud_isSure_2a l.length (encL4 l) o own i ((2 * o + 1 : Nat) : Int) i ((2 * o + 1 : Nat) : Int) 0 s p) = _ := hL
      have hbody : Bcloud_isSure_0a (Fn env) Rcloud_isSure_0 exO Lcloud_isSure_0 Lcloud_isSure_2 l.length (encL4 l) o own ((2 * o + 1 : Nat) : Int) i s p = Rcloud_isSure_0 (Tcloud_isSure_0a l.length (encL4 l) o own ((2 * o + 1 : Nat) : Int) (i + 1 : Nat) s p) := by
        unfold Bcloud_isSure_0a
        rw [bif_pos (by omega)]
        simp only [w1, w2, hL, bindO_val, Sum.elim_inr, wk]
      rw [show s + ((i + 1 : Nat) : Int) - (o : Int) = s + (i : Int) - (o : Int) + 1 by omega] at ih
      by_cases h2 : boxOK l own (s + i - o + 1) (p - o) (2 * o + 1) (2 * o + 1 - (i + 1)) = true
      · rw [if_pos h2] at ih ⊢
        exact Rcloud_isSure_0a_of _ _ _ _ _ _ _ _ (hbody.trans ih)
      · rw [if_neg h2] at ih ⊢
        exact Rcloud_isSure_0a_of _ _ _ _ _ _ _ _ (hbody.trans ih)
    · rw [if_neg h] at hq
      rw [if_neg h, if_neg (by simp)]
      have hL := Lcloud_isSure_2a_of (y := ()) hq
      have hL : Lcloud_isSure_2 (Tcloud_isSure_2a l.length (encL4 l) o own i ((2 * o + 1 : Nat) : Int) i ((2 * o + 1 : Nat) : Int) 0 s p) = _ := hL
      refine Rcloud_isSure_0a_of _ _ _ _ _ _ _ _ ?_
      unfold Bcloud_isSure_0a
      rw [bif_pos (by omega)]
      simp only [w1, w2, hL, bindO_val, Sum.elim_inl]
      rfl
theorem isSure_is (l : List Cl) (hl : l.length ≤ 1000) (s p : Int) (hs : -100000 ≤ s ∧ s ≤ 100000) (hp : -100000 ≤ p ∧ p ≤ 100000) (o : Nat) (ho : o ≤ 1000) :
    Fcloud_isSure [.list l.length (encL4 l), .agg [.int .i64 s, .int .i64 p], .int .i64 o] = some (sureV l s p o) := by
  refine Fcloud_isSure_of _ _ _ _ _ ?_
  unfold tcloud_isSure
  have hc := classOf_is l (by omega) s p
  have w1 : w64 (2 * (o : Int)) = 2 * (o : Int) := w64_in (by omega)
  have w2 : w64 (2 * (o : Int) + 1) = ((2 * o + 1 : Nat) : Int) := by rw [w64_in (by omega)]; omega
  have hq := sure_outer l hl (idxF l s p 0) s p hs hp o ho 0 (by omega)
  rw [Nat.sub_zero, show s + ((0 : Nat) : Int) - (o : Int) = s - o by omega] at hq
  simp only [hc, bindO_val, w1, w2]
  unfold sureV
  by_cases h : boxOK l (idxF l s p 0) (s - o) (p - o) (2 * o + 1) (2 * o + 1) = true
  · rw [if_pos h] at hq
    have hL := Lcloud_isSure_0a_of hq
    have hL : Lcloud_isSure_0 (Tcloud_isSure_0a l.length (encL4 l) o (idxF l s p 0) ((2 * o + 1 : Nat) : Int) 0 s p) = _ := hL
    simp only [hL, bindO_val, Sum.elim_inl, h]
  · rw [if_neg h] at hq
    have hL := Lcloud_isSure_0b_of (y := ()) hq
    have hL : Lcloud_isSure_0 (Tcloud_isSure_0a l.length (encL4 l) o (idxF l s p 0) ((2 * o + 1 : Nat) : Int) 0 s p) = _ := hL
    have h2 : boxOK l (idxF l s p 0) (s - o) (p - o) (2 * o + 1) (2 * o + 1) = false := by simpa using h
    simp only [hL, bindO_val, Sum.elim_inr, h2]

/-! The reference's. -/
theorem rSure_inner (l : List Cl) (hl : l.length ≤ 1000) (own s p : Int) (hs : -100000 ≤ s ∧ s ≤ 100000) (hp : -100000 ≤ p ∧ p ≤ 100000) (o : Nat) (ho : o ≤ 1000) (a : Int) (ha : -3000 ≤ a ∧ a ≤ 3000) : ∀ j, j ≤ 2 * o + 1 →
    Rglidepathref08_Sure_2 (Tglidepathref08_Sure_2a l.length (encL4 l) o own a (-(o : Int) + j) s p) = if rowOK l own (s + a) (p + (-(o : Int) + j)) (2 * o + 1 - j) = true then exO (Xglidepathref08_Sure_2b (l.length, encL4 l, o, own, a, s, p)) else exO (Xglidepathref08_Sure_2a ()) := by
  refine up_ind _ ?_ ?_
  · rw [Nat.sub_self, if_pos (show rowOK l own (s + a) (p + (-(o : Int) + (2 * o + 1 : Nat))) 0 = true from rfl)]
    refine Rglidepathref08_Sure_2a_of _ _ _ _ _ _ _ _ ?_
    unfold Bglidepathref08_Sure_2a
    rw [bif_neg (by omega)]
    rfl
  · intro j hj ih
    have wk : w64 (-(o : Int) + (j : Int) + 1) = -(o : Int) + ((j + 1 : Nat) : Int) := by rw [w64_in (by omega)]; omega
    have w1 : w64 (s + a) = s + a := w64_in (by omega)
    have w3 : w64 (p + (-(o : Int) + (j : Int))) = p + (-(o : Int) + j) := w64_in (by omega)
    have hc := refClass_is l (by omega) (s + a) (p + (-(o : Int) + j))
    have hbody : Bglidepathref08_Sure_2a (Fn env) Rglidepathref08_Sure_2 exO Lglidepathref08_Sure_0 Lglidepathref08_Sure_2 l.length (encL4 l) o own a (-(o : Int) + j) s p =
        (if idxF l (s + a) (p + (-(o : Int) + j)) 0 = own then Rglidepathref08_Sure_2 (Tglidepathref08_Sure_2a l.length (encL4 l) o own a (-(o : Int) + (j + 1 : Nat)) s p) else exO (Xglidepathref08_Sure_2a ())) := by
      unfold Bglidepathref08_Sure_2a
      rw [bif_pos (by omega)]
      simp only [w1, w3, hc, bindO_val, wk, bif_ne]
    rw [show 2 * o + 1 - j = (2 * o + 1 - (j + 1)) + 1 by omega]
    unfold rowOK
    by_cases h : idxF l (s + a) (p + (-(o : Int) + j)) 0 = own
    · rw [if_pos h] at hbody
      rw [if_pos h]
      rw [show p + (-(o : Int) + ((j + 1 : Nat) : Int)) = p + (-(o : Int) + (j : Int)) + 1 by omega] at ih
      by_cases h2 : rowOK l own (s + a) (p + (-(o : Int) + j) + 1) (2 * o + 1 - (j + 1)) = true
      · rw [if_pos h2] at ih ⊢
        exact Rglidepathref08_Sure_2a_of _ _ _ _ _ _ _ _ (hbody.trans ih)
      · rw [if_neg h2] at ih ⊢
        exact Rglidepathref08_Sure_2a_of _ _ _ _ _ _ _ _ (hbody.trans ih)
    · rw [if_neg h] at hbody
      rw [if_neg h, if_neg (by simp)]
      exact Rglidepathref08_Sure_2a_of _ _ _ _ _ _ _ _ hbody
theorem rSure_outer (l : List Cl) (hl : l.length ≤ 1000) (own s p : Int) (hs : -100000 ≤ s ∧ s ≤ 100000) (hp : -100000 ≤ p ∧ p ≤ 100000) (o : Nat) (ho : o ≤ 1000) : ∀ i, i ≤ 2 * o + 1 →
    Rglidepathref08_Sure_0 (Tglidepathref08_Sure_0a l.length (encL4 l) o own (-(o : Int) + i) s p) = if boxOK l own (s + (-(o : Int) + i)) (p - o) (2 * o + 1) (2 * o + 1 - i) = true then exO (Xglidepathref08_Sure_0a (s, p)) else exO (Xglidepathref08_Sure_0b ()) := by
  refine up_ind _ ?_ ?_
  · rw [Nat.sub_self, if_pos (show boxOK l own (s + (-(o : Int) + (2 * o + 1 : Nat))) (p - o) (2 * o + 1) 0 = true from rfl)]
    refine Rglidepathref08_Sure_0a_of _ _ _ _ _ _ _ ?_
    unfold Bglidepathref08_Sure_0a
    rw [bif_neg (by omega)]
    rfl
  · intro i hi ih
    have wk : w64 (-(o : Int) + (i : Int) + 1) = -(o : Int) + ((i + 1 : Nat) : Int) := by rw [w64_in (by omega)]; omega
    have w1 : w64 ((0 : Int) - (o : Int)) = -(o : Int) + ((0 : Nat) : Int) := by rw [w64_in (by omega)]; omega
    have hq := rSure_inner l hl own s p hs hp o ho (-(o : Int) + i) (by omega) 0 (by omega)
    rw [Nat.sub_zero, show p + (-(o : Int) + ((0 : Nat) : Int)) = p - o by omega] at hq
    rw [show 2 * o + 1 - i = (2 * o + 1 - (i + 1)) + 1 by omega]
    unfold boxOK
    by_cases h : rowOK l own (s + (-(o : Int) + i)) (p - o) (2 * o + 1) = true
    · rw [if_pos h] at hq ⊢
      have hL := Lglidepathref08_Sure_2b_of hq
      have hbody : Bglidepathref08_Sure_0a (Fn env) Rglidepathref08_Sure_0 exO Lglidepathref08_Sure_0 Lglidepathref08_Sure_2 l.length (encL4 l) o own (-(o : Int) + i) s p = Rglidepathref08_Sure_0 (Tglidepathref08_Sure_0a l.length (encL4 l) o own (-(o : Int) + (i + 1 : Nat)) s p) := by
        unfold Bglidepathref08_Sure_0a
        rw [bif_pos (by omega)]
        simp only [w1, hL, bindO_val, Sum.elim_inr, wk]
      rw [show s + (-(o : Int) + ((i + 1 : Nat) : Int)) = s + (-(o : Int) + (i : Int)) + 1 by omega] at ih
      by_cases h2 : boxOK l own (s + (-(o : Int) + i) + 1) (p - o) (2 * o + 1) (2 * o + 1 - (i + 1)) = true
      · rw [if_pos h2] at ih ⊢
        exact Rglidepathref08_Sure_0a_of _ _ _ _ _ _ _ (hbody.trans ih)
      · rw [if_neg h2] at ih ⊢
        exact Rglidepathref08_Sure_0a_of _ _ _ _ _ _ _ (hbody.trans ih)
    · rw [if_neg h] at hq
      rw [if_neg h, if_neg (by simp)]
      have hL := Lglidepathref08_Sure_2a_of (y := ()) hq
      refine Rglidepathref08_Sure_0a_of _ _ _ _ _ _ _ ?_
      unfold Bglidepathref08_Sure_0a
      rw [bif_pos (by omega)]
      simp only [w1, hL, bindO_val, Sum.elim_inl]
      rfl
theorem refSure_is (l : List Cl) (hl : l.length ≤ 1000) (s p : Int) (hs : -100000 ≤ s ∧ s ≤ 100000) (hp : -100000 ≤ p ∧ p ≤ 100000) (o : Nat) (ho : o ≤ 1000) :
    Fglidepathref08_Sure [.list l.length (encL4 l), .agg [.int .i64 s, .int .i64 p], .int .i64 o] = some (sureV l s p o) := by
  refine Fglidepathref08_Sure_of _ _ _ _ _ ?_
  unfold tglidepathref08_Sure
  have hc := refClass_is l (by omega) s p
  have w1 : w64 ((0 : Int) - (o : Int)) = -(o : Int) + ((0 : Nat) : Int) := by rw [w64_in (by omega)]; omega
  have hq := rSure_outer l hl (idxF l s p 0) s p hs hp o ho 0 (by omega)
  rw [Nat.sub_zero, show s + (-(o : Int) + ((0 : Nat) : Int)) = s - o by omega] at hq
  simp only [hc, bindO_val, w1]
  unfold sureV
  by_cases h : boxOK l (idxF l s p 0) (s - o) (p - o) (2 * o + 1) (2 * o + 1) = true
  · rw [if_pos h] at hq
    have hL := Lglidepathref08_Sure_0a_of hq
    simp only [hL, bindO_val, Sum.elim_inl, h]
  · rw [if_neg h] at hq
    have hL := Lglidepathref08_Sure_0b_of (y := ()) hq
    have h2 : boxOK l (idxF l s p 0) (s - o) (p - o) (2 * o + 1) (2 * o + 1) = false := by simpa using h
    simp only [hL, bindO_val, Sum.elim_inr, h2]
end Gv
