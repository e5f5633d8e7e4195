/- The law of crossed corridors. -/
import Derived.Test.YtpbpkbckgifhdaaA0
import Derived.Test.YtpbpkbckgifhdaaK6
import Derived.Test.YtpbpkbckgifhdaaL8
import Derived.Test.YtpbpkbckgifhdaaBL11
namespace Gv
open Go
set_option maxRecDepth 100000
theorem x84a (b d : B6) (c : C7) (l : List Z3) (h : freV b d c ≠ 0 ∨ c.2.2.2.2.2.2 > 30 ∨ l.length = 0 ∨ l.length > 31) : Llaw11_1000084 (Tlaw11_1000084a b.1 b.2.1 b.2.2.1 b.2.2.2.1 b.2.2.2.2.1 b.2.2.2.2.2 l.length (encT l) d.1 d.2.1 d.2.2.1 d.2.2.2.1 d.2.2.2.2.1 d.2.2.2.2.2 c.1 c.2.1 c.2.2.1 c.2.2.2.1 c.2.2.2.2.1 c.2.2.2.2.2.1 c.2.2.2.2.2.2) = some (Sum.inl ()) := by
  refine Llaw11_1000084a_of (Rlaw11_1000084a_of _ _ _ _ _ _ _ _ _ _ _ _ _ _ _ _ _ _ _ _ _ ?_)
  unfold Blaw11_1000084a
  have h1 : FrFreE [enc6 b, enc6 d, encO c] = _ := rFreE_is b d c
  simp only [enc6, encO] at h1
  simp only [h1, bindO_val, bif_ne]
  by_cases hz : freV b d c = 0
  · rw [if_pos hz]
    by_cases ht : c.2.2.2.2.2.2 > 30
    · rw [bif_pos ht]; rfl
    · rw [bif_neg ht]
      by_cases h0 : l.length = 0
      · have : ((l.length : Int) == 0) = true := by simp [h0]
        rw [this]; rfl
      · have : ((l.length : Int) == 0) = false := by rw [beq_eq_false_iff_ne]; omega
        rw [this, cond_false, bif_pos (by omega)]; rfl
  · rw [if_neg hz]; rfl
theorem x84b (b d : B6) (c : C7) (l : List Z3) (hz : freV b d c = 0) (ht : ¬ c.2.2.2.2.2.2 > 30) (h0 : l.length ≠ 0) (h1 : ¬ l.length > 31) : Llaw11_1000084 (Tlaw11_1000084a b.1 b.2.1 b.2.2.1 b.2.2.2.1 b.2.2.2.2.1 b.2.2.2.2.2 l.length (encT l) d.1 d.2.1 d.2.2.1 d.2.2.2.1 d.2.2.2.2.1 d.2.2.2.2.2 c.1 c.2.1 c.2.2.1 c.2.2.2.1 c.2.2.2.2.1 c.2.2.2.2.2.1 c.2.2.2.2.2.2) = some (Sum.inr (b.1, b.2.1, b.2.2.1, b.2.2.2.1, b.2.2.2.2.1, b.2.2.2.2.2, l.length, encT l, d.1, d.2.1, d.2.2.1, d.2.2.2.1, d.2.2.2.2.1, d.2.2.2.2.2, c.1, c.2.1, c.2.2.1, c.2.2.2.1, c.2.2.2.2.1, c.2.2.2.2.2.1, c.2.2.2.2.2.2)) := by
  refine Llaw11_1000084b_of (Rlaw11_1000084a_of _ _ _ _ _ _ _ _ _ _ _ _ _ _ _ _ _ _ _ _ _ ?_)
  unfold Blaw11_1000084a
  have h2 : FrFreE [enc6 b, enc6 d, encO c] = _ := rFreE_is b d c
  simp only [enc6, encO] at h2
  have h3 : ((l.length : Int) == 0) = false := by rw [beq_eq_false_iff_ne]; omega
  simp only [h2, bindO_val, hz, bne_self_eq_false, cond_false, h3]
  rw [bif_neg ht, bif_neg (by omega)]
  rfl
theorem x71 (b d : B6) (c : C7) (l : List Z3) (n t f g : Int) (hf : f = 0 ∨ f = 12) (hn : n = 2 ↔ (f = 0 ∧ t = c.2.2.2.2.2.1)) : Llaw11_1000071 (Tlaw11_1000071a n 0 t f g b.1 b.2.1 b.2.2.1 b.2.2.2.1 b.2.2.2.2.1 b.2.2.2.2.2 l.length (encT l) d.1 d.2.1 d.2.2.1 d.2.2.2.1 d.2.2.2.2.1 d.2.2.2.2.2 c.1 c.2.1 c.2.2.1 c.2.2.2.1 c.2.2.2.2.1 c.2.2.2.2.2.1 c.2.2.2.2.2.2) = some (Sum.inr (n, t, f, g, b.1, b.2.1, b.2.2.1, b.2.2.2.1, b.2.2.2.2.1, b.2.2.2.2.2, l.length, encT l, d.1, d.2.1, d.2.2.1, d.2.2.2.1, d.2.2.2.2.1, d.2.2.2.2.2, c.1, c.2.1, c.2.2.1, c.2.2.2.1, c.2.2.2.2.1, c.2.2.2.2.2.1, c.2.2.2.2.2.2)) := by
  refine Llaw11_1000071b_of (Rlaw11_1000071a_of _ _ _ _ _ _ _ _ _ _ _ _ _ _ _ _ _ _ _ _ _ _ _ _ _ _ ?_)
  unfold Blaw11_1000071a
  simp only [bne_self_eq_false, cond_false]
  rcases hf with rfl | rfl
  · simp only [bne_self_eq_false, cond_false, beq_self_eq_true, cond_true, true_and] at hn ⊢
    by_cases ht : t = c.2.2.2.2.2.1
    · have hn2 : n = 2 := hn.2 ht
      subst hn2
      have hb : (t == c.2.2.2.2.2.1) = true := by simp [ht]
      simp only [hb, beq_self_eq_true, cond_true]
      rfl
    · have hn2 : n ≠ 2 := fun e => ht (hn.1 e)
      have h1 : (n == 2) = false := by simpa using hn2
      have hb : (t == c.2.2.2.2.2.1) = false := by simpa using ht
      simp only [hb, h1, cond_false]
      rfl
  · have hn2 : n ≠ 2 := fun e => by have := (hn.1 e).1; omega
    have h1 : (n == 2) = false := by simpa using hn2
    have h2 : ((12 : Int) != 0) = true := rfl
    have h3 : ((12 : Int) == 0) = false := rfl
    simp only [h1, h2, h3, bne_self_eq_false, cond_false, cond_true]
    rfl
theorem x56a (b d : B6) (c : C7) (l : List Z3) (n t f g k : Int) (a : Bool) (h1 : k ≤ c.2.2.2.2.2.2) (h2 : k < (l.length : Int)) : Llaw11_1000056 (Tlaw11_1000056a n t f g a k b.1 b.2.1 b.2.2.1 b.2.2.2.1 b.2.2.2.2.1 b.2.2.2.2.2 l.length (encT l) d.1 d.2.1 d.2.2.1 d.2.2.2.1 d.2.2.2.2.1 d.2.2.2.2.2 c.1 c.2.1 c.2.2.1 c.2.2.2.1 c.2.2.2.2.1 c.2.2.2.2.2.1 c.2.2.2.2.2.2) = some (Sum.inl (n, t, f, g, a, k, b.1, b.2.1, b.2.2.1, b.2.2.2.1, b.2.2.2.2.1, b.2.2.2.2.2, l.length, encT l, d.1, d.2.1, d.2.2.1, d.2.2.2.1, d.2.2.2.2.1, d.2.2.2.2.2, c.1, c.2.1, c.2.2.1, c.2.2.2.1, c.2.2.2.2.1, c.2.2.2.2.2.1, c.2.2.2.2.2.2)) := by
  refine Llaw11_1000056a_of (Rlaw11_1000056a_of _ _ _ _ _ _ _ _ _ _ _ _ _ _ _ _ _ _ _ _ _ _ _ _ _ _ _ ?_)
  unfold Blaw11_1000056a
  rw [bif_pos h1, bif_pos h2]
  rfl
theorem x56b (b d : B6) (c : C7) (l : List Z3) (n t f g k : Int) (a : Bool) (h1 : k ≤ c.2.2.2.2.2.2) (h2 : ¬ k < (l.length : Int)) : Llaw11_1000056 (Tlaw11_1000056a n t f g a k b.1 b.2.1 b.2.2.1 b.2.2.2.1 b.2.2.2.2.1 b.2.2.2.2.2 l.length (encT l) d.1 d.2.1 d.2.2.1 d.2.2.2.1 d.2.2.2.2.1 d.2.2.2.2.2 c.1 c.2.1 c.2.2.1 c.2.2.2.1 c.2.2.2.2.1 c.2.2.2.2.2.1 c.2.2.2.2.2.2) = some (Sum.inr (Sum.inl (n, t, f, g, a, k, k, c.2.2.2.2.2.2, k, l.length, encT l, (l.length : Int), b.1, b.2.1, b.2.2.1, b.2.2.2.1, b.2.2.2.2.1, b.2.2.2.2.2, l.length, encT l, d.1, d.2.1, d.2.2.1, d.2.2.2.1, d.2.2.2.2.1, d.2.2.2.2.2, c.1, c.2.1, c.2.2.1, c.2.2.2.1, c.2.2.2.2.1, c.2.2.2.2.2.1, c.2.2.2.2.2.2))) := by
  refine Llaw11_1000056b_of (Rlaw11_1000056a_of _ _ _ _ _ _ _ _ _ _ _ _ _ _ _ _ _ _ _ _ _ _ _ _ _ _ _ ?_)
  unfold Blaw11_1000056a
  rw [bif_pos h1, bif_neg h2]
  rfl
theorem x56c (b d : B6) (c : C7) (l : List Z3) (n t f g k : Int) (a : Bool) (h1 : ¬ k ≤ c.2.2.2.2.2.2) : Llaw11_1000056 (Tlaw11_1000056a n t f g a k b.1 b.2.1 b.2.2.1 b.2.2.2.1 b.2.2.2.2.1 b.2.2.2.2.2 l.length (encT l) d.1 d.2.1 d.2.2.1 d.2.2.2.1 d.2.2.2.2.1 d.2.2.2.2.2 c.1 c.2.1 c.2.2.1 c.2.2.2.1 c.2.2.2.2.1 c.2.2.2.2.2.1 c.2.2.2.2.2.2) = some (Sum.inr (Sum.inr (n, t, f, g, a, k, k, c.2.2.2.2.2.2, b.1, b.2.1, b.2.2.1, b.2.2.2.1, b.2.2.2.2.1, b.2.2.2.2.2, l.length, encT l, d.1, d.2.1, d.2.2.1, d.2.2.2.1, d.2.2.2.2.1, d.2.2.2.2.2, c.1, c.2.1, c.2.2.1, c.2.2.2.1, c.2.2.2.2.1, c.2.2.2.2.2.1, c.2.2.2.2.2.2))) := by
  refine Llaw11_1000056c_of (Rlaw11_1000056a_of _ _ _ _ _ _ _ _ _ _ _ _ _ _ _ _ _ _ _ _ _ _ _ _ _ _ _ ?_)
  unfold Blaw11_1000056a
  rw [bif_neg h1]
  rfl
def crossF (c : C7) (l : List Z3) : Nat → Nat → Bool → Bool
  | 0, _, a => a
  | m + 1, k, a => crossF c l m (k + 1) (a || (match l[k]? with | some v => decide (Hd (regR c) v) | none => false))
theorem crossF_iff (c : C7) (l : List Z3) : ∀ (m k : Nat) (a : Bool), crossF c l m k a = true ↔ (a = true ∨ ∃ (j : Nat) (v : Z3), k ≤ j ∧ j < k + m ∧ l[j]? = some v ∧ Hd (regR c) v)
  | 0, k, a => by
    unfold crossF
    refine ⟨.inl, fun h => h.elim id ?_⟩
    rintro ⟨j, v, h1, h2, _⟩
    omega
  | m + 1, k, a => by
    unfold crossF
    rw [crossF_iff c l m (k + 1)]
    simp only [Bool.or_eq_true]
    constructor
    · rintro ((h | h) | ⟨j, v, h1, h2, h3⟩)
      · exact .inl h
      · right
        split at h
        · rename_i v hv
          exact ⟨k, v, by omega, by omega, hv, of_decide_eq_true h⟩
        · cases h
      · exact .inr ⟨j, v, by omega, by omega, h3⟩
    · rintro (h | ⟨j, v, h1, h2, h3, h4⟩)
      · exact .inl (.inl h)
      · by_cases e : j = k
        · subst e
          left; right
          rw [h3]
          exact decide_eq_true h4
        · exact .inr ⟨j, v, by omega, by omega, h3, h4⟩
theorem x0 (b d : B6) (c : C7) (l : List Z3) (n t f g : Int) (hto : c.2.2.2.2.2.2 ≤ 1000) : ∀ (m k : Nat) (a : Bool), ((k : Int) + m ≤ c.2.2.2.2.2.2 + 1 ∧ k + m ≤ l.length) → ((k : Int) + m = c.2.2.2.2.2.2 + 1 ∨ k + m = l.length) →
    Rlaw11_0 (Tlaw11_0a n t f g a k b.1 b.2.1 b.2.2.1 b.2.2.2.1 b.2.2.2.2.1 b.2.2.2.2.2 l.length (encT l) d.1 d.2.1 d.2.2.1 d.2.2.2.1 d.2.2.2.2.1 d.2.2.2.2.2 c.1 c.2.1 c.2.2.1 c.2.2.2.1 c.2.2.2.2.1 c.2.2.2.2.2.1 c.2.2.2.2.2.2) = exO (Xlaw11_0a (n, t, f, g, crossF c l m k a, b.1, b.2.1, b.2.2.1, b.2.2.2.1, b.2.2.2.2.1, b.2.2.2.2.2, l.length, encT l, d.1, d.2.1, d.2.2.1, d.2.2.2.1, d.2.2.2.2.1, d.2.2.2.2.2, c.1, c.2.1, c.2.2.1, c.2.2.2.1, c.2.2.2.2.1, c.2.2.2.2.2.1, c.2.2.2.2.2.2))
  | 0, k, a, h1, h2 => by
    refine Rlaw11_0a_of _ _ _ _ _ _ _ _ _ _ _ _ _ _ _ _ _ _ _ _ _ _ _ _ _ _ _ ?_
    unfold Blaw11_0a
    by_cases h : (k : Int) ≤ c.2.2.2.2.2.2
    · rw [x56b b d c l n t f g k a h (by omega)]
      rfl
    · rw [x56c b d c l n t f g k a h]
      rfl
  | m + 1, k, a, h1, h2 => by
    have hkl : k < l.length := by omega
    have ih := x0 b d c l n t f g hto m (k + 1) (a || (match l[k]? with | some v => decide (Hd (regR c) v) | none => false)) (by omega) (by omega)
    refine Rlaw11_0a_of _ _ _ _ _ _ _ _ _ _ _ _ _ _ _ _ _ _ _ _ _ _ _ _ _ _ _ ?_
    unfold Blaw11_0a
    rw [x56a b d c l n t f g k a (by omega) (by omega)]
    simp only [bindO_val, Sum.elim_inl]
    obtain ⟨v, hv⟩ : ∃ v, l[k]? = some v := ⟨l[k], List.getElem?_eq_getElem hkl⟩
    have g0 := encT_0 l k
    have g1 := encT_1 l k
    have g2 := encT_2 l k
    rw [hv] at g0 g1 g2
    simp only [Option.map_some] at g0 g1 g2
    have hR : FrReg [encO c] = _ := rReg_is c
    have hH := rHold_is (regR c) v
    simp only [encO, enc6, encV] at hR hH
    rw [hv] at ih
    have hw : w64 ((k : Int) + 1) = ((k + 1 : Nat) : Int) := by rw [w64_in (by omega)]; omega
    unfold crossF
    rw [hv]
    cases a with
    | true =>
      simp only [cond_true, hw]
      simp only [Bool.true_or] at ih ⊢
      exact ih
    | false =>
      simp only [cond_false, hR, bindO_val]
      rw [bif_pos (by omega)]
      simp only [Int.toNat_natCast, g0, g1, g2, intC_int, bindO_val, hH, hw]
      by_cases hh : Hd (regR c) v
      · simp only [hh, decide_true, cond_true]
        simp only [Bool.false_or, hh, decide_true] at ih ⊢
        exact ih
      · simp only [hh, decide_false, cond_false]
        simp only [Bool.false_or, hh, decide_false] at ih ⊢
        exact ih
theorem x49 (b d : B6) (c : C7) (l : List Z3) (n t f g : Int) (a : Bool) (h : g = 0 → (n = 2 → a = false) ∧ (n = 0 → a = true ∨ (l.length : Int) ≤ c.2.2.2.2.2.2)) : Llaw11_1000049 (Tlaw11_1000049a n t f g a b.1 b.2.1 b.2.2.1 b.2.2.2.1 b.2.2.2.2.1 b.2.2.2.2.2 l.length (encT l) d.1 d.2.1 d.2.2.1 d.2.2.2.1 d.2.2.2.2.1 d.2.2.2.2.2 c.1 c.2.1 c.2.2.1 c.2.2.2.1 c.2.2.2.2.1 c.2.2.2.2.2.1 c.2.2.2.2.2.2) = some (Sum.inr (n, t, f, b.1, b.2.1, b.2.2.1, b.2.2.2.1, b.2.2.2.2.1, b.2.2.2.2.2, l.length, encT l, d.1, d.2.1, d.2.2.1, d.2.2.2.1, d.2.2.2.2.1, d.2.2.2.2.2, c.1, c.2.1, c.2.2.1, c.2.2.2.1, c.2.2.2.2.1, c.2.2.2.2.2.1, c.2.2.2.2.2.2)) := by
  refine Llaw11_1000049b_of (Rlaw11_1000049a_of _ _ _ _ _ _ _ _ _ _ _ _ _ _ _ _ _ _ _ _ _ _ _ _ _ _ ?_)
  unfold Blaw11_1000049a
  by_cases hg : g = 0
  · obtain ⟨h1, h2⟩ := h hg
    subst hg
    simp only [beq_self_eq_true, cond_true]
    by_cases hn : n = 2
    · subst hn
      have ha := h1 rfl
      subst ha
      have e : ((2 : Int) == 0) = false := rfl
      simp only [beq_self_eq_true, cond_true, cond_false, e]
      rfl
    · have e1 : (n == 2) = false := by simpa using hn
      simp only [e1, cond_false]
      by_cases h0 : n = 0
      · subst h0
        simp only [beq_self_eq_true, cond_true]
        cases a with
        | true => rfl
        | false =>
          have := (h2 rfl).resolve_left (by simp)
          rw [cond_false, bif_neg (by omega)]
          rfl
      · have e2 : (n == 0) = false := by simpa using h0
        simp only [e2, cond_false]
        rfl
  · have e : (g == 0) = false := by simpa using hg
    simp only [e, cond_false]
    rfl
theorem x32 (b d : B6) (c : C7) (l : List Z3) (n t : Int) (c2 : C7) (ht : c.2.2.2.2.2.1 ≤ t ∧ t ≤ c.2.2.2.2.2.2) : Llaw11_1000032 (Tlaw11_1000032a n t 2 0 b.1 b.2.1 b.2.2.1 b.2.2.2.1 b.2.2.2.2.1 b.2.2.2.2.2 l.length (encT l) d.1 d.2.1 d.2.2.1 d.2.2.2.1 d.2.2.2.2.1 d.2.2.2.2.2 c.1 c.2.1 c.2.2.1 c.2.2.2.1 c.2.2.2.2.1 c.2.2.2.2.2.1 c.2.2.2.2.2.2 c2.1 c2.2.1 c2.2.2.1 c2.2.2.2.1 c2.2.2.2.2.1 c2.2.2.2.2.2.1 c2.2.2.2.2.2.2) = some (Sum.inr (n, t, b.1, b.2.1, b.2.2.1, b.2.2.2.1, b.2.2.2.2.1, b.2.2.2.2.2, l.length, encT l, d.1, d.2.1, d.2.2.1, d.2.2.2.1, d.2.2.2.2.1, d.2.2.2.2.2, c.1, c.2.1, c.2.2.1, c.2.2.2.1, c.2.2.2.2.1, c.2.2.2.2.2.1, c.2.2.2.2.2.2, c2.1, c2.2.1, c2.2.2.1, c2.2.2.2.1, c2.2.2.2.2.1, c2.2.2.2.2.2.1, c2.2.2.2.2.2.2)) := by
  refine Llaw11_1000032b_of (Rlaw11_1000032a_of _ _ _ _ _ _ _ _ _ _ _ _ _ _ _ _ _ _ _ _ _ _ _ _ _ _ _ _ _ _ _ _ ?_)
  unfold Blaw11_1000032a
  simp only [bne_self_eq_false, cond_false, bWi_is, bindO_val]
  rw [bif_pos ht]
  rfl
theorem x42 (b d : B6) (c : C7) (l : List Z3) (n t f : Int) (h : f = 0 → (c.2.2.2.2.2.1 ≤ t ∧ t ≤ c.2.2.2.2.2.2) ∧ freV b d (c.1, c.2.1, c.2.2.1, c.2.2.2.1, c.2.2.2.2.1, t, c.2.2.2.2.2.2) = 0 ∧ freeV b d (c.1, c.2.1, c.2.2.1, c.2.2.2.1, c.2.2.2.2.1, t, c.2.2.2.2.2.2) (regV (c.1, c.2.1, c.2.2.1, c.2.2.2.1, c.2.2.2.2.1, t, c.2.2.2.2.2.2)) = 2 ∧ (c.2.2.2.2.2.1 < t → freV b d (c.1, c.2.1, c.2.2.1, c.2.2.2.1, c.2.2.2.2.1, (t - 1), c.2.2.2.2.2.2) = 0 ∧ freeV b d (c.1, c.2.1, c.2.2.1, c.2.2.2.1, c.2.2.2.2.1, (t - 1), c.2.2.2.2.2.2) (regV (c.1, c.2.1, c.2.2.1, c.2.2.2.1, c.2.2.2.2.1, (t - 1), c.2.2.2.2.2.2)) ≠ 2 ∧ 0 ≤ c.2.2.2.2.2.1 ∧ t ≤ 1000)) :
    Llaw11_1000042 (Tlaw11_1000042a n t f b.1 b.2.1 b.2.2.1 b.2.2.2.1 b.2.2.2.2.1 b.2.2.2.2.2 l.length (encT l) d.1 d.2.1 d.2.2.1 d.2.2.2.1 d.2.2.2.2.1 d.2.2.2.2.2 c.1 c.2.1 c.2.2.1 c.2.2.2.1 c.2.2.2.2.1 c.2.2.2.2.2.1 c.2.2.2.2.2.2) = some (Sum.inl (n, b.1, b.2.1, b.2.2.1, b.2.2.2.1, b.2.2.2.2.1, b.2.2.2.2.2, l.length, encT l, d.1, d.2.1, d.2.2.1, d.2.2.2.1, d.2.2.2.2.1, d.2.2.2.2.2, c.1, c.2.1, c.2.2.1, c.2.2.2.1, c.2.2.2.2.1, c.2.2.2.2.2.1, c.2.2.2.2.2.2)) := by
  refine Llaw11_1000042a_of (Rlaw11_1000042a_of _ _ _ _ _ _ _ _ _ _ _ _ _ _ _ _ _ _ _ _ _ _ _ _ ?_)
  unfold Blaw11_1000042a
  by_cases hf : f = 0
  · obtain ⟨h1, h2, h3, h4⟩ := h hf
    subst hf
    have i1 : FisFr [enc6 b, enc6 d, encO (c.1, c.2.1, c.2.2.1, c.2.2.2.1, c.2.2.2.2.1, t, c.2.2.2.2.2.2)] = _ := isFr_is b d (c.1, c.2.1, c.2.2.1, c.2.2.2.1, c.2.2.2.2.1, t, c.2.2.2.2.2.2)
    rw [if_pos h2, h3] at i1
    simp only [enc6, encO] at i1
    simp only [beq_self_eq_true, cond_true, i1, bindO_val]
    have i2 := x32 b d c l n t (c.1, c.2.1, c.2.2.1, c.2.2.2.1, c.2.2.2.2.1, t, c.2.2.2.2.2.2) h1
    simp only at i2
    rw [i2]
    simp only [bindO_val, Sum.elim_inr]
    by_cases ht : c.2.2.2.2.2.1 < t
    · obtain ⟨h5, h6, h7, h8⟩ := h4 ht
      have i3 : FisFr [enc6 b, enc6 d, encO (c.1, c.2.1, c.2.2.1, c.2.2.2.1, c.2.2.2.2.1, (t - 1), c.2.2.2.2.2.2)] = _ := isFr_is b d (c.1, c.2.1, c.2.2.1, c.2.2.2.1, c.2.2.2.2.1, (t - 1), c.2.2.2.2.2.2)
      rw [if_pos h5] at i3
      simp only [enc6, encO] at i3
      rw [bif_pos ht, w64_in (by omega)]
      have e : (freeV b d (c.1, c.2.1, c.2.2.1, c.2.2.2.1, c.2.2.2.2.1, (t - 1), c.2.2.2.2.2.2) (regV (c.1, c.2.1, c.2.2.1, c.2.2.2.1, c.2.2.2.2.1, (t - 1), c.2.2.2.2.2.2)) == 2) = false := by simpa using h6
      simp only [i3, bindO_val, bne_self_eq_false, cond_false, e]
      rfl
    · rw [bif_neg ht]
      rfl
  · have e : (f == 0) = false := by simpa using hf
    simp only [e, cond_false]
    rfl
theorem x14a (b d : B6) (c : C7) (l : List Z3) (n : Int) (h : n ≠ 2 ∨ c.2.2.2.2.1 = 10000) : Llaw11_1000014 (Tlaw11_1000014a n b.1 b.2.1 b.2.2.1 b.2.2.2.1 b.2.2.2.2.1 b.2.2.2.2.2 l.length (encT l) d.1 d.2.1 d.2.2.1 d.2.2.2.1 d.2.2.2.2.1 d.2.2.2.2.2 c.1 c.2.1 c.2.2.1 c.2.2.2.1 c.2.2.2.2.1 c.2.2.2.2.2.1 c.2.2.2.2.2.2) = some (Sum.inl ()) := by
  refine Llaw11_1000014a_of (Rlaw11_1000014a_of _ _ _ _ _ _ _ _ _ _ _ _ _ _ _ _ _ _ _ _ _ _ ?_)
  unfold Blaw11_1000014a
  by_cases hn : n = 2
  · have e : (c.2.2.2.2.1 == 10000) = true := by simpa using h.resolve_left (fun k => k hn)
    simp only [hn, bne_self_eq_false, cond_false, e, cond_true]
    rfl
  · have e : (n != 2) = true := by simpa using hn
    simp only [e, cond_true]
    rfl
theorem x14b (b d : B6) (c : C7) (l : List Z3) (h : c.2.2.2.2.1 ≠ 10000) : Llaw11_1000014 (Tlaw11_1000014a 2 b.1 b.2.1 b.2.2.1 b.2.2.2.1 b.2.2.2.2.1 b.2.2.2.2.2 l.length (encT l) d.1 d.2.1 d.2.2.1 d.2.2.2.1 d.2.2.2.2.1 d.2.2.2.2.2 c.1 c.2.1 c.2.2.1 c.2.2.2.1 c.2.2.2.2.1 c.2.2.2.2.2.1 c.2.2.2.2.2.2) = some (Sum.inr (b.1, b.2.1, b.2.2.1, b.2.2.2.1, b.2.2.2.2.1, b.2.2.2.2.2, l.length, encT l, d.1, d.2.1, d.2.2.1, d.2.2.2.1, d.2.2.2.2.1, d.2.2.2.2.2, c.1, c.2.1, c.2.2.1, c.2.2.2.1, c.2.2.2.2.1, c.2.2.2.2.2.1, c.2.2.2.2.2.2)) := by
  refine Llaw11_1000014b_of (Rlaw11_1000014a_of _ _ _ _ _ _ _ _ _ _ _ _ _ _ _ _ _ _ _ _ _ _ ?_)
  unfold Blaw11_1000014a
  have e : (c.2.2.2.2.1 == 10000) = false := by simpa using h
  simp only [bne_self_eq_false, cond_false, e]
  rfl
theorem fre_from {b d : B6} {c : C7} (hz : freV b d c = 0) {t : Int} (h1 : 0 ≤ t) (h2 : t ≤ c.2.2.2.2.2.2) : freV b d (c.1, c.2.1, c.2.2.1, c.2.2.2.1, c.2.2.2.2.1, t, c.2.2.2.2.2.2) = 0 ∧ corV (c.1, c.2.1, c.2.2.1, c.2.2.2.1, c.2.2.2.2.1, t, c.2.2.2.2.2.2) = 0 := by
  obtain ⟨hb, hd, hc⟩ := freV_ok hz
  have hco := corV_ok hc
  have e : corV (c.1, c.2.1, c.2.2.1, c.2.2.2.1, c.2.2.2.2.1, t, c.2.2.2.2.2.2) = 0 := by
    unfold corV at hc ⊢
    split at hc
    · rename_i hh
      unfold ord3 at hc
      split at hc
      · rename_i ho
        rw [if_pos (by simp only; omega)]
        unfold ord3
        rw [if_pos (by simp only; omega)]
      · cases hc
    · cases hc
  exact ⟨by simp [freV, first3, hb, hd, e], e⟩
theorem hd_meet {x r : B6} {v : Z3} (h1 : Hd x v) (h2 : Hd r v) : Good (meetV x r) := by
  obtain ⟨x1, x2, x3, x4, x5, x6⟩ := x
  obtain ⟨r1, r2, r3, r4, r5, r6⟩ := r
  unfold Hd at h1 h2
  unfold Good meetV mxV mnV
  simp only at *
  refine ⟨?_, ?_, ?_⟩ <;> (repeat' split) <;> omega
theorem crossedLaw (b d : B6) (c : C7) (l : List Z3) : Flaw11 [.agg [.int .i64 b.1, .int .i64 b.2.1, .int .i64 b.2.2.1, .int .i64 b.2.2.2.1, .int .i64 b.2.2.2.2.1, .int .i64 b.2.2.2.2.2, .list l.length (encT l)], enc6 d, encO c] = some true := by
  refine Flaw11_of _ _ _ _ _ _ _ _ _ _ _ _ _ _ _ _ _ _ _ _ _ ?_
  unfold tlaw11
  have ha : Fn env 12 (RSh.one CK.bool) [] = some true := awake_is
  simp only [ha, bindO_val, cond_true]
  by_cases hg : freV b d c ≠ 0 ∨ c.2.2.2.2.2.2 > 30 ∨ l.length = 0 ∨ l.length > 31
  · rw [x84a b d c l hg]
    rfl
  · have hz : freV b d c = 0 := by
      by_cases h : freV b d c = 0
      · exact h
      · exact absurd (.inl h) hg
    have ht : ¬ c.2.2.2.2.2.2 > 30 := fun h => hg (.inr (.inl h))
    have h0 : l.length ≠ 0 := fun h => hg (.inr (.inr (.inl h)))
    have h31 : ¬ l.length > 31 := fun h => hg (.inr (.inr (.inr h)))
    obtain ⟨hb, hd, hc⟩ := freV_ok hz
    have hco := corV_ok hc
    rw [x84b b d c l hz ht h0 h31]
    have i1 : FisFr [enc6 b, enc6 d, encO c] = _ := isFr_is b d c
    have i2 : Fearl [enc6 b, enc6 d, encO c] = _ := earl_is b d c
    have i3 := copV_is l (by omega)
    have i4 : FcPath [enc6 b, enc6 d, .list l.length (encT l)] = _ := cPath_is b d l
    rw [if_pos hz] at i1 i2
    simp only [enc6, encO] at i1 i2 i4
    simp only [bindO_val, Sum.elim_inr, i1, i2, i3, i4]
    have hsp := earlV_spec (b := b) (d := d) hc
    have hf : (earlV b d c).2 = 0 ∨ (earlV b d c).2 = 12 := by
      rcases hsp with ⟨h, _⟩ | ⟨t, h, _⟩ <;> rw [h] <;> simp
    have hn : freeV b d c (regV c) = 2 ↔ ((earlV b d c).2 = 0 ∧ (earlV b d c).1 = c.2.2.2.2.2.1) := by
      rw [freeV_two hb hd hc]
      rcases hsp with ⟨h, hm⟩ | ⟨t, h, q1, q2, q3, q4⟩
      · rw [h]
        refine ⟨fun hh => absurd hm (hh _ (by omega) (by omega)), fun hh => ?_⟩
        have := hh.1
        simp at this
      · rw [h]
        refine ⟨fun hh => ⟨rfl, ?_⟩, fun hh s r1 r2 => ?_⟩
        · by_cases e : t = c.2.2.2.2.2.1
          · exact e
          · exact absurd (q4 (by omega)) (hh _ (by omega) (by omega))
        · have e : t = c.2.2.2.2.2.1 := hh.2
          exact q3 s (by omega) r2
    rw [x71 b d c l _ _ _ _ hf hn]
    simp only [bindO_val, Sum.elim_inr]
    obtain ⟨a, hL, h49⟩ : ∃ a : Bool, Llaw11_0 (Tlaw11_0a (freeV b d c (regV c)) (earlV b d c).1 (earlV b d c).2 (pathE b d l).2 false (c.2.2.2.2.2.1) b.1 b.2.1 b.2.2.1 b.2.2.2.1 b.2.2.2.2.1 b.2.2.2.2.2 l.length (encT l) d.1 d.2.1 d.2.2.1 d.2.2.2.1 d.2.2.2.2.1 d.2.2.2.2.2 c.1 c.2.1 c.2.2.1 c.2.2.2.1 c.2.2.2.2.1 c.2.2.2.2.2.1 c.2.2.2.2.2.2) = some (freeV b d c (regV c), (earlV b d c).1, (earlV b d c).2, (pathE b d l).2, a, b.1, b.2.1, b.2.2.1, b.2.2.2.1, b.2.2.2.2.1, b.2.2.2.2.2, l.length, encT l, d.1, d.2.1, d.2.2.1, d.2.2.2.1, d.2.2.2.2.1, d.2.2.2.2.2, c.1, c.2.1, c.2.2.1, c.2.2.2.1, c.2.2.2.2.1, c.2.2.2.2.2.1, c.2.2.2.2.2.2) ∧ ((pathE b d l).2 = 0 → (freeV b d c (regV c) = 2 → a = false) ∧ (freeV b d c (regV c) = 0 → a = true ∨ (l.length : Int) ≤ c.2.2.2.2.2.2)) := by
      obtain ⟨M, hM⟩ : ∃ M : Nat, M = min (c.2.2.2.2.2.2 + 1).toNat l.length - (c.2.2.2.2.2.1).toNat := ⟨_, rfl⟩
      have hk0 : ((c.2.2.2.2.2.1).toNat : Int) = c.2.2.2.2.2.1 := by omega
      by_cases hfl : l.length < (c.2.2.2.2.2.1).toNat
      ·
        have hx0 : Rlaw11_0 (Tlaw11_0a (freeV b d c (regV c)) (earlV b d c).1 (earlV b d c).2 (pathE b d l).2 false (c.2.2.2.2.2.1) b.1 b.2.1 b.2.2.1 b.2.2.2.1 b.2.2.2.2.1 b.2.2.2.2.2 l.length (encT l) d.1 d.2.1 d.2.2.1 d.2.2.2.1 d.2.2.2.2.1 d.2.2.2.2.2 c.1 c.2.1 c.2.2.1 c.2.2.2.1 c.2.2.2.2.1 c.2.2.2.2.2.1 c.2.2.2.2.2.2) = exO (Xlaw11_0a (freeV b d c (regV c), (earlV b d c).1, (earlV b d c).2, (pathE b d l).2, false, b.1, b.2.1, b.2.2.1, b.2.2.2.1, b.2.2.2.2.1, b.2.2.2.2.2, l.length, encT l, d.1, d.2.1, d.2.2.1, d.2.2.2.1, d.2.2.2.2.1, d.2.2.2.2.2, c.1, c.2.1, c.2.2.1, c.2.2.2.1, c.2.2.2.2.1, c.2.2.2.2.2.1, c.2.2.2.2.2.2)) := by
          refine Rlaw11_0a_of _ _ _ _ _ _ _ _ _ _ _ _ _ _ _ _ _ _ _ _ _ _ _ _ _ _ _ ?_
          unfold Blaw11_0a
          rw [x56b b d c l _ _ _ _ _ _ (by omega) (by omega)]
          rfl
        exact ⟨false, Llaw11_0a_of hx0, fun _ => ⟨fun _ => rfl, fun _ => .inr (by omega)⟩⟩
      · have hx0 := x0 b d c l (freeV b d c (regV c)) (earlV b d c).1 (earlV b d c).2 (pathE b d l).2 (by omega) M (c.2.2.2.2.2.1).toNat false (by omega) (by omega)
        rw [hk0] at hx0
        refine ⟨_, Llaw11_0a_of hx0, fun hp => ⟨fun h2 => ?_, fun hz0 => ?_⟩⟩
        · by_cases e : crossF c l M (c.2.2.2.2.2.1).toNat false = true
          · rcases (crossF_iff c l M _ false).1 e with h | ⟨j, v, j1, j2, j3, j4⟩
            · cases h
            · have hin := path_in hb hd hp j3
              have hm := hd_meet hin j4
              rw [reg_meet hb hd (by omega)] at hm
              exact absurd hm ((freeV_two hb hd hc).1 h2 j (by omega) (by omega))
          · simpa using e
        · by_cases hl : (l.length : Int) ≤ c.2.2.2.2.2.2
          · exact .inr hl
          · left
            obtain ⟨s, s1, s2, s3⟩ := freeV_zero hc hz0
            have hsl : s.toNat < l.length := by omega
            have hv : l[s.toNat]? = some l[s.toNat] := List.getElem?_eq_getElem hsl
            have hin := path_in hb hd hp hv
            have es : ((s.toNat : Nat) : Int) = s := by omega
            rw [es] at hin
            refine (crossF_iff c l M _ false).2 (.inr ⟨s.toNat, l[s.toNat], by omega, by omega, hv, ?_⟩)
            have hR : regR c = (c.1, c.2.1, c.2.2.1, c.2.2.2.1, c.2.2.2.2.1, 1099511627776) := rfl
            rw [hR]
            unfold Hd at hin ⊢
            unfold InB regV at s3
            simp only at s3 ⊢
            omega
    rw [hL]
    simp only [bindO_val]
    rw [x49 b d c l _ _ _ _ _ h49]
    simp only [bindO_val, Sum.elim_inr]
    have h42 : (earlV b d c).2 = 0 → (c.2.2.2.2.2.1 ≤ (earlV b d c).1 ∧ (earlV b d c).1 ≤ c.2.2.2.2.2.2) ∧ freV b d (c.1, c.2.1, c.2.2.1, c.2.2.2.1, c.2.2.2.2.1, (earlV b d c).1, c.2.2.2.2.2.2) = 0 ∧ freeV b d (c.1, c.2.1, c.2.2.1, c.2.2.2.1, c.2.2.2.2.1, (earlV b d c).1, c.2.2.2.2.2.2) (regV (c.1, c.2.1, c.2.2.1, c.2.2.2.1, c.2.2.2.2.1, (earlV b d c).1, c.2.2.2.2.2.2)) = 2 ∧ (c.2.2.2.2.2.1 < (earlV b d c).1 → freV b d (c.1, c.2.1, c.2.2.1, c.2.2.2.1, c.2.2.2.2.1, ((earlV b d c).1 - 1), c.2.2.2.2.2.2) = 0 ∧ freeV b d (c.1, c.2.1, c.2.2.1, c.2.2.2.1, c.2.2.2.2.1, ((earlV b d c).1 - 1), c.2.2.2.2.2.2) (regV (c.1, c.2.1, c.2.2.1, c.2.2.2.1, c.2.2.2.2.1, ((earlV b d c).1 - 1), c.2.2.2.2.2.2)) ≠ 2 ∧ 0 ≤ c.2.2.2.2.2.1 ∧ (earlV b d c).1 ≤ 1000) := by
      intro h
      rcases hsp with ⟨e, _⟩ | ⟨t, e, q1, q2, q3, q4⟩
      · rw [e] at h
        simp at h
      · rw [e]
        simp only
        obtain ⟨f1, f2⟩ := fre_from hz (t := t) (by omega) q2
        refine ⟨⟨q1, q2⟩, f1, (freeV_two hb hd f2).2 fun s r1 r2 => q3 s r1 r2, fun hlt => ?_⟩
        obtain ⟨f3, f4⟩ := fre_from hz (t := t - 1) (by omega) (by omega)
        refine ⟨f3, fun e2 => ?_, by omega, by omega⟩
        exact (freeV_two hb hd f4).1 e2 (t - 1) (Int.le_refl _) (by simp only; omega) (q4 hlt)
    rw [x42 b d c l _ _ _ h42]
    simp only [bindO_val, Sum.elim_inl]
    by_cases h14 : freeV b d c (regV c) ≠ 2 ∨ c.2.2.2.2.1 = 10000
    · rw [x14a b d c l _ h14]
      rfl
    · have e2 : freeV b d c (regV c) = 2 := by
        by_cases e : freeV b d c (regV c) = 2
        · exact e
        · exact absurd (.inl e) h14
      have hl : c.2.2.2.2.1 ≠ 10000 := fun e => h14 (.inr e)
      rw [e2, x14b b d c l hl]
      simp only [bindO_val, Sum.elim_inr]
      rw [w64_in (by omega)]
      have i5 : FisFr [enc6 b, enc6 d, encO (c.1, c.2.1, c.2.2.1, c.2.2.2.1, c.2.2.2.2.1 + 1, c.2.2.2.2.2.1, c.2.2.2.2.2.2)] = _ := isFr_is b d (c.1, c.2.1, c.2.2.1, c.2.2.2.1, c.2.2.2.2.1 + 1, c.2.2.2.2.2.1, c.2.2.2.2.2.2)
      have hc' : corV (c.1, c.2.1, c.2.2.1, c.2.2.2.1, c.2.2.2.2.1 + 1, c.2.2.2.2.2.1, c.2.2.2.2.2.2) = 0 := by
        unfold corV at hc ⊢
        split at hc
        · rename_i hh
          unfold ord3 at hc
          split at hc
          · rename_i ho
            rw [if_pos (by simp only; omega)]
            unfold ord3
            rw [if_pos (by simp only; omega)]
          · cases hc
        · cases hc
      have hz' : freV b d (c.1, c.2.1, c.2.2.1, c.2.2.2.1, c.2.2.2.2.1 + 1, c.2.2.2.2.2.1, c.2.2.2.2.2.2) = 0 := by simp [freV, first3, hb, hd, hc']
      have h2' : freeV b d (c.1, c.2.1, c.2.2.1, c.2.2.2.1, c.2.2.2.2.1 + 1, c.2.2.2.2.2.1, c.2.2.2.2.2.2) (regV (c.1, c.2.1, c.2.2.1, c.2.2.2.1, c.2.2.2.2.1 + 1, c.2.2.2.2.2.1, c.2.2.2.2.2.2)) = 2 := by
        refine (freeV_two hb hd hc').2 fun s r1 r2 hm => (freeV_two hb hd hc).1 e2 s r1 r2 ?_
        unfold metAt Good meetV regV at hm ⊢
        simp only [mxV, mnV] at hm ⊢
        refine ⟨hm.1, hm.2.1, ?_⟩
        have := hm.2.2
        revert this
        repeat' split
        all_goals omega
      rw [if_pos hz', h2'] at i5
      simp only [enc6, encO] at i5
      simp only [i5, bindO_val]
      rfl
end Gv
