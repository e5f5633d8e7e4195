/- The law about blind stretches. -/
import Derived.Test.YtggnifebabjoiaaA0
import Derived.Test.YtggnifebabjoiaaS5
import Derived.Test.YtggnifebabjoiaaS12
import Derived.Test.YtggnifebabjoiaaP14
namespace Gv
open Go
set_option maxRecDepth 100000
theorem l6_86 (l : List Z3) (lo hi g x a b : Int) :
    Llaw6_1000086 (Tlaw6_1000086a l.length (encT l) lo hi g x a b) = some (.inl ()) ∨
    (Llaw6_1000086 (Tlaw6_1000086a l.length (encT l) lo hi g x a b) = some (.inr (l.length, encT l, lo, hi, g, x, a, b)) ∧ l.length ≤ 22) := by
  have no : Blaw6_1000086a (Fn env) Rlaw6_1000086 exO Llaw6_0 Llaw6_1000086 Llaw6_1000075 Llaw6_1000064 Llaw6_1000060 Llaw6_1000049 Llaw6_1000042 Llaw6_1000009 l.length (encT l) lo hi g x a b = exO (Xlaw6_1000086a ()) → _ := fun h =>
    Llaw6_1000086a_of (Rlaw6_1000086a_of _ _ _ _ _ _ _ _ h)
  have yes : Blaw6_1000086a (Fn env) Rlaw6_1000086 exO Llaw6_0 Llaw6_1000086 Llaw6_1000075 Llaw6_1000064 Llaw6_1000060 Llaw6_1000049 Llaw6_1000042 Llaw6_1000009 l.length (encT l) lo hi g x a b = exO (Xlaw6_1000086b (l.length, encT l, lo, hi, g, x, a, b)) → _ := fun h =>
    Llaw6_1000086b_of (Rlaw6_1000086a_of _ _ _ _ _ _ _ _ h)
  by_cases h1 : l.length ≤ 22
  · by_cases h2 : endE 0 50000 lo hi = 0
    · by_cases h3 : w64 (hi - lo) > 3000
      · refine .inl (no ?_)
        unfold Blaw6_1000086a
        simp only [few_is, decide_eq_true h1, cond_true, rSpE_is, h2, bindO_val, bif_eq, bif_dec, if_true, h3]
      · refine .inr ⟨yes ?_, h1⟩
        unfold Blaw6_1000086a
        simp only [few_is, decide_eq_true h1, cond_true, rSpE_is, h2, bindO_val, bif_eq, bif_dec, if_true, h3, if_false]
    · refine .inr ⟨yes ?_, h1⟩
      unfold Blaw6_1000086a
      simp only [few_is, decide_eq_true h1, cond_true, rSpE_is, bindO_val, bif_eq, if_neg h2]
  · refine .inl (no ?_)
    unfold Blaw6_1000086a
    simp only [few_is, decide_eq_false h1, cond_false, bindO_val]
theorem l6_75 (n0 : Nat) (c1 : List PV) (n2 : Nat) (c3 : List PV) (e lo hi g x a b : Int) (q : Int × Int × Int) (hq : q = if ldE x a b = 0 then (x / b, -(-x / a), 0) else (0, 0, ldE x a b)) :
    Llaw6_1000075 (Tlaw6_1000075a n0 c1 n2 c3 e q.2.2 lo hi g x a b q.1 q.2.1) = some (.inr (n0, c1, n2, c3, e, lo, hi, g, x)) := by
  refine Llaw6_1000075b_of (Rlaw6_1000075a_of _ _ _ _ _ _ _ _ _ _ _ _ _ _ ?_)
  subst hq
  unfold Blaw6_1000075a
  by_cases h : ldE x a b = 0
  · simp only [rLdE_is, h, rLead_is h, bindO_val, bif_ne, bif_eq, if_true, ne_eq, not_true_eq_false, if_false, beq_self_eq_true, Bool.and_self, Bool.not_true, cond_false]
    rfl
  · simp only [rLdE_is, h, bindO_val, bif_ne, bif_eq, if_false, if_true, ne_eq, not_true_eq_false, beq_self_eq_true, Bool.and_self, Bool.not_true, cond_false]
    rfl
theorem l6_64 (n0 : Nat) (c1 : List PV) (n2 : Nat) (c3 : List PV) (e p lo hi g x : Int) :
    Llaw6_1000064 (Tlaw6_1000064a n0 c1 n2 c3 e p lo hi g x) = some (n0, c1, n2, c3, e, (if p = 0 then endE 0 50000 lo hi else p), lo, hi, g, x) := by
  refine Llaw6_1000064a_of (Rlaw6_1000064a_of _ _ _ _ _ _ _ _ _ _ ?_)
  unfold Blaw6_1000064a
  by_cases h : p = 0
  · simp only [h, rSpE_is, bindO_val, bif_eq, if_true]
    rfl
  · simp only [bif_eq, if_neg h]
    rfl
theorem l6_60 (n0 : Nat) (c1 : List PV) (n2 : Nat) (c3 : List PV) (e p lo hi g x : Int) :
    Llaw6_1000060 (Tlaw6_1000060a n0 c1 n2 c3 e p lo hi g x) = some (n0, c1, n2, c3, e, (if p = 0 then rangeE g 0 50000 else p), lo, hi, g, x) := by
  refine Llaw6_1000060a_of (Rlaw6_1000060a_of _ _ _ _ _ _ _ _ _ _ ?_)
  unfold Blaw6_1000060a
  by_cases h : p = 0
  · simp only [h, rAtE_is, bindO_val, bif_eq, if_true]
    rfl
  · simp only [bif_eq, if_neg h]
    rfl
theorem addP_len : ∀ (l : List ZZ) (a : Int), (addP l a).length ≤ l.length + 1
  | [], a => by simp [addP]
  | [z], a => by unfold addP; split <;> simp
  | z :: w :: l, a => by have := addP_len (w :: l) a; simp only [addP, List.length_cons] at this ⊢; omega
theorem refF_len (p : Int → Bool) : ∀ (n : Nat) (a : Int) (out : List ZZ), (refF p n a out).length ≤ out.length + n
  | 0, a, out => by simp [refF]
  | n + 1, a, out => by
    simp only [refF]
    have h1 := refF_len p n (a + 1) (addP out a)
    have h2 := refF_len p n (a + 1) out
    have h3 := addP_len out a
    split <;> omega
theorem blV_len {l : List Z3} {lo hi g : Int} (hlo : 0 ≤ lo) (hhi : hi ≤ 50000) : (blV l lo hi g).length ≤ 50001 := by
  have := refF_len (blindB l g) (nf hi lo) lo []
  unfold blV
  unfold nf at *
  simp only [List.length_nil] at this
  omega
theorem blV_in (l : List Z3) (lo hi g x : Int) : inG (blV l lo hi g) x ↔ lo ≤ x ∧ x ≤ hi ∧ far g l x := by
  unfold blV
  rw [(ref_in (blindB l g) (nf hi lo) lo [] (by simp)).1 x]
  unfold nf blindB
  rw [decide_eq_true_iff]
  constructor
  · rintro (⟨r, hr, _⟩ | h)
    · simp at hr
    · exact ⟨h.1, by omega, h.2.2⟩
  · intro h
    exact .inr ⟨h.1, by omega, h.2.2⟩
theorem l6_49 (l : List Z3) (lo hi g x : Int) (hl : l.length < 1000) (h : bIE l lo hi g = 0) :
    Llaw6_1000049 (Tlaw6_1000049a l.length (encT l) (blV l lo hi g).length (encG (blV l lo hi g)) 0 lo hi g x) = some (.inr (l.length, encT l, (blV l lo hi g).length, encG (blV l lo hi g), lo, hi, g, x)) := by
  obtain ⟨h1, h2, h3⟩ := first3_nil h
  obtain ⟨k1, ha⟩ := gtsE_ok h1
  have k2 := endE_ok h2
  refine Llaw6_1000049b_of (Rlaw6_1000049a_of _ _ _ _ _ _ _ _ _ ?_)
  unfold Blaw6_1000049a
  have hB := rBl_is l lo hi g hl (by omega) (by omega) (by omega) (gates_bd ha)
  have hR := bRgs_is (blV l lo hi g) (by have := blV_len (l := l) (g := g) (show 0 ≤ lo by omega) (show hi ≤ 50000 by omega); omega)
  simp only [bif_ne, if_true, hB, hR, bindO_val, cond_true]
  rfl
theorem l6_42 (l : List Z3) (lo hi g x : Int) (hl : l.length < 1000) (h : bIE l lo hi g = 0) :
    Llaw6_1000042 (Tlaw6_1000042a l.length (encT l) (blV l lo hi g).length (encG (blV l lo hi g)) lo hi g x) = some (.inl (l.length, encT l, (blV l lo hi g).length, encG (blV l lo hi g), lo, hi, g, x)) := by
  obtain ⟨h1, h2, h3⟩ := first3_nil h
  obtain ⟨k1, ha⟩ := gtsE_ok h1
  have k2 := endE_ok h2
  have hlen := blV_len (l := l) (g := g) (show 0 ≤ lo by omega) (show hi ≤ 50000 by omega)
  refine Llaw6_1000042a_of (Rlaw6_1000042a_of _ _ _ _ _ _ _ _ ?_)
  unfold Blaw6_1000042a
  by_cases hx : lo ≤ x ∧ x ≤ hi
  · have hI := rIsB_is l g x hl (by omega) (gates_bd ha)
    have hi' := lIn_is (blV l lo hi g) x (by omega)
    have hb : blindB l g x = decide (inG (blV l lo hi g) x) := by
      unfold blindB
      exact decide_eq_decide.2 ⟨fun h => (blV_in l lo hi g x).2 ⟨hx.1, hx.2, h⟩, fun h => ((blV_in l lo hi g x).1 h).2.2⟩
    simp only [bWi_is, decide_eq_true hx, bindO_val, cond_true, hI, hi', hb]
    cases decide (inG (blV l lo hi g) x) <;> rfl
  · simp only [bWi_is, decide_eq_false hx, bindO_val, cond_false]
    rfl
theorem far_less {g x : Int} {l : List Z3} (h : far (g + 1) l x) : far g l x := fun z hz => by have := h z hz; omega
theorem l6_0 (O N : List ZZ) (hO : O.length < 1000000) (hN : N.length < 1000000) (h : ∀ r ∈ N, inG O r.1 ∧ inG O r.2) : ∀ i, i ≤ N.length → Rlaw6_0 (Tlaw6_0a O.length (encG O) N.length (encG N) i) = exO (Xlaw6_0a ()) := by
  refine up_ind _ ?_ ?_
  · refine Rlaw6_0a_of _ _ _ _ _ ?_
    unfold Blaw6_0a
    rw [bif_neg (by omega)]
    rfl
  · intro i hi ih
    obtain ⟨e, he, _⟩ := get_drop hi
    have hm := h e (List.mem_of_getElem? he)
    have c1 : (0 : Int) ≤ (i : Int) ∧ (i : Int) < N.length := by omega
    have g0 : (encG N)[i * 2 + 0]? = some (.int .i64 e.1) := by rw [Nat.add_zero, encG_0, he]; rfl
    have p9 : Llaw6_1000009 (Tlaw6_1000009a O.length (encG O) N.length (encG N) i) = some (.inl (O.length, encG O, N.length, encG N, (i : Int))) := by
      refine Llaw6_1000009a_of (Rlaw6_1000009a_of _ _ _ _ _ ?_)
      unfold Blaw6_1000009a
      simp only [bif_dec, c1, and_self, if_true, Int.toNat_natCast, g0, encG_1, he, Option.map_some, intC_int, bindO_val, lIn_is O _ hO, hm.1, hm.2]
      rfl
    refine Rlaw6_0a_of _ _ _ _ _ ?_
    unfold Blaw6_0a
    rw [bif_pos (by omega)]
    simp only [p9, bindO_val, Sum.elim]
    rw [w64_in (by omega)]
    exact ih
theorem seenLaw (l : List Z3) (lo hi g x a b : Int) : Flaw6 [.list l.length (encT l), .agg [.int .i64 lo, .int .i64 hi, .int .i64 g, .int .i64 x], .agg [.int .i64 a, .int .i64 b]] = some true := by
  refine Flaw6_of _ _ _ _ _ _ _ _ ?_
  unfold tlaw6
  simp only [awake_is, cond_true, bindO_val]
  rcases l6_86 l lo hi g x a b with hg | ⟨hg, hl⟩
  · rw [hg]
    rfl
  · rw [hg]
    have hc := rCopP_is l (by omega)
    have hb := fun g => blindIn_is l lo hi g (by omega)
    simp only [bindO_val, Sum.elim, hc, hb, leadOf_is]
    rw [l6_75 _ _ _ _ _ lo hi g x a b _ rfl]
    simp only [bindO_val, rPE_is l (show l.length < 1000 by omega), l6_64, l6_60]
    have e1 : (if (if gtsE l = 0 then endE 0 50000 lo hi else gtsE l) = 0 then rangeE g 0 50000 else if gtsE l = 0 then endE 0 50000 lo hi else gtsE l) = bIE l lo hi g := by
      unfold bIE first3
      by_cases h1 : gtsE l = 0 <;> by_cases h2 : endE 0 50000 lo hi = 0 <;> simp [h1, h2]
    simp only [e1]
    by_cases h : bIE l lo hi g = 0
    · simp only [if_pos h, h, bif_ne, if_true, l6_49 l lo hi g x (by omega) h, l6_42 l lo hi g x (by omega) h, bindO_val, Sum.elim, bif_eq]
      by_cases h5 : g = 50000
      · simp only [h5, if_true]
      · obtain ⟨h1, h2, h3⟩ := first3_nil h
        have k2 := endE_ok h2
        have k3 := rangeE_ok h3
        have w1 : w64 (g + 1) = g + 1 := w64_in (by omega)
        have h' : bIE l lo hi (g + 1) = 0 := by unfold bIE first3; rw [h1, h2, rangeE_in (by omega)]; rfl
        have n1 := fun g => blV_len (l := l) (g := g) (show 0 ≤ lo by omega) (show hi ≤ 50000 by omega)
        have p0 := l6_0 (blV l lo hi g) (blV l lo hi (g + 1)) (by have := n1 g; omega) (by have := n1 (g + 1); omega) (by
          intro r hr
          have hle := (ref_in (blindB l (g + 1)) (nf hi lo) lo [] (by simp)).2 r hr
          have q : ∀ y, r.1 ≤ y → y ≤ r.2 → inG (blV l lo hi g) y := fun y y1 y2 => by
            have := (blV_in l lo hi (g + 1) y).1 ⟨r, hr, y1, y2⟩
            exact (blV_in l lo hi g y).2 ⟨this.1, this.2.1, far_less this.2.2⟩
          exact ⟨q r.1 (Int.le_refl _) hle, q r.2 hle (Int.le_refl _)⟩) 0 (by omega)
        have p0' := Llaw6_0a_of p0
        simp only [h5, if_false, w1, hc, hb, h', if_true, bif_ne, bindO_val]
        have p0'' : Llaw6_0 (Tlaw6_0a (blV l lo hi g).length (encG (blV l lo hi g)) (blV l lo hi (g + 1)).length (encG (blV l lo hi (g + 1))) 0) = _ := p0'
        rw [p0'']
        rfl
    · simp only [if_neg h, bif_ne, bif_eq, if_true]
      rfl
end Gv
