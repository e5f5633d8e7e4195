/- The law about rules, states and the next state. -/
import Derived.Test.YtggnifebabjoiaaA0
import Derived.Test.YtggnifebabjoiaaS3
import Derived.Test.YtggnifebabjoiaaP7b
namespace Gv
open Go
set_option maxRecDepth 100000
def Vd (s : St5) : Prop := (0 ≤ s.2.1 ∧ s.2.1 ≤ 62500) ∧ (0 ≤ s.2.2.1 ∧ s.2.2.1 ≤ 1000000000000) ∧ (-1 ≤ s.2.2.2.1 ∧ s.2.2.2.1 ≤ 1000000000000) ∧ (-1 ≤ s.2.2.2.2 ∧ s.2.2.2.2 ≤ 1000000000000) ∧
  (s.1 = true → s.2.1 > 0 ∧ s.2.2.1 ≤ s.2.2.2.1 ∧ s.2.2.2.2 ≤ s.2.2.2.1 ∧ (s.2.2.2.2 = -1 ∨ s.2.2.1 ≤ s.2.2.2.2)) ∧ (s.1 = false → s.2.2.1 = 0 ∧ s.2.2.2.2 = -1)
theorem stateE_vd {s : St5} : stateE s = 0 ↔ Vd s := by
  obtain ⟨b, n, si, h, q⟩ := s
  unfold stateE posV Vd
  cases b with
  | true =>
    simp only [if_true, decide_eq_true_eq, Bool.true_eq_false, false_implies, and_true, true_implies]
    split
    · split
      · simp_all
      · simp_all
    · constructor
      · intro h; omega
      · intro h; simp_all
  | false =>
    simp only [if_false, decide_eq_true_eq, Bool.false_eq_true, false_implies, true_and, true_implies]
    split
    · split
      · simp_all
      · simp_all
    · constructor
      · intro h; omega
      · intro h; simp_all
theorem hear_vd {r : R4} {s : St5} {e : Z3} (hr : ruleE r = 0) (hs : Vd s) (he : eventE e = 0) (hh : s.2.2.2.1 < e.1) (hn : (hearV r s e).2.1 ≤ 62500) : Vd (hearV r s e) := by
  have hr := ruleE_ok hr
  have he := eventE_ok he
  obtain ⟨b, n, si, h, q⟩ := s
  obtain ⟨ra, cl, ho, ti⟩ := r
  obtain ⟨at_, lo, hi⟩ := e
  unfold Vd at hs
  simp only at hr he hh hs
  have w1 : w64 (n + 1) = n + 1 := w64_in (by omega)
  unfold hearV hear3 hear2 listenV passV at hn ⊢
  unfold Vd
  cases b with
  | true =>
    simp only [true_implies, Bool.true_eq_false, false_implies, and_true] at hs
    by_cases h0 : ti < w64 (at_ - h)
    · by_cases h5 : ra ≤ lo
      · simp [h0, h5, w1] at hn ⊢; omega
      · simp [h0, h5, w1] at hn ⊢; omega
    · by_cases h1 : cl ≤ hi
      · simp [h0, h1, w1] at hn ⊢; omega
      · by_cases h2 : q = -1
        · by_cases h3 : ho ≤ w64 (at_ - at_) <;> by_cases h5 : ra ≤ lo <;> simp [-Int.sub_self, h0, h1, h2, h3, h5, w1] at hn ⊢ <;> omega
        · by_cases h3 : ho ≤ w64 (at_ - q) <;> by_cases h5 : ra ≤ lo <;> simp [h0, h1, h2, h3, h5, w1] at hn ⊢ <;> omega
  | false =>
    simp only [Bool.false_eq_true, false_implies, true_implies, true_and] at hs
    by_cases h5 : ra ≤ lo
    · simp [h5, w1] at hn ⊢; omega
    · simp [h5, w1] at hn ⊢; omega
theorem l7_27 (f : Int) (r : R4) (s : St5) (e : Z3) (x : St5) :
    Llaw7_1000027 (Tlaw7_1000027a f r.1 r.2.1 r.2.2.1 r.2.2.2 s.1 s.2.1 s.2.2.1 s.2.2.2.1 s.2.2.2.2 e.1 e.2.1 e.2.2 x.1 x.2.1 x.2.2.1 x.2.2.2.1 x.2.2.2.2) =
    some (.inr (f, r.1, r.2.1, r.2.2.1, r.2.2.2, s.1, s.2.1, s.2.2.1, s.2.2.2.1, s.2.2.2.2, e.1, e.2.1, e.2.2, x)) := by
  refine Llaw7_1000027b_of (Rlaw7_1000027a_of _ _ _ _ _ _ _ _ _ _ _ _ _ _ _ _ _ _ ?_)
  unfold Blaw7_1000027a
  have h1 := cRule_is r
  have h2 := rRuE_is r
  have h3 := cState_is s
  have h4 := rStE_is s
  obtain ⟨b, n, si, h, q⟩ := s
  simp only [encR4] at h1 h2
  simp only [h1, h2, bindO_val, bne_self_eq_false, cond_false]
  cases b with
  | true =>
    have h3' : FcState [.agg [.bool true, .int .i64 n, .int .i64 si, .int .i64 h, .int .i64 q]] = _ := h3
    have h4' : FrStE [.agg [.bool true, .int .i64 n, .int .i64 si, .int .i64 h, .int .i64 q]] = _ := h4
    simp only [h3', h4', bindO_val, bne_self_eq_false, cond_false, cond_true]
    rfl
  | false =>
    have h3' : FcState [.agg [.bool false, .int .i64 n, .int .i64 si, .int .i64 h, .int .i64 q]] = _ := h3
    have h4' : FrStE [.agg [.bool false, .int .i64 n, .int .i64 si, .int .i64 h, .int .i64 q]] = _ := h4
    simp only [h3', h4', bindO_val, bne_self_eq_false, cond_false]
    rfl
theorem l7_18 (f d : Int) (r : R4) (s : St5) (e : Z3) (x : St5) :
    Llaw7_1000018 (Tlaw7_1000018a f d r.1 r.2.1 r.2.2.1 r.2.2.2 s.1 s.2.1 s.2.2.1 s.2.2.2.1 s.2.2.2.2 e.1 e.2.1 e.2.2 x.1 x.2.1 x.2.2.1 x.2.2.2.1 x.2.2.2.2) =
    some (f, both d (stateE s), r.1, r.2.1, r.2.2.1, r.2.2.2, s.1, s.2.1, s.2.2.1, s.2.2.2.1, s.2.2.2.2, e.1, e.2.1, e.2.2, x) := by
  refine Llaw7_1000018a_of (Rlaw7_1000018a_of _ _ _ _ _ _ _ _ _ _ _ _ _ _ _ _ _ _ _ ?_)
  unfold Blaw7_1000018a both
  have h4 := rStE_is s
  obtain ⟨b, n, si, h, q⟩ := s
  simp only [bif_eq]
  by_cases hd : d = 0
  · subst hd
    cases b with
    | true =>
      have h4' : FrStE [.agg [.bool true, .int .i64 n, .int .i64 si, .int .i64 h, .int .i64 q]] = _ := h4
      simp only [h4', bindO_val, if_true, cond_true, ne_eq, not_true_eq_false, if_false]
      rfl
    | false =>
      have h4' : FrStE [.agg [.bool false, .int .i64 n, .int .i64 si, .int .i64 h, .int .i64 q]] = _ := h4
      simp only [h4', bindO_val, if_true, cond_false, ne_eq, not_true_eq_false, if_false]
      rfl
  · simp only [hd, if_false, ne_eq, not_false_eq_true, if_true]
    rfl
theorem l7_14 (f d : Int) (r : R4) (s : St5) (e : Z3) (x : St5) :
    Llaw7_1000014 (Tlaw7_1000014a f d r.1 r.2.1 r.2.2.1 r.2.2.2 s.1 s.2.1 s.2.2.1 s.2.2.2.1 s.2.2.2.2 e.1 e.2.1 e.2.2 x.1 x.2.1 x.2.2.1 x.2.2.2.1 x.2.2.2.2) =
    some (f, both d (eventE e), r.1, r.2.1, r.2.2.1, r.2.2.2, s.1, s.2.1, s.2.2.1, s.2.2.2.1, s.2.2.2.2, e.1, e.2.1, e.2.2, x) := by
  refine Llaw7_1000014a_of (Rlaw7_1000014a_of _ _ _ _ _ _ _ _ _ _ _ _ _ _ _ _ _ _ _ ?_)
  unfold Blaw7_1000014a both
  have h4 : FrEvE [.agg [.int .i64 e.1, .int .i64 e.2.1, .int .i64 e.2.2]] = some (eventE e) := rEvE_is e
  simp only [bif_eq]
  by_cases hd : d = 0
  · subst hd
    simp only [h4, bindO_val, if_true, ne_eq, not_true_eq_false, if_false]
    rfl
  · simp only [hd, if_false, ne_eq, not_false_eq_true, if_true]
    rfl
theorem nx' (r : R4) (b : Bool) (n si h q x y z : Int) : Fnext [encR4 r, .agg [.bool b, .int .i64 n, .int .i64 si, .int .i64 h, .int .i64 q], .agg [.int .i64 x, .int .i64 y, .int .i64 z]] = some (nextV r (b, n, si, h, q) (x, y, z)) := next_is r (b, n, si, h, q) (x, y, z)
theorem rnx' (r : R4) (b : Bool) (n si h q x y z : Int) : FrNext [encR4 r, .agg [.bool b, .int .i64 n, .int .i64 si, .int .i64 h, .int .i64 q], .agg [.int .i64 x, .int .i64 y, .int .i64 z]] = some (rNextV r (b, n, si, h, q) (x, y, z)) := rNext_is r (b, n, si, h, q) (x, y, z)
theorem cst' (b : Bool) (n si h q : Int) : FcState [.agg [.bool b, .int .i64 n, .int .i64 si, .int .i64 h, .int .i64 q]] = some (stateE (b, n, si, h, q)) := cState_is (b, n, si, h, q)
theorem hear2_num (r : R4) (s : St5) (e : Z3) : (hear2 r (passV r s e.1) e).2.1 = s.2.1 := by
  unfold hear2 listenV passV
  repeat' split
  all_goals rfl
theorem next_same {r : R4} {s : St5} {e : Z3} (hr : ruleE r = 0) (hs : Vd s) (he : eventE e = 0) : nextV r s e = rNextV r s e ∧ ((nextV r s e).2.2.2.2.2 = 0 → stateE ((nextV r s e).1, (nextV r s e).2.1, (nextV r s e).2.2.1, (nextV r s e).2.2.2.1, (nextV r s e).2.2.2.2.1) = 0) := by
  have hs0 : stateE s = 0 := stateE_vd.2 hs
  have hn := hear2_num r s e
  unfold nextV rNextV nextE
  rw [hr, hs0, he]
  by_cases ho : e.1 ≤ s.2.2.2.1
  · simp [ho, first4]
  · simp only [if_neg ho]
    simp only [first4, ne_eq, not_true_eq_false, if_false]
    have hs1 := hs.1
    by_cases hc : (hear2 r (passV r s e.1) e).1 = false ∧ r.1 ≤ e.2.1
    · have hnum : (hearV r s e).2.1 = s.2.1 + 1 := by
        unfold hearV hear3
        rw [if_pos hc, hn]
        exact w64_in (by omega)
      by_cases h5 : s.2.1 = 62500
      · rw [if_pos (by omega), if_pos ⟨hc.1, hc.2, by rw [hn]; exact h5⟩]
        refine ⟨rfl, fun h => ?_⟩
        simp at h
      · rw [if_neg (by omega), if_neg (fun h => h5 (by rw [← hn]; exact h.2.2))]
        exact ⟨rfl, fun _ => stateE_vd.2 (hear_vd hr hs he (by omega) (by omega))⟩
    · have hnum : (hearV r s e).2.1 = s.2.1 := by
        unfold hearV hear3
        rw [if_neg hc]
        exact hn
      rw [if_neg (by omega), if_neg (fun h => hc ⟨h.1, h.2.1⟩)]
      exact ⟨rfl, fun _ => stateE_vd.2 (hear_vd hr hs he (by omega) (by omega))⟩
theorem stepsLaw (r : R4) (s : St5) (e : Z3) : Flaw7 [encR4 r, encS5 s, encE3 e] = some true := by
  refine Flaw7_of _ _ _ _ _ _ _ _ _ _ _ _ ?_
  unfold tlaw7
  have hnx := nx' r
  have hrx := rnx' r
  have hru := rRuE_is r
  have key : both (both (ruleE r) (stateE s)) (eventE e) = 0 → nextV r s e = rNextV r s e ∧ ((nextV r s e).2.2.2.2.2 = 0 → stateE ((nextV r s e).1, (nextV r s e).2.1, (nextV r s e).2.2.1, (nextV r s e).2.2.2.1, (nextV r s e).2.2.2.2.1) = 0) := fun h => by
    obtain ⟨h1, h3⟩ := both_nil h
    obtain ⟨h1, h2⟩ := both_nil h1
    exact next_same h1 (stateE_vd.1 h2) h3
  have bad : both (both (ruleE r) (stateE s)) (eventE e) ≠ 0 → nextV r s e = zero6 (both (both (ruleE r) (stateE s)) (eventE e)) := fun h => by
    have : nextE r s e = both (both (ruleE r) (stateE s)) (eventE e) := by
      unfold nextE first4
      unfold both at h ⊢
      by_cases a1 : ruleE r = 0 <;> by_cases a2 : stateE s = 0 <;> by_cases a3 : eventE e = 0 <;> simp_all
    unfold nextV
    rw [this, if_pos h]
  have p27 := l7_27
  have p18 := l7_18
  have p14 := l7_14
  obtain ⟨b, n, si, h, q⟩ := s
  obtain ⟨at_, lo, hi⟩ := e
  obtain ⟨ra, cl, ho, ti⟩ := r
  simp only [encR4] at hnx hrx hru
  have fin : ∀ v : Bool × Int × Int × Int × Int × Int, v = nextV (ra, cl, ho, ti) (b, n, si, h, q) (at_, lo, hi) → True := fun _ _ => trivial
  cases b with
  | true =>
    simp only [awake_is, cond_true, hnx, bindO_val]
    have q27 := p27 (nextV (ra, cl, ho, ti) (true, n, si, h, q) (at_, lo, hi)).2.2.2.2.2 (ra, cl, ho, ti) (true, n, si, h, q) (at_, lo, hi) ((nextV (ra, cl, ho, ti) (true, n, si, h, q) (at_, lo, hi)).1, (nextV (ra, cl, ho, ti) (true, n, si, h, q) (at_, lo, hi)).2.1, (nextV (ra, cl, ho, ti) (true, n, si, h, q) (at_, lo, hi)).2.2.1, (nextV (ra, cl, ho, ti) (true, n, si, h, q) (at_, lo, hi)).2.2.2.1, (nextV (ra, cl, ho, ti) (true, n, si, h, q) (at_, lo, hi)).2.2.2.2.1)
    simp only at q27
    rw [q27]
    simp only [bindO_val, Sum.elim, hru]
    have q18 := p18 (nextV (ra, cl, ho, ti) (true, n, si, h, q) (at_, lo, hi)).2.2.2.2.2 (ruleE (ra, cl, ho, ti)) (ra, cl, ho, ti) (true, n, si, h, q) (at_, lo, hi) ((nextV (ra, cl, ho, ti) (true, n, si, h, q) (at_, lo, hi)).1, (nextV (ra, cl, ho, ti) (true, n, si, h, q) (at_, lo, hi)).2.1, (nextV (ra, cl, ho, ti) (true, n, si, h, q) (at_, lo, hi)).2.2.1, (nextV (ra, cl, ho, ti) (true, n, si, h, q) (at_, lo, hi)).2.2.2.1, (nextV (ra, cl, ho, ti) (true, n, si, h, q) (at_, lo, hi)).2.2.2.2.1)
    simp only at q18
    rw [q18]
    simp only [bindO_val]
    have q14 := p14 (nextV (ra, cl, ho, ti) (true, n, si, h, q) (at_, lo, hi)).2.2.2.2.2 (both (ruleE (ra, cl, ho, ti)) (stateE (true, n, si, h, q))) (ra, cl, ho, ti) (true, n, si, h, q) (at_, lo, hi) ((nextV (ra, cl, ho, ti) (true, n, si, h, q) (at_, lo, hi)).1, (nextV (ra, cl, ho, ti) (true, n, si, h, q) (at_, lo, hi)).2.1, (nextV (ra, cl, ho, ti) (true, n, si, h, q) (at_, lo, hi)).2.2.1, (nextV (ra, cl, ho, ti) (true, n, si, h, q) (at_, lo, hi)).2.2.2.1, (nextV (ra, cl, ho, ti) (true, n, si, h, q) (at_, lo, hi)).2.2.2.2.1)
    simp only at q14
    rw [q14]
    simp only [bindO_val, cond_true, hrx, cst', bif_ne, bif_eq]
    generalize both (both (ruleE (ra, cl, ho, ti)) (stateE (true, n, si, h, q))) (eventE (at_, lo, hi)) = d at *
    by_cases hd : d = 0
    · obtain ⟨k1, k2⟩ := key hd
      rw [← k1]
      rw [if_pos hd]
      generalize nextV (ra, cl, ho, ti) (true, n, si, h, q) (at_, lo, hi) = v at *
      obtain ⟨v1, v2, v3, v4, v5, v6⟩ := v
      simp only at k2
      by_cases h6 : v6 = 0
      · have k2 := k2 h6
        cases v1 <;> simp [k2]
      · cases v1 <;> simp [h6]
    · rw [bad hd]
      simp [hd]
  | false =>
    simp only [awake_is, cond_true, cond_false, hnx, bindO_val]
    have q27 := p27 (nextV (ra, cl, ho, ti) (false, n, si, h, q) (at_, lo, hi)).2.2.2.2.2 (ra, cl, ho, ti) (false, n, si, h, q) (at_, lo, hi) ((nextV (ra, cl, ho, ti) (false, n, si, h, q) (at_, lo, hi)).1, (nextV (ra, cl, ho, ti) (false, n, si, h, q) (at_, lo, hi)).2.1, (nextV (ra, cl, ho, ti) (false, n, si, h, q) (at_, lo, hi)).2.2.1, (nextV (ra, cl, ho, ti) (false, n, si, h, q) (at_, lo, hi)).2.2.2.1, (nextV (ra, cl, ho, ti) (false, n, si, h, q) (at_, lo, hi)).2.2.2.2.1)
    simp only at q27
    rw [q27]
    simp only [bindO_val, Sum.elim, hru]
    have q18 := p18 (nextV (ra, cl, ho, ti) (false, n, si, h, q) (at_, lo, hi)).2.2.2.2.2 (ruleE (ra, cl, ho, ti)) (ra, cl, ho, ti) (false, n, si, h, q) (at_, lo, hi) ((nextV (ra, cl, ho, ti) (false, n, si, h, q) (at_, lo, hi)).1, (nextV (ra, cl, ho, ti) (false, n, si, h, q) (at_, lo, hi)).2.1, (nextV (ra, cl, ho, ti) (false, n, si, h, q) (at_, lo, hi)).2.2.1, (nextV (ra, cl, ho, ti) (false, n, si, h, q) (at_, lo, hi)).2.2.2.1, (nextV (ra, cl, ho, ti) (false, n, si, h, q) (at_, lo, hi)).2.2.2.2.1)
    simp only at q18
    rw [q18]
    simp only [bindO_val]
    have q14 := p14 (nextV (ra, cl, ho, ti) (false, n, si, h, q) (at_, lo, hi)).2.2.2.2.2 (both (ruleE (ra, cl, ho, ti)) (stateE (false, n, si, h, q))) (ra, cl, ho, ti) (false, n, si, h, q) (at_, lo, hi) ((nextV (ra, cl, ho, ti) (false, n, si, h, q) (at_, lo, hi)).1, (nextV (ra, cl, ho, ti) (false, n, si, h, q) (at_, lo, hi)).2.1, (nextV (ra, cl, ho, ti) (false, n, si, h, q) (at_, lo, hi)).2.2.1, (nextV (ra, cl, ho, ti) (false, n, si, h, q) (at_, lo, hi)).2.2.2.1, (nextV (ra, cl, ho, ti) (false, n, si, h, q) (at_, lo, hi)).2.2.2.2.1)
    simp only at q14
    rw [q14]
    simp only [bindO_val, cond_false, hrx, cst', bif_ne, bif_eq]
    generalize both (both (ruleE (ra, cl, ho, ti)) (stateE (false, n, si, h, q))) (eventE (at_, lo, hi)) = d at *
    by_cases hd : d = 0
    · obtain ⟨k1, k2⟩ := key hd
      rw [← k1]
      rw [if_pos hd]
      generalize nextV (ra, cl, ho, ti) (false, n, si, h, q) (at_, lo, hi) = v at *
      obtain ⟨v1, v2, v3, v4, v5, v6⟩ := v
      simp only at k2
      by_cases h6 : v6 = 0
      · have k2 := k2 h6
        cases v1 <;> simp [k2]
      · cases v1 <;> simp [h6]
    · rw [bad hd]
      simp [hd]
end Gv
