import Derived.Test.YtggnifebabjoiaaS0
import Derived.Test.YtggnifebabjoiaaP3
import Derived.Test.YtggnifebabjoiaaP5b

/- Alerts: the state after an event, and at a tick; the program's and the specification's. -/
namespace Gv
open Go
set_option maxRecDepth 100000
abbrev R4 := Int × Int × Int × Int
abbrev St5 := Bool × Int × Int × Int × Int
abbrev encR4 (r : R4) : PV := .agg [.int .i64 r.1, .int .i64 r.2.1, .int .i64 r.2.2.1, .int .i64 r.2.2.2]
abbrev encS5 (s : St5) : PV := .agg [.bool s.1, .int .i64 s.2.1, .int .i64 s.2.2.1, .int .i64 s.2.2.2.1, .int .i64 s.2.2.2.2]
abbrev encE3 (e : Z3) : PV := .agg [.int .i64 e.1, .int .i64 e.2.1, .int .i64 e.2.2]
def passV (r : R4) (s : St5) (t : Int) : St5 := if s.1 = true ∧ r.2.2.2 < w64 (t - s.2.2.2.1) then (false, s.2.1, 0, s.2.2.2.1, -1) else s
def listenV (r : R4) (s : St5) (e : Z3) : St5 :=
  if r.2.1 ≤ e.2.2 then (s.1, s.2.1, s.2.2.1, s.2.2.2.1, -1) else
  if r.2.2.1 ≤ w64 (e.1 - (if s.2.2.2.2 = -1 then e.1 else s.2.2.2.2)) then (false, s.2.1, 0, s.2.2.2.1, -1)
  else (s.1, s.2.1, s.2.2.1, s.2.2.2.1, if s.2.2.2.2 = -1 then e.1 else s.2.2.2.2)
def hear2 (r : R4) (s : St5) (e : Z3) : St5 := if s.1 = true then listenV r s e else s
def hear3 (r : R4) (s : St5) (e : Z3) : St5 := if s.1 = false ∧ r.1 ≤ e.2.1 then (true, w64 (s.2.1 + 1), e.1, e.1, s.2.2.2.2) else (s.1, s.2.1, s.2.2.1, e.1, s.2.2.2.2)
def hearV (r : R4) (s : St5) (e : Z3) : St5 := hear3 r (hear2 r (passV r s e.1) e) e
def ruleE (r : R4) : Int := if (1 ≤ r.1 ∧ r.1 ≤ 20000) ∧ (0 ≤ r.2.1 ∧ r.2.1 ≤ 20000) ∧ (0 ≤ r.2.2.1 ∧ r.2.2.1 ≤ 100000) ∧ (1 ≤ r.2.2.2 ∧ r.2.2.2 ≤ 100000) then (if r.2.1 > r.1 then 9 else 0) else 2
theorem ruleE_ok {r : R4} (h : ruleE r = 0) : 1 ≤ r.1 ∧ r.1 ≤ 20000 ∧ 0 ≤ r.2.1 ∧ r.2.1 ≤ r.1 ∧ 0 ≤ r.2.2.1 ∧ r.2.2.1 ≤ 100000 ∧ 1 ≤ r.2.2.2 ∧ r.2.2.2 ≤ 100000 := by
  unfold ruleE at h
  split at h
  · split at h <;> omega
  · omega
theorem rangeE_if (x a b : Int) : rangeE x a b = if a ≤ x ∧ x ≤ b then 0 else 2 := by unfold rangeE; split <;> split <;> omega
theorem cRule_is (r : R4) : FcRule [encR4 r] = some (ruleE r) := by
  refine FcRule_of _ _ _ _ ?_
  unfold tcRule
  simp only [rE_is, eIf_is, fE5_is, bindO_val, bif_dec, rangeE_if]
  unfold first5 ruleE
  by_cases h1 : 1 ≤ r.1 ∧ r.1 ≤ 20000 <;> by_cases h2 : 0 ≤ r.2.1 ∧ r.2.1 ≤ 20000 <;> by_cases h3 : 0 ≤ r.2.2.1 ∧ r.2.2.1 ≤ 100000 <;> by_cases h4 : 1 ≤ r.2.2.2 ∧ r.2.2.2 ≤ 100000 <;> by_cases h5 : r.2.1 > r.1 <;>
    simp only [h1, h2, h3, h4, h5, if_true, if_false, and_self, and_false, false_and, and_true, true_and, ne_eq, not_true_eq_false, Bool.false_eq_true] <;> rfl
theorem rRuE_is (r : R4) : FrRuE [encR4 r] = some (ruleE r) := by
  refine FrRuE_of _ _ _ _ ?_
  unfold trRuE ruleE
  simp only [bWi_is, bindO_val, bif_dec]
  by_cases h1 : 1 ≤ r.1 ∧ r.1 ≤ 20000 <;> by_cases h2 : 0 ≤ r.2.1 ∧ r.2.1 ≤ 20000 <;> by_cases h3 : 0 ≤ r.2.2.1 ∧ r.2.2.1 ≤ 100000 <;> by_cases h4 : 1 ≤ r.2.2.2 ∧ r.2.2.2 ≤ 100000 <;> by_cases h5 : r.2.1 > r.1 <;>
    simp only [h1, h2, h3, h4, h5, if_true, if_false, and_self, and_false, false_and, and_true, true_and]
def posV (s : St5) : Bool := if s.1 = true then decide (s.2.1 > 0 ∧ s.2.2.1 ≤ s.2.2.2.1 ∧ s.2.2.2.2 ≤ s.2.2.2.1 ∧ (s.2.2.2.2 = -1 ∨ s.2.2.1 ≤ s.2.2.2.2)) else decide (s.2.2.1 = 0 ∧ s.2.2.2.2 = -1)
def stateE (s : St5) : Int := if (0 ≤ s.2.1 ∧ s.2.1 ≤ 62500) ∧ (0 ≤ s.2.2.1 ∧ s.2.2.1 ≤ 1000000000000) ∧ (-1 ≤ s.2.2.2.1 ∧ s.2.2.2.1 ≤ 1000000000000) ∧ (-1 ≤ s.2.2.2.2 ∧ s.2.2.2.2 ≤ 1000000000000) then (if posV s = true then 0 else 3) else 2
theorem isPos_is (s : St5) : FisPos [encS5 s] = some (posV s) := by
  refine FisPos_of _ _ _ _ _ ?_
  obtain ⟨b, n, si, h, q⟩ := s
  unfold tisPos posV
  simp only [bif_dec, bif_eq]
  cases b with
  | true =>
    simp only [cond_true, if_true]
    by_cases hP : n > 0 ∧ si ≤ h ∧ q ≤ h ∧ (q = -1 ∨ si ≤ q)
    · rw [decide_eq_true hP]
      repeat' split
      all_goals first | rfl | (exfalso; omega)
    · rw [decide_eq_false hP]
      repeat' split
      all_goals first | rfl | (exfalso; omega)
  | false =>
    simp only [cond_false, Bool.false_eq_true, if_false]
    by_cases h1 : si = 0 <;> by_cases h2 : q = -1 <;> simp [h1, h2]
theorem cState_is (s : St5) : FcState [encS5 s] = some (stateE s) := by
  refine FcState_of _ _ _ _ _ ?_
  have hp := isPos_is s
  obtain ⟨b, n, si, h, q⟩ := s
  unfold tcState stateE
  cases b with
  | true =>
    have hp' : FisPos [.agg [.bool true, .int .i64 n, .int .i64 si, .int .i64 h, .int .i64 q]] = some (posV (true, n, si, h, q)) := hp
    simp only [cond_true, rE_is, eIf_is, fE5_is, hp', bindO_val, rangeE_if]
    cases posV (true, n, si, h, q) <;> by_cases h1 : 0 ≤ n ∧ n ≤ 62500 <;> by_cases h2 : 0 ≤ si ∧ si ≤ 1000000000000 <;> by_cases h3 : -1 ≤ h ∧ h ≤ 1000000000000 <;> by_cases h4 : -1 ≤ q ∧ q ≤ 1000000000000 <;>
      simp only [first5, h1, h2, h3, h4, cond_true, cond_false, if_true, if_false, and_self, and_false, false_and, and_true, true_and, ne_eq, not_true_eq_false, Bool.false_eq_true] <;> rfl
  | false =>
    have hp' : FisPos [.agg [.bool false, .int .i64 n, .int .i64 si, .int .i64 h, .int .i64 q]] = some (posV (false, n, si, h, q)) := hp
    simp only [cond_false, rE_is, eIf_is, fE5_is, hp', bindO_val, rangeE_if]
    cases posV (false, n, si, h, q) <;> by_cases h1 : 0 ≤ n ∧ n ≤ 62500 <;> by_cases h2 : 0 ≤ si ∧ si ≤ 1000000000000 <;> by_cases h3 : -1 ≤ h ∧ h ≤ 1000000000000 <;> by_cases h4 : -1 ≤ q ∧ q ≤ 1000000000000 <;>
      simp only [first5, h1, h2, h3, h4, cond_true, cond_false, if_true, if_false, and_self, and_false, false_and, and_true, true_and, ne_eq, not_true_eq_false, Bool.false_eq_true] <;> rfl
def eventE (e : Z3) : Int := both (rangeE e.1 0 1000000000000) (endE (-20000) 20000 e.2.1 e.2.2)
theorem eventE_ok {e : Z3} (h : eventE e = 0) : 0 ≤ e.1 ∧ e.1 ≤ 1000000000000 ∧ -20000 ≤ e.2.1 ∧ e.2.1 ≤ e.2.2 ∧ e.2.2 ≤ 20000 := by
  obtain ⟨h1, h2⟩ := both_nil h
  have := rangeE_ok h1
  have := endE_ok h2
  omega
theorem evE_is (e : Z3) : FevE [encE3 e] = some (eventE e) := by
  refine FevE_of _ _ _ ?_
  unfold tevE
  simp only [rE_is, eeA_is, fE2_is, bindO_val]
  rfl
theorem rEvE_is (e : Z3) : FrEvE [encE3 e] = some (eventE e) := by
  refine FrEvE_of _ _ _ ?_
  obtain ⟨a, lo, hi⟩ := e
  unfold trEvE eventE both
  simp only [bTick_is, rIsL_is, bindO_val, bif_dec, rangeE_if, endE_of]
  by_cases h1 : 0 ≤ a ∧ a ≤ 1000000000000 <;> by_cases h2 : -20000 ≤ lo ∧ lo ≤ 20000 <;> by_cases h3 : -20000 ≤ hi ∧ hi ≤ 20000 <;> by_cases h4 : lo > hi <;> simp [h1, h2, h3, h4]
end Gv

/- The state after an event; the program's and the specification's. -/
namespace Gv
open Go
set_option maxRecDepth 100000
abbrev flat6 (s : St5) (e : Int) : Bool × Int × Int × Int × Int × Int := (s.1, s.2.1, s.2.2.1, s.2.2.2.1, s.2.2.2.2, e)
abbrev zero6 (e : Int) : Bool × Int × Int × Int × Int × Int := (false, 0, 0, 0, 0, e)
def nextE (r : R4) (s : St5) (e : Z3) : Int := first4 (ruleE r) (stateE s) (eventE e) (if e.1 ≤ s.2.2.2.1 then 9 else 0)
def nextV (r : R4) (s : St5) (e : Z3) : Bool × Int × Int × Int × Int × Int :=
  if nextE r s e ≠ 0 then zero6 (nextE r s e) else if 62500 < (hearV r s e).2.1 then zero6 15 else flat6 (hearV r s e) 0
theorem first4_nine (a b c : Int) : first4 a b c 9 ≠ 0 := by
  unfold first4
  split
  · assumption
  · split
    · assumption
    · split
      · assumption
      · decide
theorem next_is (r : R4) (s : St5) (e : Z3) : Fnext [encR4 r, encS5 s, encE3 e] = some (nextV r s e) := by
  refine Fnext_of _ _ _ _ _ _ _ _ _ _ _ _ ?_
  have hr := cRule_is r
  have he := evE_is e
  have hs := cState_is s
  obtain ⟨b, n, si, h, q⟩ := s
  obtain ⟨ra, cl, ho, ti⟩ := r
  obtain ⟨at_, lo, hi⟩ := e
  unfold tnext nextV nextE
  simp only [encR4, encE3] at hr he
  cases b with
  | true =>
    have hs' : FcState [.agg [.bool true, .int .i64 n, .int .i64 si, .int .i64 h, .int .i64 q]] = some (stateE (true, n, si, h, q)) := hs
    simp only [cond_true, hr, hs', he, bindO_val, eIf_is, fE4_is, bif_dec, bif_ne, bif_eq, if_true, Bool.false_eq_true, if_false]
    generalize ruleE (ra, cl, ho, ti) = x
    generalize stateE (true, n, si, h, q) = y
    generalize eventE (at_, lo, hi) = z
    by_cases hord : at_ ≤ h
    · simp only [if_pos hord, first4_nine, if_false, ne_eq, not_false_eq_true, if_true]
    · simp only [if_neg hord]
      by_cases herr : first4 x y z 0 = 0
      · simp only [herr, ne_eq, not_true_eq_false, if_true, if_false]
        unfold hearV hear3 hear2 listenV passV
        by_cases h0 : w64 (at_ - h) > ti
        · by_cases h5 : lo ≥ ra <;> by_cases h6 : w64 (n + 1) > 62500 <;> by_cases h7 : n > 62500 <;> simp [-Int.sub_self, h0, h5, h6, h7]
        · by_cases h1 : hi ≥ cl
          · by_cases h7 : n > 62500 <;> simp [-Int.sub_self, h0, h1, h7]
          · by_cases h2 : q = -1
            · by_cases h3 : w64 (at_ - at_) ≥ ho <;> by_cases h5 : lo ≥ ra <;> by_cases h6 : w64 (n + 1) > 62500 <;> by_cases h7 : n > 62500 <;> simp [-Int.sub_self, h0, h1, h2, h3, h5, h6, h7]
            · by_cases h4 : w64 (at_ - q) ≥ ho <;> by_cases h5 : lo ≥ ra <;> by_cases h6 : w64 (n + 1) > 62500 <;> by_cases h7 : n > 62500 <;> simp [-Int.sub_self, h0, h1, h2, h4, h5, h6, h7]
      · simp only [herr, ne_eq, not_false_eq_true, if_true, if_false]
  | false =>
    have hs' : FcState [.agg [.bool false, .int .i64 n, .int .i64 si, .int .i64 h, .int .i64 q]] = some (stateE (false, n, si, h, q)) := hs
    simp only [cond_false, hr, hs', he, bindO_val, eIf_is, fE4_is, bif_dec, bif_ne, bif_eq, if_true, Bool.false_eq_true, if_false]
    generalize ruleE (ra, cl, ho, ti) = x
    generalize stateE (false, n, si, h, q) = y
    generalize eventE (at_, lo, hi) = z
    by_cases hord : at_ ≤ h
    · simp only [if_pos hord, first4_nine, if_false, ne_eq, not_false_eq_true, if_true]
    · simp only [if_neg hord]
      by_cases herr : first4 x y z 0 = 0
      · simp only [herr, ne_eq, not_true_eq_false, if_true, if_false]
        unfold hearV hear3 hear2 listenV passV
        by_cases h5 : lo ≥ ra <;> by_cases h6 : w64 (n + 1) > 62500 <;> by_cases h7 : n > 62500 <;> simp [-Int.sub_self, h5, h6, h7]
      · simp only [herr, ne_eq, not_false_eq_true, if_true, if_false]
end Gv

/- The state at a tick; the program's and the specification's. -/
namespace Gv
open Go
set_option maxRecDepth 100000
def stepV (r : R4) (t : Int) (s : St5) (e : Z3) : St5 := if e.1 ≤ t then hearV r s e else s
theorem sAt_step (F : FnT) (N : QO) (E : EO) (L0 : Q → Option YsAt_0) (r : R4) (t : Int) (l : List Z3) (s : St5) (e : Z3) (i : Nat) (hi : i < l.length) (he : l[i]? = some e) :
    BsAt_0b F N E L0 t l.length (encT l) l.length i r.1 r.2.1 r.2.2.1 r.2.2.2 s.1 s.2.1 s.2.2.1 s.2.2.2.1 s.2.2.2.2 =
    N (TsAt_0b t l.length (encT l) l.length (w64 (i + 1)) r.1 r.2.1 r.2.2.1 r.2.2.2 (stepV r t s e).1 (stepV r t s e).2.1 (stepV r t s e).2.2.1 (stepV r t s e).2.2.2.1 (stepV r t s e).2.2.2.2) := by
  unfold BsAt_0b
  rw [bif_pos (by omega), bif_pos (by omega)]
  simp only [Int.toNat_natCast, encT_0, encT_1, encT_2, he, Option.map_some, intC_int, bindO_val]
  obtain ⟨b, n, si, h, q⟩ := s
  obtain ⟨ra, cl, ho, ti⟩ := r
  obtain ⟨at_, lo, hi⟩ := e
  unfold stepV
  by_cases ht : at_ ≤ t
  · unfold hearV hear3 hear2 listenV passV
    cases b with
    | true =>
      by_cases h0 : w64 (at_ - h) > ti
      · by_cases h5 : lo ≥ ra <;> simp [-Int.sub_self, bif_eq, ht, h0, h5]
      · by_cases h1 : hi ≥ cl
        · simp [-Int.sub_self, bif_eq, ht, h0, h1]
        · by_cases h2 : q = -1
          · by_cases h3 : w64 (at_ - at_) ≥ ho <;> by_cases h5 : lo ≥ ra <;> simp [-Int.sub_self, bif_eq, ht, h0, h1, h2, h3, h5]
          · by_cases h4 : w64 (at_ - q) ≥ ho <;> by_cases h5 : lo ≥ ra <;> simp [-Int.sub_self, bif_eq, ht, h0, h1, h2, h4, h5]
    | false =>
      by_cases h5 : lo ≥ ra <;> simp [-Int.sub_self, bif_eq, ht, h5]
  · simp [ht]
theorem sAt_loop (r : R4) (t : Int) (l : List Z3) (hl : l.length < 1000) : ∀ i, i ≤ l.length → ∀ s : St5,
    RsAt_0 (TsAt_0b t l.length (encT l) l.length i r.1 r.2.1 r.2.2.1 r.2.2.2 s.1 s.2.1 s.2.2.1 s.2.2.2.1 s.2.2.2.2) =
    exO (XsAt_0a (t, r.1, r.2.1, r.2.2.1, r.2.2.2, (l.drop i).foldl (stepV r t) s)) := by
  refine up_ind _ ?_ ?_
  · intro s
    refine RsAt_0b_of _ _ _ _ _ _ _ _ _ _ _ _ _ _ ?_
    unfold BsAt_0b
    rw [bif_neg (by omega), List.drop_length]
    rfl
  · intro i hi ih s
    obtain ⟨e, he, hd⟩ := get_drop hi
    refine RsAt_0b_of _ _ _ _ _ _ _ _ _ _ _ _ _ _ ?_
    rw [sAt_step _ _ _ _ r t l s e i hi he, hd, w64_in (by omega)]
    exact ih _
def st0 : St5 := (false, 0, 0, -1, -1)
theorem sAt_start (r : R4) (t : Int) (l : List Z3) (hl : l.length < 1000) (u : R4) :
    RsAt_0 (TsAt_0a t l.length (encT l) l.length u.1 u.2.1 u.2.2.1 u.2.2.2 r.1 r.2.1 r.2.2.1 r.2.2.2) = exO (XsAt_0a (t, r.1, r.2.1, r.2.2.1, r.2.2.2, l.foldl (stepV r t) st0)) := by
  refine RsAt_0a_of _ _ _ _ _ _ _ _ _ _ _ _ ?_
  unfold BsAt_0a
  cases l with
  | nil => rfl
  | cons e l =>
    have ih := sAt_loop r t (e :: l) hl 1 (by simp) (stepV r t st0 e)
    have h0 : (encT (e :: l))[0]? = some (PV.int .i64 e.1) := encT_0 (e :: l) 0
    have h1 : (encT (e :: l))[1]? = some (PV.int .i64 e.2.1) := encT_1 (e :: l) 0
    have h2 : (encT (e :: l))[2]? = some (PV.int .i64 e.2.2) := encT_2 (e :: l) 0
    rw [bif_pos (by simp only [List.length_cons]; omega), bif_pos (by simp only [List.length_cons]; omega)]
    simp only [h0, h1, h2, intC_int, bindO_val]
    rw [List.foldl_cons]
    obtain ⟨ra, cl, ho, ti⟩ := r
    obtain ⟨at_, lo, hi⟩ := e
    have e1 : w64 1 = 1 := w64_in (by omega)
    by_cases ht : at_ ≤ t
    · by_cases h5 : ra ≤ lo
      · have es : stepV (ra, cl, ho, ti) t st0 (at_, lo, hi) = (true, 1, at_, at_, -1) := by
          simp [stepV, ht, hearV, hear3, hear2, passV, st0, h5, e1]
        rw [es] at ih ⊢
        rw [bif_pos ht, bif_pos (show lo ≥ ra from h5)]
        exact ih
      · have es : stepV (ra, cl, ho, ti) t st0 (at_, lo, hi) = (false, 0, 0, at_, -1) := by
          simp [stepV, ht, hearV, hear3, hear2, passV, st0, h5]
        rw [es] at ih ⊢
        rw [bif_pos ht, bif_neg (show ¬ lo ≥ ra from h5)]
        exact ih
    · have es : stepV (ra, cl, ho, ti) t st0 (at_, lo, hi) = st0 := by simp [stepV, ht]
      rw [es] at ih ⊢
      rw [bif_neg ht]
      exact ih
def evF : List Z3 → Int → Nat → Option (Int × Int)
  | [], _, _ => none
  | e :: l, b, i => if eventE e ≠ 0 then some ((i : Int), eventE e) else if e.1 ≤ b then some ((i : Int), 9) else evF l e.1 (i + 1)
def evsV (l : List Z3) : Int × Int := if 40 < l.length then (0, 8) else (evF l (-1) 0).getD (0, 0)
theorem cE_loop (l : List Z3) (hl : l.length < 1000) : ∀ i, i ≤ l.length → ∀ b : Int,
    ∃ c : Int, RcE_1210000000 (TcE_1210000000a l.length (encT l) l.length i b) = exO (XLcE_1210000000.fn (match evF (l.drop i) b i with | some p => .inl (p.1, p.2, c) | none => .inr c)) := by
  refine up_ind _ ?_ ?_
  · intro b
    refine ⟨b, RcE_1210000000a_of _ _ _ _ _ ?_⟩
    unfold BcE_1210000000a
    rw [bif_neg (by omega), List.drop_length]
    rfl
  · intro i hi ih b
    obtain ⟨e, he, hd⟩ := get_drop hi
    obtain ⟨c, hc⟩ := ih e.1
    have go : ∀ c : Int, BcE_1210000000a (Fn env) RcE_1210000000 exO LcE_1210000000 l.length (encT l) l.length i b = (if both (eventE e) (if e.1 ≤ b then 9 else 0) = 0 then RcE_1210000000 (TcE_1210000000a l.length (encT l) l.length ((i + 1 : Nat) : Int) e.1) else exO (XcE_1210000000a ((i : Int), both (eventE e) (if e.1 ≤ b then 9 else 0), e.1))) := by
      intro c
      unfold BcE_1210000000a
      rw [bif_pos (by omega), bif_pos (by omega)]
      have hev : FevE [.agg [.int .i64 e.1, .int .i64 e.2.1, .int .i64 e.2.2]] = some (eventE e) := evE_is e
      simp only [Int.toNat_natCast, encT_0, encT_1, encT_2, he, Option.map_some, intC_int, bindO_val, hev, eIf_is, fE2_is, bif_dec, bif_ne]
      rw [w64_in (by omega)]
      by_cases h1 : e.1 ≤ b
      · simp only [h1, if_true]; rfl
      · simp only [h1, if_false, Bool.false_eq_true]; rfl
    rw [hd]
    simp only [evF]
    by_cases h1 : eventE e = 0
    · by_cases h2 : e.1 ≤ b
      · refine ⟨e.1, RcE_1210000000a_of _ _ _ _ _ ?_⟩
        rw [go 0]
        simp only [h1, h2, both, ne_eq, not_true_eq_false, if_true, if_false]
        rfl
      · refine ⟨c, RcE_1210000000a_of _ _ _ _ _ ?_⟩
        rw [go 0]
        simp only [h1, h2, both, ne_eq, not_true_eq_false, if_true, if_false]
        exact hc
    · refine ⟨e.1, RcE_1210000000a_of _ _ _ _ _ ?_⟩
      rw [go 0]
      simp only [h1, both, ne_eq, not_false_eq_true, if_true, if_false]
      rfl
theorem cE_is (l : List Z3) (hl : l.length < 1000) : FcE [.list l.length (encT l)] = some (evsV l) := by
  refine FcE_of _ _ ?_
  unfold tcE evsV
  by_cases hc : 40 < l.length
  · rw [bif_pos (by omega), if_pos hc]
  · rw [bif_neg (by omega), if_neg hc]
    obtain ⟨c, h⟩ := cE_loop l hl 0 (by omega) (-1)
    have h' : LcE_1210000000 (TcE_1210000000a l.length (encT l) l.length 0 (-1)) = _ := lpO_of IcE_1210000000 XIcE_1210000000 h
    rw [List.drop_zero] at h'
    rw [h']
    cases evF l (-1) 0 <;> rfl
def evsE (l : List Z3) : Int := (evsV l).2
theorem evsE_is (l : List Z3) (hl : l.length < 1000) : FevsE [.list l.length (encT l)] = some (evsE l) := by
  refine FevsE_of _ _ ?_
  unfold tevsE
  simp only [cE_is l hl, bindO_val]
  rfl
def sAtE (r : R4) (l : List Z3) (t : Int) : Int := first3 (ruleE r) (evsE l) (rangeE t 0 1000000000000)
def atV (r : R4) (l : List Z3) (t : Int) : St5 := passV r (l.foldl (stepV r t) st0) t
theorem sAt_is (r : R4) (l : List Z3) (t : Int) (hl : l.length < 1000) : FsAt [encR4 r, .list l.length (encT l), .int .i64 t] = some (if sAtE r l t = 0 then flat6 (atV r l t) 0 else zero6 (sAtE r l t)) := by
  refine FsAt_of _ _ _ _ _ _ _ ?_
  have hr := cRule_is r
  have hst := LsAt_0a_of (sAt_start r t l hl r)
  obtain ⟨ra, cl, ho, ti⟩ := r
  simp only [encR4] at hr
  unfold tsAt
  simp only [hr, evsE_is l hl, rE_is, fE3_is, bindO_val, bif_ne]
  show (if sAtE (ra, cl, ho, ti) l t = 0 then _ else _) = _
  by_cases he : sAtE (ra, cl, ho, ti) l t = 0
  · rw [if_pos he, if_pos he]
    unfold sAtE at he
    rw [hst]
    simp only [bindO_val]
    unfold atV
    generalize l.foldl (stepV (ra, cl, ho, ti) t) st0 = s
    obtain ⟨b, n, si, h, q⟩ := s
    unfold passV
    cases b with
    | true => by_cases h0 : w64 (t - h) > ti <;> simp [h0]
    | false => simp
  · rw [if_neg he, if_neg he]
    rfl
end Gv

/- Events' errors and the state at a tick, by the specification; copies and comparisons. -/
namespace Gv
open Go
set_option maxRecDepth 100000
theorem rCE_loop (l : List Z3) (hl : l.length < 1000) : ∀ i, i ≤ l.length → ∀ b : Int, (∀ e, i = 0 ∨ l[i - 1]? = some e → i = 0 ∨ b = e.1) → (i = 0 → b = -1) →
    RrCE_0 (TrCE_0a l.length (encT l) i) = exO (XLrCE_0.fn (sumE (evF (l.drop i) b i))) := by
  refine up_ind _ ?_ ?_
  · intro b _ _
    refine RrCE_0a_of _ _ _ ?_
    unfold BrCE_0a
    rw [bif_neg (by omega), List.drop_length]
    rfl
  · intro i hi ih b hb hb0
    obtain ⟨e, he, hd⟩ := get_drop hi
    have ih := ih e.1 (fun e' h => by
      rcases h with h | h
      · omega
      · rw [Nat.add_sub_cancel, he] at h
        exact .inr (congrArg Prod.fst (Option.some.inj h))) (fun h => by omega)
    refine RrCE_0a_of _ _ _ ?_
    unfold BrCE_0a
    rw [bif_pos (by omega), bif_pos (by omega)]
    have hev : FrEvE [.agg [.int .i64 e.1, .int .i64 e.2.1, .int .i64 e.2.2]] = some (eventE e) := rEvE_is e
    simp only [Int.toNat_natCast, encT_0, encT_1, encT_2, encT_0', he, Option.map_some, intC_int, bindO_val, hev, bif_ne]
    rw [hd]
    simp only [evF]
    by_cases h1 : eventE e = 0
    · rw [if_pos h1]
      simp only [h1, ne_eq, not_true_eq_false, if_false]
      by_cases h0 : i = 0
      · subst h0
        rw [bif_neg (by omega), w64_in (by omega)]
        have : ¬ e.1 ≤ b := by rw [hb0 rfl]; have := (eventE_ok h1).1; omega
        rw [if_neg this]
        exact ih
      · have hp : i - 1 < l.length := by omega
        have hw : w64 ((i : Int) - 1) = ((i - 1 : Nat) : Int) := by rw [w64_in (by omega)]; omega
        have hg : l[i - 1]? = some l[i - 1] := List.getElem?_eq_getElem hp
        have hbe : b = l[i - 1].1 := by
          rcases hb _ (.inr hg) with h | h
          · exact absurd h h0
          · exact h
        rw [bif_pos (by omega), bif_pos (by omega), hw, bif_pos (by omega)]
        simp only [Int.toNat_natCast, encT_0', hg, Option.map_some, intC_int, bindO_val]
        by_cases h2 : e.1 ≤ l[i - 1].1
        · rw [bif_pos h2, if_pos (by rw [hbe]; exact h2)]
          rfl
        · rw [bif_neg h2, if_neg (by rw [hbe]; exact h2), w64_in (by omega)]
          exact ih
    · rw [if_neg h1]
      simp only [h1, ne_eq, not_false_eq_true, if_true]
      rfl
theorem rCE_is (l : List Z3) (hl : l.length < 1000) : FrCE [.list l.length (encT l)] = some (evsV l) := by
  refine FrCE_of _ _ ?_
  unfold trCE evsV
  by_cases hc : 40 < l.length
  · rw [bif_pos (by omega), if_pos hc]
  · rw [bif_neg (by omega), if_neg hc]
    have h := rCE_loop l hl 0 (by omega) (-1) (fun _ _ => .inl rfl) (fun _ => rfl)
    have h' : LrCE_0 (TrCE_0a l.length (encT l) 0) = _ := lpO_of IrCE_0 XIrCE_0 h
    rw [List.drop_zero] at h'
    rw [h']
    cases evF l (-1) 0 <;> rfl
theorem rEsE_is (l : List Z3) (hl : l.length < 1000) : FrEsE [.list l.length (encT l)] = some (evsE l) := by
  refine FrEsE_of _ _ ?_
  unfold trEsE
  simp only [rCE_is l hl, bindO_val]
  rfl
theorem rCopE_is (l : List Z3) (hl : l.length < 1000) : FrCopE [.list l.length (encT l)] = some (l.length, encT l) := by
  refine FrCopE_of _ _ ?_
  unfold trCopE
  by_cases h : l.length = 0
  · have : l = [] := List.length_eq_zero_iff.1 h
    subst this
    rfl
  · rw [bif_neg h, bif_pos (encT_len l), bif_pos ⟨rfl, by unfold big; omega⟩, bif_pos rfl]
    simp
theorem fewE_is (l : List Z3) : FfewE [.list l.length (encT l)] = some (decide (l.length ≤ 42)) := by
  refine FfewE_of _ _ ?_
  unfold tfewE
  by_cases h : l.length ≤ 42
  · rw [bif_pos (by omega), decide_eq_true h]
  · rw [bif_neg (by omega), decide_eq_false h]
def Nm (k : Int) (s : St5) : Prop := 0 ≤ s.2.1 ∧ s.2.1 ≤ k
theorem hear2_nm (r : R4) (s : St5) (e : Z3) : (hear2 r (passV r s e.1) e).2.1 = s.2.1 := by
  unfold hear2 listenV passV
  repeat' split
  all_goals rfl
theorem hearV_nm {r : R4} {s : St5} {e : Z3} {k : Int} (h : Nm k s) (hk : k < 1000000) : Nm (k + 1) (hearV r s e) := by
  have h2 := hear2_nm r s e
  unfold Nm at *
  unfold hearV hear3
  split
  · rw [h2, w64_in (by omega)]
    dsimp only
    omega
  · simp only [h2]
    omega
theorem hearV_at (r : R4) (s : St5) (e : Z3) : (hearV r s e).2.2.2.1 = e.1 := by
  unfold hearV hear3
  split <;> rfl
def Asc : List Z3 → Int → Prop
  | [], _ => True
  | e :: l, b => b < e.1 ∧ eventE e = 0 ∧ Asc l e.1
theorem evF_asc : ∀ {l : List Z3} {b : Int} {i : Nat}, evF l b i = none → Asc l b
  | [], _, _, _ => trivial
  | e :: l, b, i, h => by
    simp only [evF] at h
    split at h
    · cases h
    · rename_i h1
      split at h
      · cases h
      · rename_i h2
        exact ⟨by omega, by simpa using h1, evF_asc h⟩
theorem evsE_ok {l : List Z3} (h : evsE l = 0) : l.length ≤ 40 ∧ Asc l (-1) := by
  unfold evsE evsV at h
  split at h
  · simp at h
  · rename_i hl
    refine ⟨by omega, ?_⟩
    cases hf : evF l (-1) 0 with
    | none => exact evF_asc hf
    | some p =>
      exfalso
      rw [hf] at h
      have : ∀ (l : List Z3) (b : Int) (i : Nat) (p : Int × Int), evF l b i = some p → p.2 ≠ 0 := by
        intro l
        induction l with
        | nil => intro b i p h; simp [evF] at h
        | cons e l ih =>
          intro b i p h
          simp only [evF] at h
          split at h
          · rename_i hne
            simp at h; subst h; exact hne
          · split at h
            · simp at h; subst h; show (9 : Int) ≠ 0; decide
            · exact ih _ _ _ h
      exact this _ _ _ _ hf h
end Gv
