/- CloudSpans: whatever the numbers, the constants and the shares, the law answers true. -/
import Derived.Test.YtkbahledgljaoaaGreatZQ3
import Derived.Test.YtkbahledgljaoaaGreatZC9
import Derived.Test.YtkbahledgljaoaaGreatA0
namespace Gv
open Go
set_option maxRecDepth 100000
theorem first4_both {a b c x d : Int} (h : both a (both b c) = d) (hd : d ≠ 0) : first4 a b c x = d := by
  unfold both at h
  unfold first4
  by_cases h1 : a = 0 <;> by_cases h2 : b = 0 <;> by_cases h3 : c = 0 <;> simp_all
theorem first4_last {a b c x : Int} (h : both a (both b c) = 0) : first4 a b c x = x := by
  unfold both at h
  unfold first4
  by_cases h1 : a = 0 <;> by_cases h2 : b = 0 <;> by_cases h3 : c = 0 <;> simp_all
theorem refProfErr_is (l : List Int) (hl : l.length < 4294967296) : Fr_ProfileErr [.list l.length (encI l)] = some (profE l) := by
  refine Fr_ProfileErr_of _ _ ?_
  unfold tr_ProfileErr
  simp only [refProf_is l hl, bindO_val]
  rfl
def spaE (l : List Int) (c d : Int) : Int := both (profE l) (both (rangeE c 1 1000000) (rangeE d 1 1000000))
theorem undoneErr_is {l : List Int} (hl : l.length < 4294967296) {c d : Int} (e : Int) (he : e ≠ 0) (h : first4 (profE l) (rangeE c 1 1000000) (rangeE d 1 1000000) (if c > d then 9 else 0) = e) :
    Fcloud_UndoneIn [.list l.length (encI l), .agg [.int .i64 c, .int .i64 d]] = some ((0, []), e) := by
  refine Fcloud_UndoneIn_of _ _ _ _ ?_
  unfold tcloud_UndoneIn
  have c63 := profileError_is l hl
  simp only [c63, constantError_is, bindO_val]
  by_cases hcd : c > d
  · rw [if_pos hcd] at h
    rw [bif_pos hcd]
    simp only [errorIf_is, if_true, firstError4_is, bindO_val, h]
    rw [bif_ne, if_neg he]
  · rw [if_neg hcd] at h
    rw [bif_neg hcd]
    simp only [errorIf_is, Bool.false_eq_true, if_false, firstError4_is, bindO_val, h]
    rw [bif_ne, if_neg he]
theorem undoneBrk_is {l : List Int} (h0 : profE l = 0) {c d : Int} (hc : 1 ≤ c ∧ c ≤ 1000000) (hd : 1 ≤ d ∧ d ≤ 1000000) (hcd : c ≤ d) (h : brkE l c ≠ 0) :
    Fcloud_UndoneIn [.list l.length (encI l), .agg [.int .i64 c, .int .i64 d]] = some ((0, []), brkE l c) := by
  obtain ⟨b1, b2, hv⟩ := prof_ok h0
  refine Fcloud_UndoneIn_of _ _ _ _ ?_
  unfold tcloud_UndoneIn
  have c63 := profileError_is l (by omega)
  have c65 := break_is b1 (by omega) hv (c := c) (by omega)
  have hfe : first4 (profE l) (rangeE c 1 1000000) (rangeE d 1 1000000) 0 = 0 := by rw [h0, rangeE_in hc, rangeE_in hd]; rfl
  simp only [c63, constantError_is, bindO_val]
  rw [bif_neg (by omega)]
  simp only [errorIf_is, Bool.false_eq_true, if_false, firstError4_is, bindO_val, hfe, bne_self_eq_false, cond_false, c65]
  rw [bif_ne, if_neg h]
theorem first_half {l : List Int} (hl : l.length ≤ 26) (c d : Int) :
    (∃ e, e ≠ 0 ∧ spaE l c d = e ∧ Fcloud_UndoneIn [.list l.length (encI l), .agg [.int .i64 c, .int .i64 d]] = some ((0, []), e)) ∨
    (spaE l c d = 0 ∧ c > d ∧ Fcloud_UndoneIn [.list l.length (encI l), .agg [.int .i64 c, .int .i64 d]] = some ((0, []), 9)) ∨
    (spaE l c d = 0 ∧ ¬ c > d ∧ ∃ e, e ≠ 0 ∧ Fr_BreakErr [.list l.length (encI l), .int .i64 c] = some e ∧ Fcloud_UndoneIn [.list l.length (encI l), .agg [.int .i64 c, .int .i64 d]] = some ((0, []), e)) ∨
    (spaE l c d = 0 ∧ ¬ c > d ∧ Fr_BreakErr [.list l.length (encI l), .int .i64 c] = some 0 ∧ ∃ n cs, Fcloud_UndoneIn [.list l.length (encI l), .agg [.int .i64 c, .int .i64 d]] = some ((n, cs), 0) ∧
      Fr_Spans [.list l.length (encI l), .agg [.int .i64 c, .int .i64 d]] = some (n, cs) ∧ Fr_SameSpans [.list n cs, .list n cs] = some true) := by
  by_cases h : spaE l c d = 0
  · obtain ⟨h0, hb⟩ := both_nil h
    obtain ⟨h1, h2⟩ := both_nil hb
    have hc := rangeE_ok h1
    have hd := rangeE_ok h2
    obtain ⟨b1, b2, hv⟩ := prof_ok h0
    by_cases hcd : c > d
    · exact .inr (.inl ⟨h, hcd, undoneErr_is (by omega) 9 (by decide) (by rw [first4_last h, if_pos hcd])⟩)
    · have hr := refBreak_is b1 (by omega) hv (c := c) (by omega)
      by_cases hk : brkE l c = 0
      · have hs := same_is (spnL l c d) (by rw [spnL_len]; omega)
        rw [spnL_len] at hs
        rw [hk] at hr
        exact .inr (.inr (.inr ⟨h, hcd, hr, _, _, undoneIn_is h0 hc hd (by omega) hk, refSpans_is h0 hc hd (by omega) hk, hs⟩))
      · exact .inr (.inr (.inl ⟨h, hcd, _, hk, hr, undoneBrk_is h0 hc hd (by omega) hk⟩))
  · exact .inl ⟨_, h, rfl, undoneErr_is (by omega) _ h (first4_both rfl h)⟩
theorem second_half {q : List ZZ} (hq : q.length ≤ 26) (hv : OkD q) (c : Int) :
    (∃ e, e ≠ 0 ∧ attE q c = e ∧ Fcloud_Attenuated [.list q.length (encG q), .int .i64 c] = some ((0, []), e)) ∨
    (attE q c = 0 ∧ Fcloud_Attenuated [.list q.length (encG q), .int .i64 c] = some ((0, []), 8) ∧ Fr_Signals [.list q.length (encG q), .int .i64 c] = some ((0, []), false)) ∨
    (attE q c = 0 ∧ ∃ n cs, Fcloud_Attenuated [.list q.length (encG q), .int .i64 c] = some ((n, cs), 0) ∧ Fr_Signals [.list q.length (encG q), .int .i64 c] = some ((n, cs), true) ∧ Fb_Fracs [.list n cs, .list n cs] = some true) := by
  have ha := attenuatedA_is q (by omega) hv c
  unfold attR at ha
  by_cases h : attE q c = 0
  · rw [if_neg (by simp [h])] at ha
    obtain ⟨h1, h2⟩ := both_nil h
    have hs := refSignals_is h1 (rangeE_ok h2)
    cases hg : sigsL q (c, 1) with
    | none =>
      rw [hg] at ha hs
      exact .inr (.inl ⟨h, ha, hs⟩)
    | some out =>
      rw [hg] at ha hs
      have hlen := sigsL_len _ _ _ hg
      have hf := fracs_is out (by omega)
      rw [← hlen] at ha
      rw [hlen] at ha
      refine .inr (.inr ⟨h, out.length, encG out, ?_, hs, hf⟩)
      rw [hlen]
      exact ha
  · rw [if_pos h] at ha
    exact .inl ⟨_, h, rfl, ha⟩
theorem ne_false' {e : Int} (h : e ≠ 0) : (e == 0) = false := by simp [h]
theorem ne_true' {e : Int} (h : e ≠ 0) : (e != 0) = true := by simp [h]
theorem spansLaw (l : List Int) (c d : Int) (q : List ZZ) (hv : OkD q) : Fw_CloudSpans [.list l.length (encI l), .agg [.int .i64 c, .int .i64 d], .list q.length (encG q)] = some true := by
  refine Fw_CloudSpans_of _ _ _ _ _ _ ?_
  unfold tw_CloudSpans
  simp only [awake_is, bindO_val, cond_true, few_is]
  by_cases hl : l.length ≤ 26
  · rw [bif_pos hl]
    by_cases hq : q.length > 26
    · rw [bif_pos (by omega)]
    · rw [bif_neg (by omega)]
      have c11 := copyI_is l (by omega)
      have c25 := copyF_is q (by omega)
      have c26 := refProfErr_is l (by omega)
      have c29 := refShErr_is q (by omega) hv
      have hD : both (profE l) (both (rangeE c 1 1000000) (rangeE d 1 1000000)) = spaE l c d := rfl
      have hE : both (chkS q).2 (rangeE c 1 1000000) = attE q c := rfl
      rcases first_half hl c d with ⟨e, h1, h2, h3⟩ | ⟨h2, hcd, h3⟩ | ⟨h2, hcd, e, h1, h4, h3⟩ | ⟨h2, hcd, h4, n, cs, h3, h5, h6⟩ <;>
      rcases second_half (q := q) (by omega) hv c with ⟨g, k1, k2, k3⟩ | ⟨k2, k3, k4⟩ | ⟨k2, m, ms, k3, k4, k5⟩
      · have e1 := ne_false' h1; have e2 := ne_true' h1; have e3 := ne_false' k1; have e4 := ne_true' k1
        simp only [c11, c25, c26, c29, h3, k3, refConstant_is, both_is, bindO_val, hD, hE, h2, k2, cond_true, cond_false, bne_self_eq_false, beq_self_eq_true, e1, e2, e3, e4]
        rfl
      · have e1 := ne_false' h1; have e2 := ne_true' h1
        simp only [c11, c25, c26, c29, h3, k3, refConstant_is, both_is, bindO_val, hD, hE, h2, k2, cond_true, cond_false, bne_self_eq_false, beq_self_eq_true, e1, e2, k4]
        rfl
      · have e1 := ne_false' h1; have e2 := ne_true' h1
        simp only [c11, c25, c26, c29, h3, k3, refConstant_is, both_is, bindO_val, hD, hE, h2, k2, cond_true, cond_false, bne_self_eq_false, beq_self_eq_true, e1, e2, k4, k5]
        rfl
      · have e1 := decide_eq_true hcd; have e3 := ne_false' k1; have e4 := ne_true' k1
        simp only [c11, c25, c26, c29, h3, k3, refConstant_is, both_is, bindO_val, hD, hE, h2, k2, cond_true, cond_false, bne_self_eq_false, beq_self_eq_true, e1, e3, e4]
        rfl
      · have e1 := decide_eq_true hcd
        simp only [c11, c25, c26, c29, h3, k3, refConstant_is, both_is, bindO_val, hD, hE, h2, k2, cond_true, cond_false, bne_self_eq_false, beq_self_eq_true, e1, k4]
        rfl
      · have e1 := decide_eq_true hcd
        simp only [c11, c25, c26, c29, h3, k3, refConstant_is, both_is, bindO_val, hD, hE, h2, k2, cond_true, cond_false, bne_self_eq_false, beq_self_eq_true, e1, k4, k5]
        rfl
      · have e1 := decide_eq_false hcd; have e2 := ne_true' h1; have e5 := ne_false' h1; have e3 := ne_false' k1; have e4 := ne_true' k1
        simp only [c11, c25, c26, c29, h3, k3, refConstant_is, both_is, bindO_val, hD, hE, h2, k2, cond_true, cond_false, bne_self_eq_false, beq_self_eq_true, e1, e2, e5, h4, e3, e4]
        rfl
      · have e1 := decide_eq_false hcd; have e2 := ne_true' h1; have e5 := ne_false' h1
        simp only [c11, c25, c26, c29, h3, k3, refConstant_is, both_is, bindO_val, hD, hE, h2, k2, cond_true, cond_false, bne_self_eq_false, beq_self_eq_true, e1, e2, e5, h4, k4]
        rfl
      · have e1 := decide_eq_false hcd; have e2 := ne_true' h1; have e5 := ne_false' h1
        simp only [c11, c25, c26, c29, h3, k3, refConstant_is, both_is, bindO_val, hD, hE, h2, k2, cond_true, cond_false, bne_self_eq_false, beq_self_eq_true, e1, e2, e5, h4, k4, k5]
        rfl
      · have e1 := decide_eq_false hcd; have e3 := ne_false' k1; have e4 := ne_true' k1
        simp only [c11, c25, c26, c29, h3, k3, refConstant_is, both_is, bindO_val, hD, hE, h2, k2, cond_true, cond_false, bne_self_eq_false, beq_self_eq_true, e1, h4, h5, h6, e3, e4]
        rfl
      · have e1 := decide_eq_false hcd
        simp only [c11, c25, c26, c29, h3, k3, refConstant_is, both_is, bindO_val, hD, hE, h2, k2, cond_true, cond_false, bne_self_eq_false, beq_self_eq_true, e1, h4, h5, h6, k4]
        rfl
      · have e1 := decide_eq_false hcd
        simp only [c11, c25, c26, c29, h3, k3, refConstant_is, both_is, bindO_val, hD, hE, h2, k2, cond_true, cond_false, bne_self_eq_false, beq_self_eq_true, e1, h4, h5, h6, k4, k5]
  · rw [bif_neg hl]
end Gv
