/- Which sums are valid, by the specification; copies and comparisons of sums. -/
import Derived.Test.YtojmddikkmiohaaS30
namespace Gv
open Go
set_option maxRecDepth 100000

section
variable (a t : List ZZ) (c : Int)
theorem refSum0_loop (hl : a.length < 4294967296) : ∀ i, i ≤ a.length →
    Rglidepathref01_CheckSum_0 (Tglidepathref01_CheckSum_0a i a.length (encG a) t.length (encG t) c) =
      exO (XLglidepathref01_CheckSum_0.fn (match findE (gaussE 1000000000000) (a.drop i) i with | some p => .inl p.1 | none => .inr (a.length, encG a, t.length, encG t, c))) := by
  refine up_ind _ ?_ ?_
  · refine Rglidepathref01_CheckSum_0a_of _ _ _ _ _ _ ?_
    unfold Bglidepathref01_CheckSum_0a
    rw [bif_neg (by omega), List.drop_length]
    rfl
  · intro i hi ih
    refine Rglidepathref01_CheckSum_0a_of _ _ _ _ _ _ ?_
    unfold Bglidepathref01_CheckSum_0a
    obtain ⟨x, hx, hd⟩ := get_drop hi
    rw [bif_pos (by omega), bif_pos (by omega)]
    simp only [Int.toNat_natCast, Nat.mul_one, encG_0, encG_1, hx, Option.map_some, intC_int, bindO_val, isGauss_is x 1000000000000 (by omega)]
    rw [hd, w64_in (by omega)]
    by_cases he : gaussE 1000000000000 x = 0
    · rw [bif_pos he]
      simp only [findE, he, ne_eq, not_true_eq_false, if_false]
      exact ih
    · rw [bif_neg he]
      simp only [findE, ne_eq, he, not_false_eq_true, if_true]
      rfl
theorem refSum2_loop (hl : t.length < 4294967296) : ∀ i, i ≤ t.length →
    Rglidepathref01_CheckSum_2 (Tglidepathref01_CheckSum_2a i a.length (encG a) t.length (encG t) c) =
      exO (XLglidepathref01_CheckSum_2.fn (match findE (gaussE 1000) (t.drop i) i with | some p => .inl p.1 | none => .inr (a.length, encG a, t.length, encG t, c))) := by
  refine up_ind _ ?_ ?_
  · refine Rglidepathref01_CheckSum_2a_of _ _ _ _ _ _ ?_
    unfold Bglidepathref01_CheckSum_2a
    rw [bif_neg (by omega), List.drop_length]
    rfl
  · intro i hi ih
    refine Rglidepathref01_CheckSum_2a_of _ _ _ _ _ _ ?_
    unfold Bglidepathref01_CheckSum_2a
    obtain ⟨x, hx, hd⟩ := get_drop hi
    rw [bif_pos (by omega), bif_pos (by omega)]
    simp only [Int.toNat_natCast, Nat.mul_one, encG_0, encG_1, hx, Option.map_some, intC_int, bindO_val, isGauss_is x 1000 (by omega)]
    rw [hd, w64_in (by omega)]
    by_cases he : gaussE 1000 x = 0
    · rw [bif_pos he]
      simp only [findE, he, ne_eq, not_true_eq_false, if_false]
      exact ih
    · rw [bif_neg he]
      simp only [findE, ne_eq, he, not_false_eq_true, if_true]
      rfl
theorem refCheckSum_is (ht : t.length < 4294967296) : Fglidepathref01_CheckSum [.agg [.list a.length (encG a), .list t.length (encG t), .int .i64 c]] = some (smP a t c) := by
  refine Fglidepathref01_CheckSum_of _ _ _ _ _ ?_
  unfold tglidepathref01_CheckSum smP listE
  rw [bif_eq]
  by_cases h1 : a.length = 0
  · simp [h1]
  · rw [if_neg (by omega), if_neg h1]
    by_cases h2 : (12 : Int) < a.length
    · rw [bif_pos (by omega), if_pos h2]
      simp
    · rw [bif_neg (by omega), if_neg h2]
      have := lpO_of Iglidepathref01_CheckSum_0 XIglidepathref01_CheckSum_0 (refSum0_loop a t c (by omega) 0 (by omega))
      have this : Lglidepathref01_CheckSum_0 (Tglidepathref01_CheckSum_0a 0 a.length (encG a) t.length (encG t) c) = _ := this
      rw [this]
      simp only [bindO_val, List.drop_zero]
      cases hf : findE (gaussE 1000000000000) a 0 with
      | some p =>
        have := findE_two _ a 0 p hf
        simp only [Sum.elim_inl, Option.getD_some]
        rw [if_pos (by omega), ← this]
      | none =>
        simp only [Sum.elim_inr, Option.getD_none, ne_eq, not_true_eq_false, if_false, within_is, bindO_val]
        by_cases h3 : 0 ≤ c ∧ c ≤ 1000000000000
        · rw [bif_pos h3, rangeE_in h3, bif_ne, w64_in (n := (a.length : Int) - 1) (by omega), show (if (a.length : Int) - 1 < c then (a.length : Int) - 1 else c) = mnC a c from rfl]
          by_cases h4 : (t.length : Int) = mnC a c
          · have := lpO_of Iglidepathref01_CheckSum_2 XIglidepathref01_CheckSum_2 (refSum2_loop a t c ht 0 (by omega))
            have this : Lglidepathref01_CheckSum_2 (Tglidepathref01_CheckSum_2a 0 a.length (encG a) t.length (encG t) c) = _ := this
            rw [if_pos h4, this]
            simp only [h4, not_true_eq_false, if_false, both, ne_eq, bindO_val, List.drop_zero]
            cases hg : findE (gaussE 1000) t 0 with
            | some p =>
              have := findE_two _ t 0 p hg
              simp only [Sum.elim_inl, Option.getD_some]
              rw [← this]
            | none => rfl
          · rw [if_neg h4]
            simp [h4, both]
        · rw [bif_neg h3, rangeE_out h3]
          simp [both]
theorem refSumErr_is (ht : t.length < 4294967296) : Fglidepathref01_SumErr [.agg [.list a.length (encG a), .list t.length (encG t), .int .i64 c]] = some (smE a t c) := by
  refine Fglidepathref01_SumErr_of _ _ _ _ _ ?_
  unfold tglidepathref01_SumErr
  simp only [refCheckSum_is a t c ht, bindO_val]
  rfl
theorem copySum_is (ha : a.length ≤ 1000000) (ht : t.length ≤ 1000000) : Fglidepathref01_CopySum [.agg [.list a.length (encG a), .list t.length (encG t), .int .i64 c]] = some ((a.length, encG a), ((t.length, encG t), c)) := by
  refine Fglidepathref01_CopySum_of _ _ _ _ _ ?_
  unfold tglidepathref01_CopySum
  simp only [copyG_is a ha, copyG_is t ht, bindO_val]
theorem sameSum_is (ha : a.length < 4294967296) (ht : t.length < 4294967296) : Fglidepathref01_SameSum [.agg [.list a.length (encG a), .list t.length (encG t), .int .i64 c], .agg [.list a.length (encG a), .list t.length (encG t), .int .i64 c]] = some true := by
  refine Fglidepathref01_SameSum_of _ _ _ _ _ _ _ _ _ _ ?_
  unfold tglidepathref01_SameSum
  simp only [beq_self_eq_true, cond_true, gausses_same a ha, gausses_same t ht, bindO_val]
end

/-- What is asked of a sum that is valid. -/
theorem sm_ok {a t : List ZZ} {c : Int} (h : smE a t c = 0) : (1 ≤ a.length ∧ a.length ≤ 12) ∧ (∀ z ∈ a, gaussE 1000000000000 z = 0) ∧ (0 ≤ c ∧ c ≤ 1000000000000) ∧ (t.length : Int) = mnC a c ∧ ∀ z ∈ t, gaussE 1000 z = 0 := by
  unfold smE smP at h
  by_cases h1 : (listE 12 1000000000000 a).2 = 0
  · rw [if_neg (show ¬ (listE 12 1000000000000 a).2 ≠ 0 by omega)] at h
    by_cases h4 : (t.length : Int) = mnC a c
    · by_cases h3 : rangeE c 0 1000000000000 = 0
      · rw [h3, if_neg (show ¬ (t.length : Int) ≠ mnC a c by omega), show both (0 : Int) 0 = 0 from rfl, if_neg (by simp)] at h
        have h5 : 0 ≤ c ∧ c ≤ 1000000000000 := by
          unfold rangeE at h3
          split at h3 <;> omega
        unfold listE at h1
        split at h1
        · simp at h1
        · split at h1
          · simp at h1
          · refine ⟨by omega, ?_, h5, h4, ?_⟩
            · cases hf : findE (gaussE 1000000000000) a 0 with
              | none => exact findE_none hf
              | some p =>
                have := findE_two _ a 0 p hf
                rw [hf] at h1
                simp only [Option.getD_some] at h1
                omega
            · cases hf : findE (gaussE 1000) t 0 with
              | none => exact findE_none hf
              | some p =>
                have := findE_two _ t 0 p hf
                rw [hf] at h
                simp only [Option.getD_some] at h
                omega
      · exfalso
        have hb : ∀ x, both (rangeE c 0 1000000000000) x = rangeE c 0 1000000000000 := fun x => if_pos h3
        rw [hb, if_pos h3] at h
        exact h3 h
    · exfalso
      rw [if_pos h4] at h
      have hb : both (rangeE c 0 1000000000000) 10 ≠ 0 := by unfold both; split <;> omega
      rw [if_pos hb] at h
      exact hb h
  · rw [if_pos h1] at h
    exact absurd h h1
theorem findE_all {m : Int} : ∀ {l : List ZZ} (i : Nat), (∀ z ∈ l, gaussE m z = 0) → findE (gaussE m) l i = none
  | [], _, _ => rfl
  | x :: l, i, h => by
    rw [findE, if_neg (by have := h x (by simp); omega)]
    exact findE_all _ fun z hz => h z (by simp [hz])
theorem sm_of {a t : List ZZ} {c : Int} (h1 : 1 ≤ a.length ∧ a.length ≤ 12) (h2 : ∀ z ∈ a, gaussE 1000000000000 z = 0) (h3 : 0 ≤ c ∧ c ≤ 1000000000000) (h4 : (t.length : Int) = mnC a c) (h5 : ∀ z ∈ t, gaussE 1000 z = 0) : smE a t c = 0 := by
  have e : listE 12 1000000000000 a = (0, 0) := by
    unfold listE
    rw [if_neg (by omega), if_neg (by omega), findE_all 0 h2]
    rfl
  unfold smE smP
  rw [e, rangeE_in h3, if_neg (by simp), if_neg (show ¬ (t.length : Int) ≠ mnC a c by omega), if_neg (by simp [both]), findE_all 0 h5]
  rfl
end Gv
