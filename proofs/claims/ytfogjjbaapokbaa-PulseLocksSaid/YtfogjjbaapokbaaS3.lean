/- PulseCorrelated: true on all blocks. -/
import Derived.Test.YtfogjjbaapokbaaA0
import Derived.Test.YtfogjjbaapokbaaS2
namespace Gv
open Go
set_option maxRecDepth 100000

theorem few_is (l : List ZZ) : Fglidepathlaw01_fewItems [.list l.length (encG l)] = some (decide (l.length ≤ 50)) := by
  refine Fglidepathlaw01_fewItems_of _ _ ?_
  unfold tglidepathlaw01_fewItems
  by_cases h : l.length ≤ 50
  · rw [bif_pos (by omega)]; simp [h]
  · rw [bif_neg (by omega)]; simp [h]

theorem both_zero {a b : Int} (h : a = 0) : both a b = b := by simp [both, h]
theorem both_not {a b : Int} (h : a ≠ 0) : both a b = a := by simp [both, h]

theorem correlated (l : List ZZ) (q lag : Int) : Fglidepathlaw01_PulseCorrelated [.list l.length (encG l), .int .i64 q, .int .i64 lag] = some true := by
  refine Fglidepathlaw01_PulseCorrelated_of _ _ _ _ ?_
  unfold tglidepathlaw01_PulseCorrelated
  simp only [awake_is, few_is, bindO_val, cond_true]
  by_cases h50 : l.length ≤ 50
  · rw [bif_pos h50]
    simp only [copyG_is l (by omega), bindO_val, mixed_is q l (by omega), corrOf_is l lag (by omega), refBlockErr_is l, within_is]
    by_cases hb : blockE l = 0
    · obtain ⟨k1, k2, k3⟩ := block_ok hb
      rw [both_zero hb, both_zero hb]
      by_cases hq : 0 ≤ q ∧ q ≤ 3
      · have e1 := rangeE_in hq
        by_cases hg : 0 ≤ lag ∧ lag ≤ 48
        · have e2 := rangeE_in hg
          obtain ⟨g, rfl⟩ : ∃ g : Nat, lag = g := ⟨lag.toNat, by omega⟩
          simp [e1, e2, hb, hq, hg, refMixed_is q hq l k1 (by omega) k3, refCorr_is l g (by omega) (by omega), bif_eq, bif_ne]
          have := gausses_same (mixFrom q l 0) (by rw [mixFrom_len]; omega)
          rw [mixFrom_len] at this
          simp [this]
        · have e2 := rangeE_out hg
          simp [e1, e2, hb, hq, hg, refMixed_is q hq l k1 (by omega) k3, bif_eq, bif_ne]
          have := gausses_same (mixFrom q l 0) (by rw [mixFrom_len]; omega)
          rw [mixFrom_len] at this
          simp [this]
      · have e1 := rangeE_out hq
        by_cases hg : 0 ≤ lag ∧ lag ≤ 48
        · have e2 := rangeE_in hg
          obtain ⟨g, rfl⟩ : ∃ g : Nat, lag = g := ⟨lag.toNat, by omega⟩
          simp [e1, e2, hb, hq, hg, refCorr_is l g (by omega) (by omega), bif_eq, bif_ne]
        · have e2 := rangeE_out hg
          simp [e1, e2, hb, hq, hg, bif_eq, bif_ne]
    · rw [both_not hb, both_not hb]
      simp [hb, bif_eq, bif_ne]
  · rw [bif_neg h50]
end Gv
