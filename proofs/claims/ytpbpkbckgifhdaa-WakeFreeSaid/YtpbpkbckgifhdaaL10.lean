/- The law of free corridors. -/
import Derived.Test.YtpbpkbckgifhdaaA0
import Derived.Test.YtpbpkbckgifhdaaK5
import Derived.Test.YtpbpkbckgifhdaaBL10
namespace Gv
open Go
set_option maxRecDepth 100000
theorem earlV_err (b d : B6) (c : C7) : earlV b d c = (0, 12) ∨ (earlV b d c).2 = 0 := by
  unfold earlV
  split
  · exact .inl rfl
  · exact .inr rfl
theorem freeLaw (b d : B6) (c : C7) : Flaw10 [enc6 b, enc6 d, encO c] = some true := by
  refine Flaw10_of _ _ _ _ _ _ _ _ _ _ _ _ _ _ _ _ _ _ _ ?_
  unfold tlaw10
  have ha : Fn env 12 (RSh.one CK.bool) [] = some true := awake_is
  have h1 : FisFr [enc6 b, enc6 d, encO c] = _ := isFr_is b d c
  have h2 : Fearl [enc6 b, enc6 d, encO c] = _ := earl_is b d c
  have h3 : FrFreE [enc6 b, enc6 d, encO c] = _ := rFreE_is b d c
  simp only [enc6, encO] at h1 h2 h3
  simp only [ha, bindO_val, cond_true, bWi_is]
  by_cases h61 : (61 : Int) ≤ c.2.2.2.2.2.2 ∧ c.2.2.2.2.2.2 ≤ 1000
  · rw [bif_pos h61]
  · rw [bif_neg h61]
    simp only [h1, h2, h3, bindO_val]
    by_cases hz : freV b d c = 0
    · obtain ⟨hb, hd, hc⟩ := freV_ok hz
      have h4 := rFree_is hb hd hc
      have h5 := rEarl_is hb hd hc
      simp only [enc6, encO] at h4 h5
      rw [if_pos hz, if_pos hz, hz]
      simp only [h4, h5, bindO_val, bne_self_eq_false, cond_false]
      rcases earlV_err b d c with he | he
      · simp [he]
      · simp [he]
    · have hbn : (freV b d c != 0) = true := by simpa using hz
      rw [if_neg hz, if_neg hz, hbn]
      simp only [cond_true, beq_self_eq_true]
end Gv
