/- The law of accepted assignments. -/
import Derived.Test.YtpbpkbckgifhdaaA0
import Derived.Test.YtpbpkbckgifhdaaK11
import Derived.Test.YtpbpkbckgifhdaaBL5
namespace Gv
open Go
set_option maxRecDepth 100000
theorem copP_is (a R C : List Int) (ha : a.length ≤ 8) (hR : R.length ≤ 8) (hC : C.length ≤ 8) : FrCopP [encP a R C] = some ((a.length, encI a), ((R.length, encI R), (C.length, encI C))) := by
  refine FrCopP_of _ _ _ _ _ _ ?_
  unfold trCopP
  have h1 : Fn env 78 _ [.list a.length (encI a)] = _ := copI_is a (by omega)
  have h2 : Fn env 78 _ [.list R.length (encI R)] = _ := copI_is R (by omega)
  have h3 : Fn env 78 _ [.list C.length (encI C)] = _ := copI_is C (by omega)
  rw [h1, h2, h3]
  rfl
def OkP (L : List (List Int)) (a R C : List Int) : Prop := SmallP L ∧ a.length ≤ 8 ∧ R.length ≤ 8 ∧ C.length ≤ 8
instance (L : List (List Int)) (a R C : List Int) : Decidable (OkP L a R C) := by unfold OkP; infer_instance
theorem z21 (L : List (List Int)) (a R C : List Int) : Llaw5_1000021 (Tlaw5_1000021a L.length (encM L) a.length (encI a) R.length (encI R) C.length (encI C)) = some (if OkP L a R C then Sum.inr (L.length, encM L, a.length, encI a, R.length, encI R, C.length, encI C) else Sum.inl ()) := by
  have hs : Fn env 25 _ [.list L.length (encM L)] = _ := small_is L
  by_cases h : OkP L a R C
  · obtain ⟨h1, h2, h3, h4⟩ := h
    rw [if_pos ⟨h1, h2, h3, h4⟩]
    refine Llaw5_1000021b_of (Rlaw5_1000021a_of _ _ _ _ _ _ _ _ ?_)
    unfold Blaw5_1000021a
    rw [hs]
    simp only [h1, decide_true, bindO_val, cond_true]
    rw [bif_neg (by omega), bif_neg (by omega), bif_neg (by omega)]
    rfl
  · rw [if_neg h]
    refine Llaw5_1000021a_of (Rlaw5_1000021a_of _ _ _ _ _ _ _ _ ?_)
    unfold Blaw5_1000021a
    rw [hs]
    simp only [bindO_val]
    by_cases h1 : SmallP L
    · simp only [h1, decide_true, cond_true]
      by_cases h2 : (a.length : Int) > 8
      · rw [bif_pos h2]
        rfl
      · rw [bif_neg h2]
        by_cases h3 : (R.length : Int) > 8
        · rw [bif_pos h3]
          rfl
        · rw [bif_neg h3, bif_pos (by
            by_cases h4 : (C.length : Int) > 8
            · exact h4
            · exact absurd ⟨h1, by omega, by omega, by omega⟩ h)]
          rfl
    · simp only [h1, decide_false, cond_false]
      rfl
theorem acceptedLaw (L : List (List Int)) (a R C : List Int) : Flaw5 [.list L.length (encM L), encP a R C] = some true := by
  refine Flaw5_of _ _ _ _ _ _ _ _ ?_
  unfold tlaw5
  have ha : Fn env 12 (RSh.one CK.bool) [] = some true := awake_is
  simp only [ha, bindO_val, cond_true]
  rw [z21 L a R C]
  by_cases h : OkP L a R C
  · rw [if_pos h]
    obtain ⟨h1, h2, h3, h4⟩ := h
    have c1 : Fn env 27 _ [.list L.length (encM L)] = _ := copM_is L (by have := h1.1; omega) fun r hr => by have := h1.2.1 r hr; omega
    have c2 : Fn env 35 _ [encP a R C] = _ := copP_is a R C h2 h3 h4
    have c3 : Fn env 34 _ [.list L.length (encM L), encP a R C] = _ := cAsg_is L h1.1 h1.2.1 a R C
    have c4 : Fn env 30 _ [.list L.length (encM L)] = _ := rCMat_is L
    unfold encP at c2 c3
    simp only [bindO_val, Sum.elim_inr]
    rw [c1]
    simp only [bindO_val]
    rw [c2]
    simp only [bindO_val]
    rw [c3]
    simp only [bindO_val]
    rw [c4]
    simp only [bindO_val, bif_ne]
    by_cases hz : (matV L).2 = 0
    · rw [if_pos hz, if_pos hz]
      have c5 : Fn env 36 _ [.list L.length (encM L), encP a R C] = _ := rCAsg_is L (by have := h1.1; omega) (fun r hr => ((matV_ok hz).2.2.2 r hr).1) a R C
      unfold encP at c5
      rw [c5]
      simp
    · rw [if_neg hz, if_neg hz]
      simp
  · rw [if_neg h]
    rfl
end Gv
