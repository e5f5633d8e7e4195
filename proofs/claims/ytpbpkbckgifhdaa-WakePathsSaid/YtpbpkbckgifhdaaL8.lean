/- The law of paths. -/
import Derived.Test.YtpbpkbckgifhdaaA0
import Derived.Test.YtpbpkbckgifhdaaK2
import Derived.Test.YtpbpkbckgifhdaaBL8
namespace Gv
open Go
set_option maxRecDepth 100000
theorem copV_is (l : List Z3) (hl : l.length ≤ 1000) : FrCopV [.list l.length (encT l)] = some (l.length, encT l) := by
  refine FrCopV_of _ _ ?_
  unfold trCopV
  by_cases h0 : l.length = 0
  · rw [bif_pos h0]
    have : l = [] := List.length_eq_zero_iff.1 h0
    subst this
    rfl
  · rw [bif_neg h0, bif_pos (encT_len l), bif_pos ⟨rfl, by unfold big; omega⟩, bif_pos rfl]
    simp
theorem pathsLaw (b d : B6) (l : List Z3) : Flaw8 [enc6 b, enc6 d, .list l.length (encT l)] = some true := by
  refine Flaw8_of _ _ _ _ _ _ _ _ _ _ _ _ _ _ ?_
  unfold tlaw8
  have ha : Fn env 12 (RSh.one CK.bool) [] = some true := awake_is
  simp only [ha, bindO_val, cond_true]
  by_cases h30 : (l.length : Int) > 30
  · rw [bif_pos h30]
  · rw [bif_neg h30]
    have hc := copV_is l (by omega)
    have hp := cPath_is b d l
    have hm := rMovE_is b d
    simp only [enc6] at hp hm
    simp only [hc, bindO_val, hp, hm]
    by_cases hz : both (boxE b) (driE d) = 0
    · have hb := both_nil hz
      have hr := rCPa_is hb.1 hb.2 l
      simp only [enc6] at hr
      simp [hz, hr]
    · have hv : pathE b d l = (0, both (boxE b) (driE d)) := by unfold pathE; rw [if_pos hz]
      have hb : (both (boxE b) (driE d) != 0) = true := by simpa using hz
      simp only [hv, hb, cond_true, beq_self_eq_true]
end Gv
