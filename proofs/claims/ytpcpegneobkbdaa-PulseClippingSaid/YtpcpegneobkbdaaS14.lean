/- What the program's ClippedIn gives. -/
import Derived.Test.YtpcpegneobkbdaaS13
namespace Gv
open Go
set_option maxRecDepth 100000

def ciE (l : List ZZ) (a : Int) : Int := both (blockE l) (rangeE a 1 1000)

theorem clippedIn_is (l : List ZZ) (a : Int) (hl : l.length ≤ 1000) (hz : blockE l = 0 → ∀ z ∈ l, Small 4611686018427387904 z) : Fpulse_ClippedIn [.list l.length (encG l), .int .i64 a] =
    some (if ciE l a ≠ 0 then ((0, []), ciE l a) else (((clipZ a l 0).length, encI (clipZ a l 0)), 0)) := by
  refine Fpulse_ClippedIn_of _ _ _ ?_
  unfold tpulse_ClippedIn
  simp only [blockError_is l (by omega), rangeError_is, firstError2_is, bindO_val, bif_ne]
  rw [show both (blockE l) (rangeE a 1 1000) = ciE l a from rfl]
  by_cases h : ciE l a = 0
  · rw [if_pos h, if_neg (by simpa using h)]
    have hb : blockE l = 0 := by
      unfold ciE both at h
      by_cases hb : blockE l = 0
      · exact hb
      · rw [if_pos hb] at h
        exact absurd h hb
    have hL := clip_loopa l a hl (hz hb) 0 (by omega)
    rw [List.drop_zero] at hL
    by_cases hc : clipZ a l 0 = []
    · rw [if_pos hc] at hL
      have := Lpulse_ClippedIn_0a_of hL
      rw [show ((0 : Nat) : Int) = 0 from rfl] at this
      rw [this, hc]
      rfl
    · rw [if_neg hc] at hL
      have := Lpulse_ClippedIn_0b_of hL
      rw [show ((0 : Nat) : Int) = 0 from rfl] at this
      rw [this]
      rfl
  · rw [if_neg h, if_pos h]

end Gv
