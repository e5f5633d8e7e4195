/- The indices of clipped readings: the program's loop. -/
import Derived.Test.YtpcpegneobkbdaaS12
namespace Gv
open Go
set_option maxRecDepth 100000

theorem chain_is (z : ZZ) (hz : Small 4611686018427387904 z) : (let x0 := z.1; let x1 := z.2; (if ((w64 ((0 : Int) - x1)) > (if (x1 > (if ((w64 ((0 : Int) - x0)) > x0) then (w64 ((0 : Int) - x0)) else x0)) then x1 else (if ((w64 ((0 : Int) - x0)) > x0) then (w64 ((0 : Int) - x0)) else x0))) then (w64 ((0 : Int) - x1)) else (if (x1 > (if ((w64 ((0 : Int) - x0)) > x0) then (w64 ((0 : Int) - x0)) else x0)) then x1 else (if ((w64 ((0 : Int) - x0)) > x0) then (w64 ((0 : Int) - x0)) else x0)))) = partZ z := by
  obtain ⟨⟨a1, a2⟩, b1, b2⟩ := hz
  show ((if ((w64 ((0 : Int) - z.2)) > (if (z.2 > (if ((w64 ((0 : Int) - z.1)) > z.1) then (w64 ((0 : Int) - z.1)) else z.1)) then z.2 else (if ((w64 ((0 : Int) - z.1)) > z.1) then (w64 ((0 : Int) - z.1)) else z.1))) then (w64 ((0 : Int) - z.2)) else (if (z.2 > (if ((w64 ((0 : Int) - z.1)) > z.1) then (w64 ((0 : Int) - z.1)) else z.1)) then z.2 else (if ((w64 ((0 : Int) - z.1)) > z.1) then (w64 ((0 : Int) - z.1)) else z.1)))) = _
  rw [w64_in (by omega), w64_in (by omega)]
  unfold partZ absI
  repeat' split
  all_goals omega

theorem clip_loopb (l : List ZZ) (a : Int) (hl : l.length ≤ 1000) (hz : ∀ z ∈ l, Small 4611686018427387904 z) : ∀ i, i ≤ l.length → ∀ acc : List Int, acc.length ≤ i →
    Rpulse_ClippedIn_0 (Tpulse_ClippedIn_0b a acc.length (encI acc) l.length (encG l) l.length i acc.length) =
      exO (Xpulse_ClippedIn_0b ((acc ++ clipZ a (l.drop i) i).length, encI (acc ++ clipZ a (l.drop i) i), (acc ++ clipZ a (l.drop i) i).length)) := by
  refine up_ind _ ?_ ?_
  · intro acc _
    refine Rpulse_ClippedIn_0b_of _ _ _ _ _ _ _ _ ?_
    unfold Bpulse_ClippedIn_0b
    rw [bif_neg (by omega), List.drop_length]
    simp only [clipZ, List.append_nil]
    rfl
  · intro i hi ih acc ha
    obtain ⟨z, hx, hd⟩ := get_drop hi
    have hc := chain_is z (hz z (List.mem_of_getElem? hx))
    simp only [] at hc
    refine Rpulse_ClippedIn_0b_of _ _ _ _ _ _ _ _ ?_
    unfold Bpulse_ClippedIn_0b
    rw [bif_pos (by omega), bif_pos (by omega)]
    simp only [Int.toNat_natCast, encG_0, encG_1, hx, Option.map_some, intC_int, ge_iff_le, bindO_val, hc, hd, clipZ]
    by_cases h : a ≤ partZ z
    · rw [bif_pos h, if_pos h, bif_pos ⟨trivial, by simp only [big]; omega⟩, w64_in (by omega), encI_snoc]
      have := ih (acc ++ [(i : Int)]) (by simp; omega)
      rw [List.length_append, List.append_assoc] at this
      exact this
    · rw [bif_neg h, if_neg h, w64_in (by omega)]
      exact ih acc (by omega)

theorem clip_loopa (l : List ZZ) (a : Int) (hl : l.length ≤ 1000) (hz : ∀ z ∈ l, Small 4611686018427387904 z) : ∀ i, i ≤ l.length →
    Rpulse_ClippedIn_0 (Tpulse_ClippedIn_0a a l.length (encG l) l.length i) =
      (if clipZ a (l.drop i) i = [] then exO (Xpulse_ClippedIn_0a ()) else
      exO (Xpulse_ClippedIn_0b ((clipZ a (l.drop i) i).length, encI (clipZ a (l.drop i) i), (clipZ a (l.drop i) i).length))) := by
  refine up_ind _ ?_ ?_
  · rw [List.drop_length]
    rw [if_pos (by rfl)]
    refine Rpulse_ClippedIn_0a_of _ _ _ _ _ ?_
    unfold Bpulse_ClippedIn_0a
    rw [bif_neg (by omega)]
    rfl
  · intro i hi ih
    obtain ⟨z, hx, hd⟩ := get_drop hi
    have hc := chain_is z (hz z (List.mem_of_getElem? hx))
    simp only [] at hc
    rw [hd]
    by_cases h : a ≤ partZ z
    · simp only [clipZ, if_pos h]
      rw [if_neg (by simp)]
      refine Rpulse_ClippedIn_0a_of _ _ _ _ _ ?_
      unfold Bpulse_ClippedIn_0a
      rw [bif_pos (by omega), bif_pos (by omega)]
      simp only [Int.toNat_natCast, encG_0, encG_1, hx, Option.map_some, intC_int, ge_iff_le, bindO_val, hc]
      rw [bif_pos h, w64_in (by omega)]
      exact clip_loopb l a hl hz (i + 1) (by omega) [(i : Int)] (by simp)
    · simp only [clipZ, if_neg h]
      have key : ∀ r, Rpulse_ClippedIn_0 (Tpulse_ClippedIn_0a a l.length (encG l) l.length (i + 1 : Nat)) = some r → Rpulse_ClippedIn_0 (Tpulse_ClippedIn_0a a l.length (encG l) l.length i) = some r := by
        intro r hr
        refine Rpulse_ClippedIn_0a_of _ _ _ _ _ ?_
        unfold Bpulse_ClippedIn_0a
        rw [bif_pos (by omega), bif_pos (by omega)]
        simp only [Int.toNat_natCast, encG_0, encG_1, hx, Option.map_some, intC_int, ge_iff_le, bindO_val, hc]
        rw [bif_neg h, w64_in (by omega)]
        exact hr
      by_cases hc : clipZ a (l.drop (i + 1)) (i + 1) = []
      · rw [if_pos hc] at ih ⊢
        exact key _ ih
      · rw [if_neg hc] at ih ⊢
        exact key _ ih

end Gv
