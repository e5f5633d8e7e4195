/- The indices of clipped readings: the specification's loop. -/
import Derived.Test.YtpcpegneobkbdaaS11
namespace Gv
open Go
set_option maxRecDepth 100000

def clipZ (a : Int) : List ZZ → Nat → List Int
  | [], _ => []
  | z :: l, i => if a ≤ partZ z then (i : Int) :: clipZ a l (i + 1) else clipZ a l (i + 1)

theorem clipZ_len (a : Int) : ∀ (l : List ZZ) (i : Nat), (clipZ a l i).length ≤ l.length
  | [], _ => Nat.le_refl 0
  | z :: l, i => by
    have := clipZ_len a l (i + 1)
    unfold clipZ
    split
    · simpa using this
    · simp only [List.length_cons]; omega

theorem encI_snoc (l : List Int) (x : Int) : encI l ++ [.int .i64 x] = encI (l ++ [x]) := by simp [encI]

theorem refClip_loopb (l : List ZZ) (a : Int) (hl : l.length ≤ 1000) (hz : ∀ z ∈ l, Small 4611686018427387904 z) : ∀ i, i ≤ l.length → ∀ acc : List Int, acc.length ≤ i →
    Rglidepathref01_Clipped_0 (Tglidepathref01_Clipped_0b l.length (encG l) a acc.length (encI acc) i acc.length) =
      exO (Xglidepathref01_Clipped_0b ((acc ++ clipZ a (l.drop i) i).length, encI (acc ++ clipZ a (l.drop i) i), (acc ++ clipZ a (l.drop i) i).length)) := by
  refine up_ind _ ?_ ?_
  · intro acc _
    refine Rglidepathref01_Clipped_0b_of _ _ _ _ _ _ _ ?_
    unfold Bglidepathref01_Clipped_0b
    rw [bif_neg (by omega), List.drop_length]
    simp only [clipZ, List.append_nil]
    rfl
  · intro i hi ih acc ha
    obtain ⟨z, hx, hd⟩ := get_drop hi
    refine Rglidepathref01_Clipped_0b_of _ _ _ _ _ _ _ ?_
    unfold Bglidepathref01_Clipped_0b
    rw [bif_pos (by omega), bif_pos (by omega)]
    simp only [Int.toNat_natCast, encG_0, encG_1, hx, Option.map_some, intC_int, ge_iff_le, bindO_val, gpart_is z (hz z (List.mem_of_getElem? hx)), hd, clipZ]
    by_cases h : a ≤ partZ z
    · rw [bif_pos h, if_pos h, bif_pos ⟨trivial, by simp only [big]; omega⟩, w64_in (by omega), encI_snoc]
      have := ih (acc ++ [(i : Int)]) (by simp; omega)
      rw [List.length_append, List.append_assoc] at this
      exact this
    · rw [bif_neg h, if_neg h, w64_in (by omega)]
      exact ih acc (by omega)

theorem refClip_loopa (l : List ZZ) (a : Int) (hl : l.length ≤ 1000) (hz : ∀ z ∈ l, Small 4611686018427387904 z) : ∀ i, i ≤ l.length →
    Rglidepathref01_Clipped_0 (Tglidepathref01_Clipped_0a l.length (encG l) a i) =
      (if clipZ a (l.drop i) i = [] then exO (Xglidepathref01_Clipped_0a ()) else
      exO (Xglidepathref01_Clipped_0b ((clipZ a (l.drop i) i).length, encI (clipZ a (l.drop i) i), (clipZ a (l.drop i) i).length))) := by
  refine up_ind _ ?_ ?_
  · rw [List.drop_length]
    rw [if_pos (by rfl)]
    refine Rglidepathref01_Clipped_0a_of _ _ _ _ ?_
    unfold Bglidepathref01_Clipped_0a
    rw [bif_neg (by omega)]
    rfl
  · intro i hi ih
    obtain ⟨z, hx, hd⟩ := get_drop hi
    rw [hd]
    by_cases h : a ≤ partZ z
    · simp only [clipZ, if_pos h]
      rw [if_neg (by simp)]
      refine Rglidepathref01_Clipped_0a_of _ _ _ _ ?_
      unfold Bglidepathref01_Clipped_0a
      rw [bif_pos (by omega), bif_pos (by omega)]
      simp only [Int.toNat_natCast, encG_0, encG_1, hx, Option.map_some, intC_int, ge_iff_le, bindO_val, gpart_is z (hz z (List.mem_of_getElem? hx))]
      rw [bif_pos h, w64_in (by omega)]
      exact refClip_loopb l a hl hz (i + 1) (by omega) [(i : Int)] (by simp)
    · simp only [clipZ, if_neg h]
      have key : ∀ r, Rglidepathref01_Clipped_0 (Tglidepathref01_Clipped_0a l.length (encG l) a (i + 1 : Nat)) = some r → Rglidepathref01_Clipped_0 (Tglidepathref01_Clipped_0a l.length (encG l) a i) = some r := by
        intro r hr
        refine Rglidepathref01_Clipped_0a_of _ _ _ _ ?_
        unfold Bglidepathref01_Clipped_0a
        rw [bif_pos (by omega), bif_pos (by omega)]
        simp only [Int.toNat_natCast, encG_0, encG_1, hx, Option.map_some, intC_int, ge_iff_le, bindO_val, gpart_is z (hz z (List.mem_of_getElem? hx))]
        rw [bif_neg h, w64_in (by omega)]
        exact hr
      by_cases hc : clipZ a (l.drop (i + 1)) (i + 1) = []
      · rw [if_pos hc] at ih ⊢
        exact key _ ih
      · rw [if_neg hc] at ih ⊢
        exact key _ ih

theorem refClipped_is (l : List ZZ) (a : Int) (hl : l.length ≤ 1000) (hz : ∀ z ∈ l, Small 4611686018427387904 z) : Fglidepathref01_Clipped [.list l.length (encG l), .int .i64 a] = some ((clipZ a l 0).length, encI (clipZ a l 0)) := by
  refine Fglidepathref01_Clipped_of _ _ _ ?_
  unfold tglidepathref01_Clipped
  have hL := refClip_loopa l a hl hz 0 (by omega)
  rw [List.drop_zero] at hL
  by_cases hc : clipZ a l 0 = []
  · rw [if_pos hc] at hL
    have := Lglidepathref01_Clipped_0a_of hL
    rw [show ((0 : Nat) : Int) = 0 from rfl] at this
    rw [this, hc]
    rfl
  · rw [if_neg hc] at hL
    have := Lglidepathref01_Clipped_0b_of hL
    rw [show ((0 : Nat) : Int) = 0 from rfl] at this
    rw [this]
    simp only [bindO_val, Sum.elim_inr]
    rw [bif_pos trivial]

end Gv
