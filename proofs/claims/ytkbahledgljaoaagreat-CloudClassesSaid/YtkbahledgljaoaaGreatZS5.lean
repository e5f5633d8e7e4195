/- CloudClasses: whatever the classes, the signal and the error, the law answers true. -/
import Derived.Test.YtkbahledgljaoaaGreatZS4
import Derived.Test.YtkbahledgljaoaaGreatZC3
import Derived.Test.YtkbahledgljaoaaGreatA0
namespace Gv
open Go
set_option maxRecDepth 100000

/-- The error of a class, as the law makes it. -/
def aE (l : List Cl) (s p : Int) : Int := if both (chkC l).2 (sigE s p) = 0 ∧ idxF l s p 0 < 0 then 12 else both (chkC l).2 (sigE s p)
def dE (l : List Cl) (s p off : Int) : Int := if both (chkC l).2 (sigE s p) = 0 then rangeE off 0 10 else both (chkC l).2 (sigE s p)
theorem clsR_eq (l : List Cl) (s p : Int) : clsR l s p = if aE l s p ≠ 0 then (0, aE l s p) else (idxF l s p 0, 0) := by
  unfold clsR aE
  by_cases h : both (chkC l).2 (sigE s p) = 0
  · by_cases h2 : idxF l s p 0 < 0 <;> simp [h, h2]
  · simp [h]
theorem both_eq (l : List Cl) (s p off : Int) : both (dE l s p off) (aE l s p) = sureE l s p off := by
  unfold dE aE sureE first4 both
  by_cases h1 : (chkC l).2 = 0
  · by_cases h2 : sigE s p = 0
    · by_cases h3 : rangeE off 0 10 = 0 <;> simp [h1, h2, h3]
    · simp [h1, h2]
  · simp [h1]
theorem sureR_one {l : List Cl} {s p off : Int} (h : sureE l s p off ≠ 0) : sureR l s p off = (false, sureE l s p off) := by
  unfold sureR
  rw [if_pos h]
theorem sureR_two {l : List Cl} {s p off : Int} (h : sureE l s p off = 0) : sureR l s p off = (sureV l s p off.toNat, 0) := by
  unfold sureR
  rw [if_neg (by simp [h])]
theorem sureE_less {l : List Cl} {s p off a : Int} (h : sureE l s p off = 0) (ha : 0 ≤ a ∧ a ≤ off) : sureE l s p a = 0 := by
  obtain ⟨h1, h2, h3, h4⟩ := sureE_ok h
  unfold sureE first4
  rw [h1, h2, rangeE_in (by omega), if_neg h4]
  rfl

theorem classesLaw (l : List Cl) (s p off : Int) : Fglidepathlaw08_CloudClasses [.list l.length (encL4 l), .agg [.int .i64 s, .int .i64 p], .int .i64 off] = some true := by
  refine Fglidepathlaw08_CloudClasses_of _ _ _ _ _ ?_
  unfold tglidepathlaw08_CloudClasses
  simp only [awake_is, bindO_val, cond_true]
  by_cases hl : 12 < l.length
  · rw [bif_pos (by omega)]
  rw [bif_neg (by omega)]
  have c46 := copyC_is l (by omega)
  have c45 := checkClasses_is l (by omega)
  have c47 := classOfX_is l (by omega) s p
  have c48 := fun o => isSureClass_is l (by omega) s p o
  have c49 := refCheck_is l (by omega)
  have c51 := refClass_is l (by omega) s p
  have h47 : ∀ (n a : Int) (b : Bool) (c : Int), Lglidepathlaw08_CloudClasses_1000047 (Tglidepathlaw08_CloudClasses_1000047a l.length (encL4 l) off (chkC l).1 (chkC l).2 n a b c (chkC l).1 (chkC l).2 s p) = some (.inr (l.length, encL4 l, off, n, a, b, c, (chkC l).2, s, p)) := fun n a b c => by
    refine Lglidepathlaw08_CloudClasses_1000047b_of (Rglidepathlaw08_CloudClasses_1000047a_of _ _ _ _ _ _ _ _ _ _ _ _ _ ?_)
    unfold Bglidepathlaw08_CloudClasses_1000047a
    simp only [bne_self_eq_false, cond_false]
    rfl
  have h36 : ∀ (n a : Int) (b : Bool) (c : Int), Lglidepathlaw08_CloudClasses_1000036 (Tglidepathlaw08_CloudClasses_1000036a l.length (encL4 l) off n a b c (both (chkC l).2 (sigE s p)) (both (chkC l).2 (sigE s p)) s p) = some (l.length, encL4 l, off, n, a, b, c, both (chkC l).2 (sigE s p), aE l s p, s, p) := fun n a b c => by
    refine Lglidepathlaw08_CloudClasses_1000036a_of (Rglidepathlaw08_CloudClasses_1000036a_of _ _ _ _ _ _ _ _ _ _ _ ?_)
    unfold Bglidepathlaw08_CloudClasses_1000036a aE
    simp only [c51, bindO_val, bif_eq, bif_dec]
    by_cases h : both (chkC l).2 (sigE s p) = 0
    · rw [if_pos h]
      by_cases h2 : idxF l s p 0 < 0
      · rw [if_pos h2, if_pos ⟨h, h2⟩]
        rfl
      · rw [if_neg h2, if_neg fun h3 => h2 h3.2]
        rfl
    · rw [if_neg h, if_neg fun h3 => h h3.1]
      rfl
  have h32 : ∀ (b : Bool) (c d : Int), Lglidepathlaw08_CloudClasses_1000032 (Tglidepathlaw08_CloudClasses_1000032a l.length (encL4 l) off (clsR l s p).1 (clsR l s p).2 b c d (aE l s p) s p) = some (.inr (l.length, encL4 l, off, b, c, d, aE l s p, s, p)) := fun b c d => by
    refine Lglidepathlaw08_CloudClasses_1000032b_of (Rglidepathlaw08_CloudClasses_1000032a_of _ _ _ _ _ _ _ _ _ _ _ ?_)
    unfold Bglidepathlaw08_CloudClasses_1000032a
    rw [clsR_eq]
    simp only [c51, bindO_val, bif_eq, bif_ne]
    by_cases h : aE l s p = 0
    · rw [if_neg (c := aE l s p ≠ 0) (by simp [h])]
      simp only [h, if_true]
      rfl
    · rw [if_pos (c := aE l s p ≠ 0) h]
      simp only [h, if_true, if_false]
      rfl
  have h25 : ∀ (b : Bool) (c : Int), Lglidepathlaw08_CloudClasses_1000025 (Tglidepathlaw08_CloudClasses_1000025a l.length (encL4 l) off b c (both (chkC l).2 (sigE s p)) (aE l s p) s p) = some (l.length, encL4 l, off, b, c, dE l s p off, aE l s p, s, p) := fun b c => by
    refine Lglidepathlaw08_CloudClasses_1000025a_of (Rglidepathlaw08_CloudClasses_1000025a_of _ _ _ _ _ _ _ _ _ ?_)
    unfold Bglidepathlaw08_CloudClasses_1000025a dE
    simp only [within_is, bindO_val, bif_eq, bif_dec]
    by_cases h : both (chkC l).2 (sigE s p) = 0
    · rw [if_pos h, if_pos h]
      by_cases h2 : 0 ≤ off ∧ off ≤ 10
      · rw [if_pos h2, rangeE_in h2, h]
        rfl
      · rw [if_neg h2, rangeE_out h2]
        rfl
    · rw [if_neg h, if_neg h]
      rfl
  simp only [c46, c45, c47, c48, c49, bindO_val, h47, Sum.elim_inr, refSignal_is, both_is, h36, h32, h25, both_eq]
  by_cases he : sureE l s p off = 0
  · obtain ⟨a1, a2, a3, a4⟩ := sureE_ok he
    obtain ⟨b1, b2⟩ := sig_ok a2
    rw [sureR_two he]
    have c52 := refSure_is l (by omega) s p (by omega) (by omega) off.toNat (by omega)
    rw [show ((off.toNat : Nat) : Int) = off by omega] at c52
    have h12 : Lglidepathlaw08_CloudClasses_1000012 (Tglidepathlaw08_CloudClasses_1000012a l.length (encL4 l) off (sureV l s p off.toNat) 0 s p) = some (.inr (l.length, encL4 l, off, sureV l s p off.toNat, s, p)) := by
      refine Lglidepathlaw08_CloudClasses_1000012b_of (Rglidepathlaw08_CloudClasses_1000012a_of _ _ _ _ _ _ _ ?_)
      unfold Bglidepathlaw08_CloudClasses_1000012a
      simp only [c52, bindO_val, bne_self_eq_false, cond_false]
      cases sureV l s p off.toNat <;> rfl
    have wd : w64 (Int.tdiv off 2) = off / 2 := by
      rw [Int.tdiv_eq_ediv_of_nonneg (by omega), w64_in (by omega)]
    have r1 := sureR_two (sureE_less (a := off / 2) he (by omega))
    have r2 := sureR_two (sureE_less (a := 0) he (by omega))
    have z : sureV l s p (0 : Int).toNat = true := sureV_zero l s p
    rw [z] at r2
    simp only [he, bne_self_eq_false, cond_false]
    cases hv : sureV l s p off.toNat with
    | true =>
      rw [hv] at h12
      have hv2 : sureV l s p (off / 2).toNat = true := sureV_less l s p (by omega) hv
      rw [hv2] at r1
      simp only [cond_true, h12, bindO_val, Sum.elim_inr, c46, c48, wd, r1, r2, beq_self_eq_true]
    | false =>
      rw [hv] at h12
      simp only [cond_false, h12, bindO_val, Sum.elim_inr, c46, c48, wd, r1, r2, beq_self_eq_true, cond_true]
      cases sureV l s p (off / 2).toNat <;> rfl
  · have hb : (sureE l s p off != 0) = true := by simp [he]
    rw [sureR_one he]
    simp only [cond_false, hb, cond_true, beq_self_eq_true]
end Gv
