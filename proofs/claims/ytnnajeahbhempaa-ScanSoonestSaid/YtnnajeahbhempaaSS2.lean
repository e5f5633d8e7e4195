/- ScanDrives: whatever the drive, the ticks and the distance, the law answers true. -/
import Derived.Test.YtnnajeahbhempaaSS1
import Derived.Test.YtnnajeahbhempaaSP2
import Derived.Test.YtnnajeahbhempaaSA
namespace Gv
open Go
set_option maxRecDepth 100000

theorem both_zz {a b : Int} (h : both a b = 0) : a = 0 ∧ b = 0 := by
  unfold both at h
  split at h
  · rename_i h1; exact absurd h h1
  · rename_i h1; exact ⟨by simpa using h1, h⟩

theorem ticksFor_ok {r a d : Int} (h : both (axE r a) (rangeE d 0 360) = 0) : ∃ T : Nat, T ≤ 360 ∧ Fscan_TicksFor [.agg [.int .i64 r, .int .i64 a], .int .i64 d] = some ((T : Int), 0) ∧ Fglidepathref03_Ticks [.agg [.int .i64 r, .int .i64 a], .int .i64 d] = some (T : Int) ∧
    d ≤ rc r a T ∧ ∀ s, s < T → rc r a s < d := by
  obtain ⟨h1, h2⟩ := both_zz h
  obtain ⟨hr, ha⟩ := axE_ok h1
  obtain ⟨T, a1, a2, a3, a4, a5⟩ := ticks_are hr ha (rangeE_ok h2)
  refine ⟨T, a1, Fscan_TicksFor_of _ _ _ ?_, a3, a4, a5⟩
  unfold tscan_TicksFor
  simp only [checkAxis_is, rangeError_is, firstError2_is, bindO_val, h, bne_self_eq_false, cond_false, a2]
theorem ticksFor_bad {r a d : Int} (h : both (axE r a) (rangeE d 0 360) ≠ 0) : Fscan_TicksFor [.agg [.int .i64 r, .int .i64 a], .int .i64 d] = some (0, both (axE r a) (rangeE d 0 360)) := by
  refine Fscan_TicksFor_of _ _ _ ?_
  unfold tscan_TicksFor
  simp only [checkAxis_is, rangeError_is, firstError2_is, bindO_val]
  rw [bif_ne, if_neg h]

theorem st23 (t d c n e T f r a : Int) : Lglidepathlaw03_ScanDrives_1000023 (Tglidepathlaw03_ScanDrives_1000023a t d c n e T f c r a) = some (t, d, both c (rangeE t 0 1000), n, e, T, f, c, r, a) := by
  refine Lglidepathlaw03_ScanDrives_1000023a_of (Rglidepathlaw03_ScanDrives_1000023a_of _ _ _ _ _ _ _ _ _ _ ?_)
  unfold Bglidepathlaw03_ScanDrives_1000023a both
  rw [bif_eq]
  by_cases h : c = 0
  · subst h
    rw [if_pos rfl, if_neg (by simp)]
    simp only [within_is, bindO_val]
    by_cases h2 : 0 ≤ t ∧ t ≤ 1000
    · rw [bif_pos h2, rangeE_in h2]; rfl
    · rw [bif_neg h2, rangeE_out h2]; rfl
  · rw [if_neg h, if_pos h]; rfl
theorem st19 (t d c n e T f c0 r a : Int) : Lglidepathlaw03_ScanDrives_1000019 (Tglidepathlaw03_ScanDrives_1000019a t d c n e T f c0 r a) = some (t, d, c, n, e, T, f, both c0 (rangeE d 0 360), r, a) := by
  refine Lglidepathlaw03_ScanDrives_1000019a_of (Rglidepathlaw03_ScanDrives_1000019a_of _ _ _ _ _ _ _ _ _ _ ?_)
  unfold Bglidepathlaw03_ScanDrives_1000019a both
  rw [bif_eq]
  by_cases h : c0 = 0
  · subst h
    rw [if_pos rfl, if_neg (by simp)]
    simp only [within_is, bindO_val]
    by_cases h2 : 0 ≤ d ∧ d ≤ 360
    · rw [bif_pos h2, rangeE_in h2]; rfl
    · rw [bif_neg h2, rangeE_out h2]; rfl
  · rw [if_neg h, if_pos h]; rfl
theorem st15_ok (d T f dd r a : Int) (t : Nat) (hr : 1 ≤ r ∧ r ≤ 30) (ha : 1 ≤ a ∧ a ≤ 30) (ht : t ≤ 1000) :
    Lglidepathlaw03_ScanDrives_1000015 (Tglidepathlaw03_ScanDrives_1000015a (t : Int) d 0 (rc r a t) 0 T f dd r a) = some (.inr (d, T, f, dd, r, a)) := by
  refine Lglidepathlaw03_ScanDrives_1000015b_of (Rglidepathlaw03_ScanDrives_1000015a_of _ _ _ _ _ _ _ _ _ _ ?_)
  unfold Bglidepathlaw03_ScanDrives_1000015a
  simp only [refReach_is hr ha t ht, bindO_val, bne_self_eq_false, beq_self_eq_true, cond_false, cond_true]
  rfl
theorem st15_bad (t d c T f dd r a : Int) (hc : c ≠ 0) : Lglidepathlaw03_ScanDrives_1000015 (Tglidepathlaw03_ScanDrives_1000015a t d c 0 c T f dd r a) = some (.inr (d, T, f, dd, r, a)) := by
  refine Lglidepathlaw03_ScanDrives_1000015b_of (Rglidepathlaw03_ScanDrives_1000015a_of _ _ _ _ _ _ _ _ _ _ ?_)
  unfold Bglidepathlaw03_ScanDrives_1000015a
  have h1 : (c != 0) = true := by simpa using hc
  have h2 : (c == 0) = false := by simpa using hc
  simp only [h1, h2, bne_self_eq_false, cond_true, cond_false]
  rfl

theorem drivesLaw (r a t d : Int) : Fglidepathlaw03_ScanDrives [.agg [.int .i64 r, .int .i64 a], .int .i64 t, .int .i64 d] = some true := by
  refine Fglidepathlaw03_ScanDrives_of _ _ _ _ ?_
  unfold tglidepathlaw03_ScanDrives
  have hT : ∃ (T f : Int), Fscan_TicksFor [.agg [.int .i64 r, .int .i64 a], .int .i64 d] = some (T, f) ∧ (both (axE r a) (rangeE d 0 360) = 0 → f = 0 ∧ Fglidepathref03_Ticks [.agg [.int .i64 r, .int .i64 a], .int .i64 d] = some T) ∧ (both (axE r a) (rangeE d 0 360) ≠ 0 → T = 0 ∧ f = both (axE r a) (rangeE d 0 360)) := by
    by_cases h : both (axE r a) (rangeE d 0 360) = 0
    · obtain ⟨T, _, h1, h2, _⟩ := ticksFor_ok h
      exact ⟨_, _, h1, fun _ => ⟨rfl, h2⟩, fun hh => absurd h hh⟩
    · exact ⟨_, _, ticksFor_bad h, fun hh => absurd hh h, fun _ => ⟨rfl, rfl⟩⟩
  obtain ⟨T, f, hTf, hok, hbad⟩ := hT
  have h15 : ∃ n e, Fscan_ReachOf [.agg [.int .i64 r, .int .i64 a], .int .i64 t] = some (n, e) ∧
      ∀ dd, Lglidepathlaw03_ScanDrives_1000015 (Tglidepathlaw03_ScanDrives_1000015a t d (both (axE r a) (rangeE t 0 1000)) n e T f dd r a) = some (.inr (d, T, f, dd, r, a)) := by
    by_cases h : both (axE r a) (rangeE t 0 1000) = 0
    · obtain ⟨h1, h2⟩ := both_zz h
      obtain ⟨hr, ha⟩ := axE_ok h1
      have ht := rangeE_ok h2
      obtain ⟨m, rfl⟩ : ∃ m : Nat, t = m := ⟨t.toNat, by omega⟩
      refine ⟨_, _, by rw [reachOf_is, if_pos h], fun dd => ?_⟩
      rw [h, Int.toNat_natCast]
      exact st15_ok d T f dd r a m hr ha (by omega)
    · refine ⟨_, _, by rw [reachOf_is, if_neg h], fun dd => ?_⟩
      exact st15_bad t d _ T f dd r a h
  obtain ⟨n, e, hR, h15⟩ := h15
  simp only [awake_is, refAxis_is, hR, hTf, checkAxis_is, bindO_val, cond_true, bne_self_eq_false, cond_false, st23, st19, h15, Sum.elim_inr]
  rw [bif_ne]
  by_cases h : both (axE r a) (rangeE d 0 360) = 0
  · obtain ⟨rfl, h2⟩ := hok h
    rw [if_pos h]
    simp only [beq_self_eq_true, cond_true, h2, bindO_val]
  · obtain ⟨rfl, rfl⟩ := hbad h
    rw [if_neg h]
    simp only [beq_self_eq_true, cond_true]
end Gv
