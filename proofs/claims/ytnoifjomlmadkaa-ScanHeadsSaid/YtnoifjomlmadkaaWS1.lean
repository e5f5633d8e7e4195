/- ScanHeads holds: whatever the head and the direction, the law answers true. -/
import Derived.Test.YtnoifjomlmadkaaWH
import Derived.Test.YtnoifjomlmadkaaSH3
namespace Go.Proofs.Ytnoifjomlmadkaa
open Go Gv Go.ChangeShapes Go.WideShapes Go.ChangeAt Go.RowKit
set_option maxRecDepth 100000

theorem scanHeads_run (qs : List PV) (h : FitsArgs [headS, axS] qs) : run env 6 qs = some (.val (.bool true)) := by
  obtain ⟨p1, r1, c1, rfl, f1, e1, p2, r2, c2, rfl, f2, e2, hr⟩ := h
  simp only [FitsArgs] at hr
  subst hr
  have e1 : p1 = .agg _ := e1
  obtain ⟨h, hh⟩ := fits_head f1
  rw [hh] at e1
  subst e1
  obtain ⟨x, y, rfl⟩ := fits_ax f2
  have e2 : p2 = .agg _ := e2
  subst e2
  exact run_true (headsLaw h x y)

theorem scanHeads_tells : Tells Rows.scanHeadsSpec 2 := by
  refine ⟨rfl, fun H ds hl => ?_, fun H ds hl => ?_, fun H ds hl => ?_⟩ <;>
  · match ds, hl with
    | [d1, d2], _ => rfl

theorem scanHeads_lifted (os : Os) (started : os.Started) (H : Type) (enc : TypeId × Value → H) :
    ReturnsInHanded {} Try.checked os 6 .any (Rows.scanHeadsSpec.pre6 enc Try.prog Try.f6 Rows.scanHeadsRow.domain false) (Rows.scanHeadsSpec.post enc Try.prog Try.f6 false true false false) := by
  refine returnsInHanded_of_change (C := Try.checked) own started (by kernel_rfl) Try.func6
    (ChangeSpec.witness6 (enc := enc) (C := Try.checked) false ⟨#[], #[.agg #[.int .i64 0, .int .i64 0, .int .i64 0, .int .i64 0, .int .i64 0, .int .i64 0, .slice none 0 0], .agg #[.int .i64 0, .int .i64 0]], []⟩ 8 (by kernel_rfl) (by kernel_rfl) (by kernel_rfl) (by kernel_rfl)) ?_
  intro W base args ds gs before hval hW _ _
  exact contract_true mixed env_ok laid (d := 20) (ss := [headS, axS]) (by kernel_rfl) rfl Try.underlying4 scanHeads_tells scanHeads_run W base args ds gs before hval hW

theorem scanHeads : Rows.ScanHeadsSaid :=
  OpenClaim.holds_of_wide 6 Try.f6 rfl rfl rfl rfl rfl rfl rfl ⟨rfl, rfl, rfl, rfl, rfl⟩ rfl rfl rfl rfl rfl (by kernel_rfl) Try.func6 (by kernel_rfl)
    (of_decide_eq_true (by kernel_rfl)) (by unfold Func.isWrapper; first | (rw [if_pos (by decide +kernel)]; kernel_rfl) | (rw [if_neg (by decide +kernel)]; exact ⟨rfl, rfl⟩))
    (fun os started H enc _ => scanHeads_lifted os started H enc)
#print axioms scanHeads
end Go.Proofs.Ytnoifjomlmadkaa
