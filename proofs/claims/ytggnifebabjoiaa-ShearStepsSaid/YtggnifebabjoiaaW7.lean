/- ShearSteps holds: whatever the rule, the state and the event, the law answers true. -/
import Derived.Test.YtggnifebabjoiaaGvZc
import Derived.Test.YtggnifebabjoiaaL7
namespace Go.Proofs.Ytggnifebabjoiaa
open Go Gv Go.ChangeShapes Go.WideShapes Go.ChangeAt Go.RowKit
set_option maxRecDepth 100000
theorem shearSteps_run (qs : List PV) (h : FitsArgs [fourS, stateS, clipS] qs) : run env 7 qs = some (.val (.bool true)) := by
  obtain ⟨p1, r1, c1, rfl, f1, e1, p2, r2, c2, rfl, f2, e2, p3, r3, c3, rfl, f3, e3, hr⟩ := h
  simp only [FitsArgs] at hr
  subst hr
  obtain ⟨a, b, c, d, rfl⟩ := fits_four f1
  obtain ⟨t, n, si, h, q, rfl⟩ := fits_state f2
  obtain ⟨x, y, z, rfl⟩ := fits_clip f3
  have e1 : p1 = .agg _ := e1
  have e2 : p2 = .agg _ := e2
  have e3 : p3 = .agg _ := e3
  subst e1
  subst e2
  subst e3
  exact run_true (Gv.stepsLaw (a, b, c, d) (t, n, si, h, q) (x, y, z))
theorem shearSteps_tells : Tells Rows.shearStepsSpec 3 := by
  refine ⟨rfl, fun H ds hl => ?_, fun H ds hl => ?_, fun H ds hl => ?_⟩ <;>
  · match ds, hl with
    | [d1, d2, d3], _ => rfl
theorem shearSteps_lifted (os : Os) (started : os.Started) (H : Type) (enc : TypeId × Value → H) :
    ReturnsInHanded {} Try.checked os 7 .any (Rows.shearStepsSpec.pre6 enc Try.prog Try.f7 Rows.shearStepsRow.domain false) (Rows.shearStepsSpec.post enc Try.prog Try.f7 false true false false) := by
  refine returnsInHanded_of_change (C := Try.checked) own started (by kernel_rfl) Try.func7
    (ChangeSpec.witness6 (enc := enc) (C := Try.checked) false ⟨#[], #[.agg #[.int .i64 0, .int .i64 0, .int .i64 0, .int .i64 0], .agg #[.bool false, .int .i64 0, .int .i64 0, .int .i64 0, .int .i64 0], .agg #[.int .i64 0, .int .i64 0, .int .i64 0]], []⟩ 8 (by kernel_rfl) (by kernel_rfl) (by kernel_rfl) (by kernel_rfl)) ?_
  intro W base args ds gs before hval hW _ _
  exact contract_true mixed env_ok laid (d := 20) (ss := [fourS, stateS, clipS]) (by kernel_rfl) rfl Try.underlying4 shearSteps_tells shearSteps_run W base args ds gs before hval hW
theorem shearSteps : Rows.ShearStepsSaid :=
  OpenClaim.holds_of_wide 7 Try.f7 rfl rfl rfl rfl rfl rfl rfl ⟨rfl, rfl, rfl, rfl, rfl⟩ rfl rfl rfl rfl rfl (by kernel_rfl) Try.func7 (by kernel_rfl)
    (of_decide_eq_true (by kernel_rfl)) (by unfold Func.isWrapper; first | (rw [if_pos (by decide +kernel)]; kernel_rfl) | (rw [if_neg (by decide +kernel)]; exact ⟨rfl, rfl⟩))
    (fun os started H enc _ => shearSteps_lifted os started H enc)
#print axioms shearSteps
end Go.Proofs.Ytggnifebabjoiaa
