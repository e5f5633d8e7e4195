/- ShearHeadwinds holds: whatever the leg, the box and the parts, the law answers true. -/
import Derived.Test.YtggnifebabjoiaaGvZc
import Derived.Test.YtggnifebabjoiaaS6
namespace Go.Proofs.Ytggnifebabjoiaa
open Go Gv Go.ChangeShapes Go.WideShapes Go.ChangeAt Go.RowKit
set_option maxRecDepth 100000
theorem shearHeadwinds_run (qs : List PV) (h : FitsArgs [legS, boxS, .arr 2 (.int .i64)] qs) : run env 3 qs = some (.val (.bool true)) := by
  obtain ⟨p1, r1, c1, rfl, f1, e1, p2, r2, c2, rfl, f2, e2, p3, r3, c3, rfl, f3, e3, hr⟩ := h
  simp only [FitsArgs] at hr
  subst hr
  obtain ⟨x, y, l, rfl⟩ := fits_leg f1
  obtain ⟨a, b, c, d, rfl⟩ := fits_box f2
  obtain ⟨p, q, rfl⟩ := fits_two f3
  have e1 : p1 = .agg _ := e1
  have e2 : p2 = .agg _ := e2
  have e3 : p3 = .agg _ := e3
  subst e1
  subst e2
  subst e3
  exact run_true (Gv.headwindsLaw x y l a b c d p q)
theorem shearHeadwinds_tells : Tells Rows.shearHeadwindsSpec 3 := by
  refine ⟨rfl, fun H ds hl => ?_, fun H ds hl => ?_, fun H ds hl => ?_⟩ <;>
  · match ds, hl with
    | [d1, d2, d3], _ => rfl
theorem shearHeadwinds_lifted (os : Os) (started : os.Started) (H : Type) (enc : TypeId × Value → H) :
    ReturnsInHanded {} Try.checked os 3 .any (Rows.shearHeadwindsSpec.pre6 enc Try.prog Try.f3 Rows.shearHeadwindsRow.domain false) (Rows.shearHeadwindsSpec.post enc Try.prog Try.f3 false true false false) := by
  refine returnsInHanded_of_change (C := Try.checked) own started (by kernel_rfl) Try.func3
    (ChangeSpec.witness6 (enc := enc) (C := Try.checked) false ⟨#[], #[.agg #[.int .i64 0, .int .i64 0, .int .i64 0], .agg #[.int .i64 0, .int .i64 0, .int .i64 0, .int .i64 0], .agg #[.int .i64 0, .int .i64 0]], []⟩ 8 (by kernel_rfl) (by kernel_rfl) (by kernel_rfl) (by kernel_rfl)) ?_
  intro W base args ds gs before hval hW _ _
  exact contract_true mixed env_ok laid (d := 20) (ss := [legS, boxS, .arr 2 (.int .i64)]) (by kernel_rfl) rfl Try.underlying4 shearHeadwinds_tells shearHeadwinds_run W base args ds gs before hval hW
theorem shearHeadwinds : Rows.ShearHeadwindsSaid :=
  OpenClaim.holds_of_wide 3 Try.f3 rfl rfl rfl rfl rfl rfl rfl ⟨rfl, rfl, rfl, rfl, rfl⟩ rfl rfl rfl rfl rfl (by kernel_rfl) Try.func3 (by kernel_rfl)
    (of_decide_eq_true (by kernel_rfl)) (by unfold Func.isWrapper; first | (rw [if_pos (by decide +kernel)]; kernel_rfl) | (rw [if_neg (by decide +kernel)]; exact ⟨rfl, rfl⟩))
    (fun os started H enc _ => shearHeadwinds_lifted os started H enc)
#print axioms shearHeadwinds
end Go.Proofs.Ytggnifebabjoiaa
