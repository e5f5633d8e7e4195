/- ShearSilent holds: whatever the rule, the events and the numbers, the law answers true. -/
import Derived.Test.YtggnifebabjoiaaGvZc
import Derived.Test.YtggnifebabjoiaaL10
namespace Go.Proofs.Ytggnifebabjoiaa
open Go Gv Go.ChangeShapes Go.WideShapes Go.ChangeAt Go.RowKit
set_option maxRecDepth 100000
theorem shearSilent_run (qs : List PV) (h : FitsArgs [fourS, .sl clipS, .arr 2 (.int .i64)] qs) : run env 10 qs = some (.val (.bool true)) := by
  obtain ⟨p1, r1, c1, rfl, f1, e1, p2, r2, c2, rfl, f2, e2, p3, r3, c3, rfl, f3, e3, hr⟩ := h
  simp only [FitsArgs] at hr
  subst hr
  obtain ⟨a, b, c, d, rfl⟩ := fits_four f1
  obtain ⟨l, rfl⟩ := fits_events f2 e2
  obtain ⟨x, y, rfl⟩ := fits_two f3
  have e1 : p1 = .agg _ := e1
  have e3 : p3 = .agg _ := e3
  subst e1
  subst e3
  exact run_true (Gv.silentLaw (a, b, c, d) l x y)
theorem shearSilent_tells : Tells Rows.shearSilentSpec 3 := by
  refine ⟨rfl, fun H ds hl => ?_, fun H ds hl => ?_, fun H ds hl => ?_⟩ <;>
  · match ds, hl with
    | [d1, d2, d3], _ => rfl
theorem shearSilent_lifted (os : Os) (started : os.Started) (H : Type) (enc : TypeId × Value → H) :
    ReturnsInHanded {} Try.checked os 10 .any (Rows.shearSilentSpec.pre6 enc Try.prog Try.f10 Rows.shearSilentRow.domain false) (Rows.shearSilentSpec.post enc Try.prog Try.f10 false true false false) := by
  refine returnsInHanded_of_change (C := Try.checked) own started (by kernel_rfl) Try.func10
    (ChangeSpec.witness6 (enc := enc) (C := Try.checked) false ⟨#[], #[.agg #[.int .i64 0, .int .i64 0, .int .i64 0, .int .i64 0], .slice none 0 0, .agg #[.int .i64 0, .int .i64 0]], []⟩ 8 (by kernel_rfl) (by kernel_rfl) (by kernel_rfl) (by kernel_rfl)) ?_
  intro W base args ds gs before hval hW _ _
  exact contract_true mixed env_ok laid (d := 20) (ss := [fourS, .sl clipS, .arr 2 (.int .i64)]) (by kernel_rfl) rfl Try.underlying4 shearSilent_tells shearSilent_run W base args ds gs before hval hW
theorem shearSilent : Rows.ShearSilentSaid :=
  OpenClaim.holds_of_wide 10 Try.f10 rfl rfl rfl rfl rfl rfl rfl ⟨rfl, rfl, rfl, rfl, rfl⟩ rfl rfl rfl rfl rfl (by kernel_rfl) Try.func10 (by kernel_rfl)
    (of_decide_eq_true (by kernel_rfl)) (by unfold Func.isWrapper; first | (rw [if_pos (by decide +kernel)]; kernel_rfl) | (rw [if_neg (by decide +kernel)]; exact ⟨rfl, rfl⟩))
    (fun os started H enc _ => shearSilent_lifted os started H enc)
#print axioms shearSilent
end Go.Proofs.Ytggnifebabjoiaa
