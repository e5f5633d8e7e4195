/- ShearCertified holds: whatever the profile, the parts and the numbers, the law answers true. -/
import Derived.Test.YtggnifebabjoiaaGvZc
import Derived.Test.YtggnifebabjoiaaL5b
namespace Go.Proofs.Ytggnifebabjoiaa
open Go Gv Go.ChangeShapes Go.WideShapes Go.ChangeAt Go.RowKit
set_option maxRecDepth 100000
theorem shearCertified_run (qs : List PV) (h : FitsArgs [.sl clipS, .sl (.int .i64), .arr 2 (.int .i64)] qs) : run env 5 qs = some (.val (.bool true)) := by
  obtain ⟨p1, r1, c1, rfl, f1, e1, p2, r2, c2, rfl, f2, e2, p3, r3, c3, rfl, f3, e3, hr⟩ := h
  simp only [FitsArgs] at hr
  subst hr
  obtain ⟨l, rfl⟩ := fits_events f1 e1
  obtain ⟨ps, rfl⟩ := fits_ints f2 e2
  obtain ⟨a, b, rfl⟩ := fits_two f3
  have e3 : p3 = .agg _ := e3
  subst e3
  exact run_true (Gv.certifiedLaw l ps a b)
theorem shearCertified_tells : Tells Rows.shearCertifiedSpec 3 := by
  refine ⟨rfl, fun H ds hl => ?_, fun H ds hl => ?_, fun H ds hl => ?_⟩ <;>
  · match ds, hl with
    | [d1, d2, d3], _ => rfl
theorem shearCertified_lifted (os : Os) (started : os.Started) (H : Type) (enc : TypeId × Value → H) :
    ReturnsInHanded {} Try.checked os 5 .any (Rows.shearCertifiedSpec.pre6 enc Try.prog Try.f5 Rows.shearCertifiedRow.domain false) (Rows.shearCertifiedSpec.post enc Try.prog Try.f5 false true false false) := by
  refine returnsInHanded_of_change (C := Try.checked) own started (by kernel_rfl) Try.func5
    (ChangeSpec.witness6 (enc := enc) (C := Try.checked) false ⟨#[], #[.slice none 0 0, .slice none 0 0, .agg #[.int .i64 0, .int .i64 0]], []⟩ 8 (by kernel_rfl) (by kernel_rfl) (by kernel_rfl) (by kernel_rfl)) ?_
  intro W base args ds gs before hval hW _ _
  exact contract_true mixed env_ok laid (d := 20) (ss := [.sl clipS, .sl (.int .i64), .arr 2 (.int .i64)]) (by kernel_rfl) rfl Try.underlying4 shearCertified_tells shearCertified_run W base args ds gs before hval hW
theorem shearCertified : Rows.ShearCertifiedSaid :=
  OpenClaim.holds_of_wide 5 Try.f5 rfl rfl rfl rfl rfl rfl rfl ⟨rfl, rfl, rfl, rfl, rfl⟩ rfl rfl rfl rfl rfl (by kernel_rfl) Try.func5 (by kernel_rfl)
    (of_decide_eq_true (by kernel_rfl)) (by unfold Func.isWrapper; first | (rw [if_pos (by decide +kernel)]; kernel_rfl) | (rw [if_neg (by decide +kernel)]; exact ⟨rfl, rfl⟩))
    (fun os started H enc _ => shearCertified_lifted os started H enc)
#print axioms shearCertified
end Go.Proofs.Ytggnifebabjoiaa
