/- ShearTampered holds: whatever the telegram and the numbers, the law answers true. -/
import Derived.Test.YtggnifebabjoiaaGvZc
import Derived.Test.YtggnifebabjoiaaL12
namespace Go.Proofs.Ytggnifebabjoiaa
open Go Gv Go.ChangeShapes Go.WideShapes Go.ChangeAt Go.RowKit
set_option maxRecDepth 100000
theorem shearTampered_run (qs : List PV) (h : FitsArgs [fourS, .arr 3 (.int .i64)] qs) : run env 12 qs = some (.val (.bool true)) := by
  obtain ⟨p1, r1, c1, rfl, f1, e1, p2, r2, c2, rfl, f2, e2, hr⟩ := h
  simp only [FitsArgs] at hr
  subst hr
  obtain ⟨r, n, k, v, rfl⟩ := fits_four f1
  obtain ⟨a, b, c, rfl⟩ := fits_three f2
  have e1 : p1 = .agg _ := e1
  have e2 : p2 = .agg _ := e2
  subst e1
  subst e2
  exact run_true (Gv.tamperedLaw r n k v a b c)
theorem shearTampered_tells : Tells Rows.shearTamperedSpec 2 := by
  refine ⟨rfl, fun H ds hl => ?_, fun H ds hl => ?_, fun H ds hl => ?_⟩ <;>
  · match ds, hl with
    | [d1, d2], _ => rfl
theorem shearTampered_lifted (os : Os) (started : os.Started) (H : Type) (enc : TypeId × Value → H) :
    ReturnsInHanded {} Try.checked os 12 .any (Rows.shearTamperedSpec.pre6 enc Try.prog Try.f12 Rows.shearTamperedRow.domain false) (Rows.shearTamperedSpec.post enc Try.prog Try.f12 false true false false) := by
  refine returnsInHanded_of_change (C := Try.checked) own started (by kernel_rfl) Try.func12
    (ChangeSpec.witness6 (enc := enc) (C := Try.checked) false ⟨#[], #[.agg #[.int .i64 0, .int .i64 0, .int .i64 0, .int .i64 0], .agg #[.int .i64 0, .int .i64 0, .int .i64 0]], []⟩ 8 (by kernel_rfl) (by kernel_rfl) (by kernel_rfl) (by kernel_rfl)) ?_
  intro W base args ds gs before hval hW _ _
  exact contract_true mixed env_ok laid (d := 20) (ss := [fourS, .arr 3 (.int .i64)]) (by kernel_rfl) rfl Try.underlying4 shearTampered_tells shearTampered_run W base args ds gs before hval hW
theorem shearTampered : Rows.ShearTamperedSaid :=
  OpenClaim.holds_of_wide 12 Try.f12 rfl rfl rfl rfl rfl rfl rfl ⟨rfl, rfl, rfl, rfl, rfl⟩ rfl rfl rfl rfl rfl (by kernel_rfl) Try.func12 (by kernel_rfl)
    (of_decide_eq_true (by kernel_rfl)) (by unfold Func.isWrapper; first | (rw [if_pos (by decide +kernel)]; kernel_rfl) | (rw [if_neg (by decide +kernel)]; exact ⟨rfl, rfl⟩))
    (fun os started H enc _ => shearTampered_lifted os started H enc)
#print axioms shearTampered
end Go.Proofs.Ytggnifebabjoiaa
