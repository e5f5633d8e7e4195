/- PulseCuts holds: whatever the stream, the number of lags and the two cuts, the law answers true. -/
import Derived.Test.YtojjhhhbdcopmaaGvZb
import Derived.Test.YtojjhhhbdcopmaaS45
namespace Go.Proofs.Ytojjhhhbdcopmaa
open Go Gv Go.ChangeShapes Go.WideShapes Go.ChangeAt Go.RowKit
set_option maxRecDepth 100000

theorem pulseCuts_run (qs : List PV) (h : FitsArgs [.sl gaussS, .int .i64, .arr 2 (.int .i64)] qs) : run env 10 qs = some (.val (.bool true)) := by
  obtain ⟨p1, r1, c1, rfl, f1, e1, p2, r2, c2, rfl, f2, e2, p3, r3, c3, rfl, f3, e3, hr⟩ := h
  simp only [FitsArgs] at hr
  subst hr
  obtain ⟨l, rfl⟩ := fits_gausses f1 e1
  obtain ⟨i, rfl, _⟩ := fits_num f2 e2
  obtain ⟨y, z, rfl⟩ := fits_two f3
  have e3 : p3 = .agg _ := e3
  subst e3
  exact run_true (cutsLaw l i y z)

theorem pulseCuts_tells : Tells Rows.pulseCutsSpec 3 := by
  refine ⟨rfl, fun H ds hl => ?_, fun H ds hl => ?_, fun H ds hl => ?_⟩ <;>
  · match ds, hl with
    | [d1, d2, d3], _ => rfl

theorem pulseCuts_lifted (os : Os) (started : os.Started) (H : Type) (enc : TypeId × Value → H) :
    ReturnsInHanded {} Try.checked os 10 .any (Rows.pulseCutsSpec.pre6 enc Try.prog Try.f10 Rows.pulseCutsRow.domain false) (Rows.pulseCutsSpec.post enc Try.prog Try.f10 false true false false) := by
  refine returnsInHanded_of_change (C := Try.checked) own started (by kernel_rfl) Try.func10
    (ChangeSpec.witness6 (enc := enc) (C := Try.checked) false ⟨#[], #[.slice none 0 0, .int .i64 0, .agg #[.int .i64 0, .int .i64 0]], []⟩ 8 (by kernel_rfl) (by kernel_rfl) (by kernel_rfl) (by kernel_rfl)) ?_
  intro W base args ds gs before hval hW _ _
  exact contract_true mixed env_ok laid (d := 20) (ss := [.sl gaussS, .int .i64, .arr 2 (.int .i64)]) (by kernel_rfl) rfl Try.underlying4 pulseCuts_tells pulseCuts_run W base args ds gs before hval hW

theorem pulseCuts : Rows.PulseCutsSaid :=
  OpenClaim.holds_of_wide 10 Try.f10 rfl rfl rfl rfl rfl rfl rfl ⟨rfl, rfl, rfl, rfl, rfl⟩ rfl rfl rfl rfl rfl (by kernel_rfl) Try.func10 (by kernel_rfl)
    (of_decide_eq_true (by kernel_rfl)) (by unfold Func.isWrapper; first | (rw [if_pos (by decide +kernel)]; kernel_rfl) | (rw [if_neg (by decide +kernel)]; exact ⟨rfl, rfl⟩))
    (fun os started H enc _ => pulseCuts_lifted os started H enc)
#print axioms pulseCuts
end Go.Proofs.Ytojjhhhbdcopmaa
