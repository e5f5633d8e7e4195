/- WakeMatrices holds: whatever the matrix, the law answers true. -/
import Derived.Test.YtpbpkbckgifhdaaGvZw
import Derived.Test.YtpbpkbckgifhdaaL4
namespace Go.Proofs.Ytpbpkbckgifhdaa
open Go Gv Go.ChangeShapes Go.WideShapes Go.ChangeAt Go.RowKit
set_option maxRecDepth 100000
theorem wakeMatrices_run (qs : List PV) (h : FitsArgs [.sl (.sl (.int .i64))] qs) : run env 4 qs = some (.val (.bool true)) := by
  obtain ⟨p1, r1, c1, rfl, f1, e1, hr⟩ := h
  simp only [FitsArgs] at hr
  subst hr
  obtain ⟨L, rfl⟩ := fits_lists f1 e1
  exact run_true (Gv.matricesLaw L)
theorem wakeMatrices_tells : Tells Rows.wakeMatricesSpec 1 := by
  refine ⟨rfl, fun H ds hl => ?_, fun H ds hl => ?_, fun H ds hl => ?_⟩ <;>
  · match ds, hl with
    | [d1], _ => rfl
theorem wakeMatrices_lifted (os : Os) (started : os.Started) (H : Type) (enc : TypeId × Value → H) :
    ReturnsInHanded {} Try.checked os 4 .any (Rows.wakeMatricesSpec.pre6 enc Try.prog Try.f4 Rows.wakeMatricesRow.domain false) (Rows.wakeMatricesSpec.post enc Try.prog Try.f4 false true false false) := by
  refine returnsInHanded_of_change (C := Try.checked) own started (by kernel_rfl) Try.func4
    (ChangeSpec.witness6 (enc := enc) (C := Try.checked) false ⟨#[], #[.slice none 0 0], []⟩ 8 (by kernel_rfl) (by kernel_rfl) (by kernel_rfl) (by kernel_rfl)) ?_
  intro W base args ds gs before hval hW _ _
  exact contract_true mixed env_ok laid (d := 20) (ss := [.sl (.sl (.int .i64))]) (by kernel_rfl) rfl Try.underlying4 wakeMatrices_tells wakeMatrices_run W base args ds gs before hval hW
theorem wakeMatrices : Rows.WakeMatricesSaid :=
  OpenClaim.holds_of_wide 4 Try.f4 rfl rfl rfl rfl rfl rfl rfl ⟨rfl, rfl, rfl, rfl, rfl⟩ rfl rfl rfl rfl rfl (by kernel_rfl) Try.func4 (by kernel_rfl)
    (of_decide_eq_true (by kernel_rfl)) (by unfold Func.isWrapper; first | (rw [if_pos (by decide +kernel)]; kernel_rfl) | (rw [if_neg (by decide +kernel)]; exact ⟨rfl, rfl⟩))
    (fun os started H enc _ => wakeMatrices_lifted os started H enc)
#print axioms wakeMatrices
end Go.Proofs.Ytpbpkbckgifhdaa
