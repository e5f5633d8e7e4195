/- CloudPotentials holds: whatever the numbers, the penalty and the potentials, the law answers true. -/
import Derived.Test.YtkbahledgljaoaaGvZb
import Derived.Test.YtkbahledgljaoaaCQ8
namespace Go.Proofs.Ytkbahledgljaoaa
open Go Gv Go.ChangeShapes Go.WideShapes Go.ChangeAt Go.RowKit
set_option maxRecDepth 100000

theorem cloudPotentials_run (qs : List PV) (h : FitsArgs [.sl (.int .i64), .int .i64, .sl (.int .i64)] qs) : run env 5 qs = some (.val (.bool true)) := by
  obtain ⟨p1, r1, c1, rfl, f1, e1, p2, r2, c2, rfl, f2, e2, p3, r3, c3, rfl, f3, e3, hr⟩ := h
  simp only [FitsArgs] at hr
  subst hr
  obtain ⟨l, rfl⟩ := fits_ints f1 e1
  obtain ⟨e, rfl, _⟩ := fits_num f2 e2
  obtain ⟨s, rfl⟩ := fits_ints f3 e3
  exact run_true (Gv.potentialsLaw l e s)

theorem cloudPotentials_tells : Tells Rows.cloudPotentialsSpec 3 := by
  refine ⟨rfl, fun H ds hl => ?_, fun H ds hl => ?_, fun H ds hl => ?_⟩ <;>
  · match ds, hl with
    | [d1, d2, d3], _ => rfl

theorem cloudPotentials_lifted (os : Os) (started : os.Started) (H : Type) (enc : TypeId × Value → H) :
    ReturnsInHanded {} Try.checked os 5 .any (Rows.cloudPotentialsSpec.pre6 enc Try.prog Try.f5 Rows.cloudPotentialsRow.domain false) (Rows.cloudPotentialsSpec.post enc Try.prog Try.f5 false true false false) := by
  refine returnsInHanded_of_change (C := Try.checked) own started (by kernel_rfl) Try.func5
    (ChangeSpec.witness6 (enc := enc) (C := Try.checked) false ⟨#[], #[.slice none 0 0, .int .i64 0, .slice none 0 0], []⟩ 8 (by kernel_rfl) (by kernel_rfl) (by kernel_rfl) (by kernel_rfl)) ?_
  intro W base args ds gs before hval hW _ _
  exact contract_true mixed env_ok laid (d := 20) (ss := [.sl (.int .i64), .int .i64, .sl (.int .i64)]) (by kernel_rfl) rfl Try.underlying4 cloudPotentials_tells cloudPotentials_run W base args ds gs before hval hW

theorem cloudPotentials : Rows.CloudPotentialsSaid :=
  OpenClaim.holds_of_wide 5 Try.f5 rfl rfl rfl rfl rfl rfl rfl ⟨rfl, rfl, rfl, rfl, rfl⟩ rfl rfl rfl rfl rfl (by kernel_rfl) Try.func5 (by kernel_rfl)
    (of_decide_eq_true (by kernel_rfl)) (by unfold Func.isWrapper; first | (rw [if_pos (by decide +kernel)]; kernel_rfl) | (rw [if_neg (by decide +kernel)]; exact ⟨rfl, rfl⟩))
    (fun os started H enc _ => cloudPotentials_lifted os started H enc)
#print axioms cloudPotentials
end Go.Proofs.Ytkbahledgljaoaa
