/- CloudSegments holds: whatever the numbers, the penalty and the range, the law answers true. -/
import Derived.Test.YtkbahledgljaoaaGvZb
import Derived.Test.YtkbahledgljaoaaCG7
namespace Go.Proofs.Ytkbahledgljaoaa
open Go Gv Go.ChangeShapes Go.WideShapes Go.ChangeAt Go.RowKit
set_option maxRecDepth 100000

theorem cloudSegments_run (qs : List PV) (h : FitsArgs [.sl (.int .i64), .int .i64, gaussS] qs) : run env 4 qs = some (.val (.bool true)) := by
  obtain ⟨p1, r1, c1, rfl, f1, e1, p2, r2, c2, rfl, f2, e2, p3, r3, c3, rfl, f3, e3, hr⟩ := h
  simp only [FitsArgs] at hr
  subst hr
  obtain ⟨l, rfl⟩ := fits_ints f1 e1
  obtain ⟨c, rfl, _⟩ := fits_num f2 e2
  obtain ⟨z, rfl⟩ := fits_gauss f3
  have e3 : p3 = .agg _ := e3
  subst e3
  exact run_true (Gv.segmentsLaw l c z.1 z.2)

theorem cloudSegments_tells : Tells Rows.cloudSegmentsSpec 3 := by
  refine ⟨rfl, fun H ds hl => ?_, fun H ds hl => ?_, fun H ds hl => ?_⟩ <;>
  · match ds, hl with
    | [d1, d2, d3], _ => rfl

theorem cloudSegments_lifted (os : Os) (started : os.Started) (H : Type) (enc : TypeId × Value → H) :
    ReturnsInHanded {} Try.checked os 4 .any (Rows.cloudSegmentsSpec.pre6 enc Try.prog Try.f4 Rows.cloudSegmentsRow.domain false) (Rows.cloudSegmentsSpec.post enc Try.prog Try.f4 false true false false) := by
  refine returnsInHanded_of_change (C := Try.checked) own started (by kernel_rfl) Try.func4
    (ChangeSpec.witness6 (enc := enc) (C := Try.checked) false ⟨#[], #[.slice none 0 0, .int .i64 0, .agg #[.int .i64 0, .int .i64 0]], []⟩ 8 (by kernel_rfl) (by kernel_rfl) (by kernel_rfl) (by kernel_rfl)) ?_
  intro W base args ds gs before hval hW _ _
  exact contract_true mixed env_ok laid (d := 20) (ss := [.sl (.int .i64), .int .i64, gaussS]) (by kernel_rfl) rfl Try.underlying4 cloudSegments_tells cloudSegments_run W base args ds gs before hval hW

theorem cloudSegments : Rows.CloudSegmentsSaid :=
  OpenClaim.holds_of_wide 4 Try.f4 rfl rfl rfl rfl rfl rfl rfl ⟨rfl, rfl, rfl, rfl, rfl⟩ rfl rfl rfl rfl rfl (by kernel_rfl) Try.func4 (by kernel_rfl)
    (of_decide_eq_true (by kernel_rfl)) (by unfold Func.isWrapper; first | (rw [if_pos (by decide +kernel)]; kernel_rfl) | (rw [if_neg (by decide +kernel)]; exact ⟨rfl, rfl⟩))
    (fun os started H enc _ => cloudSegments_lifted os started H enc)
#print axioms cloudSegments
end Go.Proofs.Ytkbahledgljaoaa
