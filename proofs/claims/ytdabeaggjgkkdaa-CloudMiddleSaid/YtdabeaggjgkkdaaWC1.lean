/- CloudMiddle holds: whatever the numbers, the law answers true. -/
import Derived.Test.YtdabeaggjgkkdaaGvZb
import Derived.Test.YtdabeaggjgkkdaaCS3
namespace Go.Proofs.Ytdabeaggjgkkdaa
open Go Gv Go.ChangeShapes Go.WideShapes Go.ChangeAt Go.RowKit
set_option maxRecDepth 100000

theorem cloudMiddle_run (qs : List PV) (h : FitsArgs [.sl (.int .i64), .sl (.int .i64)] qs) : run env 8 qs = some (.val (.bool true)) := by
  obtain ⟨p1, r1, c1, rfl, f1, e1, p2, r2, c2, rfl, f2, e2, hr⟩ := h
  simp only [FitsArgs] at hr
  subst hr
  obtain ⟨s, rfl⟩ := fits_ints f1 e1
  obtain ⟨o, rfl⟩ := fits_ints f2 e2
  exact run_true (Gv.middleLaw s o)

theorem cloudMiddle_tells : Tells Rows.cloudMiddleSpec 2 := by
  refine ⟨rfl, fun H ds hl => ?_, fun H ds hl => ?_, fun H ds hl => ?_⟩ <;>
  · match ds, hl with
    | [d1, d2], _ => rfl

theorem cloudMiddle_lifted (os : Os) (started : os.Started) (H : Type) (enc : TypeId × Value → H) :
    ReturnsInHanded {} Try.checked os 8 .any (Rows.cloudMiddleSpec.pre6 enc Try.prog Try.f8 Rows.cloudMiddleRow.domain false) (Rows.cloudMiddleSpec.post enc Try.prog Try.f8 false true false false) := by
  refine returnsInHanded_of_change (C := Try.checked) own started (by kernel_rfl) Try.func8
    (ChangeSpec.witness6 (enc := enc) (C := Try.checked) false ⟨#[], #[.slice none 0 0, .slice none 0 0], []⟩ 8 (by kernel_rfl) (by kernel_rfl) (by kernel_rfl) (by kernel_rfl)) ?_
  intro W base args ds gs before hval hW _ _
  exact contract_true mixed env_ok laid (d := 20) (ss := [.sl (.int .i64), .sl (.int .i64)]) (by kernel_rfl) rfl Try.underlying4 cloudMiddle_tells cloudMiddle_run W base args ds gs before hval hW

theorem cloudMiddle : Rows.CloudMiddleSaid :=
  OpenClaim.holds_of_wide 8 Try.f8 rfl rfl rfl rfl rfl rfl rfl ⟨rfl, rfl, rfl, rfl, rfl⟩ rfl rfl rfl rfl rfl (by kernel_rfl) Try.func8 (by kernel_rfl)
    (of_decide_eq_true (by kernel_rfl)) (by unfold Func.isWrapper; first | (rw [if_pos (by decide +kernel)]; kernel_rfl) | (rw [if_neg (by decide +kernel)]; exact ⟨rfl, rfl⟩))
    (fun os started H enc _ => cloudMiddle_lifted os started H enc)
#print axioms cloudMiddle
end Go.Proofs.Ytdabeaggjgkkdaa
