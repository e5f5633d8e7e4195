/- LineWithin holds: whatever the list of powers and the factor, the law answers true. -/
import Derived.Test.YtdbnojfklmfniaaGvZb
import Derived.Test.YtdbnojfklmfniaaMW2
namespace Go.Proofs.Ytdbnojfklmfniaa
open Go Gv Go.ChangeShapes Go.WideShapes Go.ChangeAt Go.RowKit
set_option maxRecDepth 100000

theorem lineWithin_run (qs : List PV) (h : FitsArgs [.sl (.int .i64), .int .i64] qs) : run env 3 qs = some (.val (.bool true)) := by
  obtain ⟨p1, r1, c1, rfl, f1, e1, p2, r2, c2, rfl, f2, e2, hr⟩ := h
  simp only [FitsArgs] at hr
  subst hr
  obtain ⟨l, rfl⟩ := fits_ints f1 e1
  obtain ⟨x, rfl, _⟩ := fits_num f2 e2
  exact run_true (Gv.withinLaw l x)

theorem lineWithin_tells : Tells Rows.lineWithinSpec 2 := by
  refine ⟨rfl, fun H ds hl => ?_, fun H ds hl => ?_, fun H ds hl => ?_⟩ <;>
  · match ds, hl with
    | [d1, d2], _ => rfl

theorem lineWithin_lifted (os : Os) (started : os.Started) (H : Type) (enc : TypeId × Value → H) :
    ReturnsInHanded {} Try.checked os 3 .any (Rows.lineWithinSpec.pre6 enc Try.prog Try.f3 Rows.lineWithinRow.domain false) (Rows.lineWithinSpec.post enc Try.prog Try.f3 false true false false) := by
  refine returnsInHanded_of_change (C := Try.checked) own started (by kernel_rfl) Try.func3
    (ChangeSpec.witness6 (enc := enc) (C := Try.checked) false ⟨#[], #[.slice none 0 0, .int .i64 0], []⟩ 8 (by kernel_rfl) (by kernel_rfl) (by kernel_rfl) (by kernel_rfl)) ?_
  intro W base args ds gs before hval hW _ _
  exact contract_true mixed env_ok laid (d := 20) (ss := [.sl (.int .i64), .int .i64]) (by kernel_rfl) rfl Try.underlying4 lineWithin_tells lineWithin_run W base args ds gs before hval hW

theorem lineWithin : Rows.LineWithinSaid :=
  OpenClaim.holds_of_wide 3 Try.f3 rfl rfl rfl rfl rfl rfl rfl ⟨rfl, rfl, rfl, rfl, rfl⟩ rfl rfl rfl rfl rfl (by kernel_rfl) Try.func3 (by kernel_rfl)
    (of_decide_eq_true (by kernel_rfl)) (by unfold Func.isWrapper; first | (rw [if_pos (by decide +kernel)]; kernel_rfl) | (rw [if_neg (by decide +kernel)]; exact ⟨rfl, rfl⟩))
    (fun os started H enc _ => lineWithin_lifted os started H enc)
#print axioms lineWithin
end Go.Proofs.Ytdbnojfklmfniaa
