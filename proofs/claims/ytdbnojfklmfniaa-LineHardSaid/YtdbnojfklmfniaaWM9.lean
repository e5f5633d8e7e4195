/- LineHard holds: whatever the gates, the rule of hard targets and the further percentage, the law answers true. -/
import Derived.Test.YtdbnojfklmfniaaGvZb
import Derived.Test.YtdbnojfklmfniaaMS9
namespace Go.Proofs.Ytdbnojfklmfniaa
open Go Gv Go.ChangeShapes Go.WideShapes Go.ChangeAt Go.RowKit
set_option maxRecDepth 100000

theorem lineHard_run (qs : List PV) (h : FitsArgs [.sl (.sl (.int .i64)), fourS, .int .i64] qs) : run env 8 qs = some (.val (.bool true)) := by
  obtain ⟨p1, r1, c1, rfl, f1, e1, p2, r2, c2, rfl, f2, e2, p3, r3, c3, rfl, f3, e3, hr⟩ := h
  simp only [FitsArgs] at hr
  subst hr
  obtain ⟨g, rfl⟩ := fits_lists f1 e1
  obtain ⟨z, w, p, q, rfl⟩ := fits_four f2
  obtain ⟨m, rfl, _⟩ := fits_num f3 e3
  have e2 : p2 = .agg _ := e2
  subst e2
  exact run_true (Gv.hardLaw g z w p q m)

theorem lineHard_tells : Tells Rows.lineHardSpec 3 := by
  refine ⟨rfl, fun H ds hl => ?_, fun H ds hl => ?_, fun H ds hl => ?_⟩ <;>
  · match ds, hl with
    | [d1, d2, d3], _ => rfl

theorem lineHard_lifted (os : Os) (started : os.Started) (H : Type) (enc : TypeId × Value → H) :
    ReturnsInHanded {} Try.checked os 8 .any (Rows.lineHardSpec.pre6 enc Try.prog Try.f8 Rows.lineHardRow.domain false) (Rows.lineHardSpec.post enc Try.prog Try.f8 false true false false) := by
  refine returnsInHanded_of_change (C := Try.checked) own started (by kernel_rfl) Try.func8
    (ChangeSpec.witness6 (enc := enc) (C := Try.checked) false ⟨#[], #[.slice none 0 0, .agg #[.int .i64 0, .int .i64 0, .int .i64 0, .int .i64 0], .int .i64 0], []⟩ 8 (by kernel_rfl) (by kernel_rfl) (by kernel_rfl) (by kernel_rfl)) ?_
  intro W base args ds gs before hval hW _ _
  exact contract_true mixed env_ok laid (d := 20) (ss := [.sl (.sl (.int .i64)), fourS, .int .i64]) (by kernel_rfl) rfl Try.underlying4 lineHard_tells lineHard_run W base args ds gs before hval hW

theorem lineHard : Rows.LineHardSaid :=
  OpenClaim.holds_of_wide 8 Try.f8 rfl rfl rfl rfl rfl rfl rfl ⟨rfl, rfl, rfl, rfl, rfl⟩ rfl rfl rfl rfl rfl (by kernel_rfl) Try.func8 (by kernel_rfl)
    (of_decide_eq_true (by kernel_rfl)) (by unfold Func.isWrapper; first | (rw [if_pos (by decide +kernel)]; kernel_rfl) | (rw [if_neg (by decide +kernel)]; exact ⟨rfl, rfl⟩))
    (fun os started H enc _ => lineHard_lifted os started H enc)
#print axioms lineHard
end Go.Proofs.Ytdbnojfklmfniaa
