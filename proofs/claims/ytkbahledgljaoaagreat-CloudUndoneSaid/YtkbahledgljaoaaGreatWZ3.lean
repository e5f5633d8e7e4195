/- CloudUndone holds: whatever the numbers and the constants, the law answers true. -/
import Derived.Test.YtkbahledgljaoaaGreatGvZb
import Derived.Test.YtkbahledgljaoaaGreatZU3
namespace Go.Proofs.YtkbahledgljaoaaGreat
open Go Gv Go.ChangeShapes Go.WideShapes Go.ChangeAt Go.RowKit
set_option maxRecDepth 100000

theorem cloudUndone_run (qs : List PV) (h : FitsArgs [.sl (.int .i64), .int .i64, .int .i64] qs) : run env 5 qs = some (.val (.bool true)) := by
  obtain ⟨p1, r1, c1, rfl, f1, e1, p2, r2, c2, rfl, f2, e2, p3, r3, c3, rfl, f3, e3, hr⟩ := h
  simp only [FitsArgs] at hr
  subst hr
  obtain ⟨l, rfl⟩ := fits_ints f1 e1
  obtain ⟨c, rfl, _⟩ := fits_num f2 e2
  obtain ⟨m, rfl, _⟩ := fits_num f3 e3
  exact run_true (Gv.undoneLaw l c m)

theorem cloudUndone_tells : Tells Rows.cloudUndoneSpec 3 := by
  refine ⟨rfl, fun H ds hl => ?_, fun H ds hl => ?_, fun H ds hl => ?_⟩ <;>
  · match ds, hl with
    | [d1, d2, d3], _ => rfl

theorem cloudUndone_lifted (os : Os) (started : os.Started) (H : Type) (enc : TypeId × Value → H) :
    ReturnsInHanded {} Tryz.checked os 5 .any (Rows.cloudUndoneSpec.pre6 enc Tryz.prog Tryz.f5 Rows.cloudUndoneRow.domain false) (Rows.cloudUndoneSpec.post enc Tryz.prog Tryz.f5 false true false false) := by
  refine returnsInHanded_of_change (C := Tryz.checked) own started (by kernel_rfl) Tryz.func5
    (ChangeSpec.witness6 (enc := enc) (C := Tryz.checked) false ⟨#[], #[.slice none 0 0, .int .i64 0, .int .i64 0], []⟩ 8 (by kernel_rfl) (by kernel_rfl) (by kernel_rfl) (by kernel_rfl)) ?_
  intro W base args ds gs before hval hW _ _
  exact contract_true mixed env_ok laid (d := 20) (ss := [.sl (.int .i64), .int .i64, .int .i64]) (by kernel_rfl) rfl Tryz.underlying4 cloudUndone_tells cloudUndone_run W base args ds gs before hval hW

theorem cloudUndone : Rows.CloudUndoneSaid :=
  OpenClaim.holds_of_wide 5 Tryz.f5 rfl rfl rfl rfl rfl rfl rfl ⟨rfl, rfl, rfl, rfl, rfl⟩ rfl rfl rfl rfl rfl (by kernel_rfl) Tryz.func5 (by kernel_rfl)
    (of_decide_eq_true (by kernel_rfl)) (by unfold Func.isWrapper; first | (rw [if_pos (by decide +kernel)]; kernel_rfl) | (rw [if_neg (by decide +kernel)]; exact ⟨rfl, rfl⟩))
    (fun os started H enc _ => cloudUndone_lifted os started H enc)
#print axioms cloudUndone
end Go.Proofs.YtkbahledgljaoaaGreat
