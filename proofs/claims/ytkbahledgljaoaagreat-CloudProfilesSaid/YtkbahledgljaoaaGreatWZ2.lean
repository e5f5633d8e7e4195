/- CloudProfiles holds: whatever the numbers, the constant and the points, the law answers true. -/
import Derived.Test.YtkbahledgljaoaaGreatGvZb
import Derived.Test.YtkbahledgljaoaaGreatZP3
namespace Go.Proofs.YtkbahledgljaoaaGreat
open Go Gv Go.ChangeShapes Go.WideShapes Go.ChangeAt Go.RowKit
set_option maxRecDepth 100000

theorem cloudProfiles_run (qs : List PV) (h : FitsArgs [.sl (.int .i64), .int .i64, .sl gaussS] qs) : run env 3 qs = some (.val (.bool true)) := by
  obtain ⟨p1, r1, c1, rfl, f1, e1, p2, r2, c2, rfl, f2, e2, p3, r3, c3, rfl, f3, e3, hr⟩ := h
  simp only [FitsArgs] at hr
  subst hr
  obtain ⟨l, rfl⟩ := fits_ints f1 e1
  obtain ⟨c, rfl, _⟩ := fits_num f2 e2
  obtain ⟨q, rfl⟩ := fits_gausses f3 e3
  exact run_true (Gv.profilesLaw l c q)

theorem cloudProfiles_tells : Tells Rows.cloudProfilesSpec 3 := by
  refine ⟨rfl, fun H ds hl => ?_, fun H ds hl => ?_, fun H ds hl => ?_⟩ <;>
  · match ds, hl with
    | [d1, d2, d3], _ => rfl

theorem cloudProfiles_lifted (os : Os) (started : os.Started) (H : Type) (enc : TypeId × Value → H) :
    ReturnsInHanded {} Tryz.checked os 3 .any (Rows.cloudProfilesSpec.pre6 enc Tryz.prog Tryz.f3 Rows.cloudProfilesRow.domain false) (Rows.cloudProfilesSpec.post enc Tryz.prog Tryz.f3 false true false false) := by
  refine returnsInHanded_of_change (C := Tryz.checked) own started (by kernel_rfl) Tryz.func3
    (ChangeSpec.witness6 (enc := enc) (C := Tryz.checked) false ⟨#[], #[.slice none 0 0, .int .i64 0, .slice none 0 0], []⟩ 8 (by kernel_rfl) (by kernel_rfl) (by kernel_rfl) (by kernel_rfl)) ?_
  intro W base args ds gs before hval hW _ _
  exact contract_true mixed env_ok laid (d := 20) (ss := [.sl (.int .i64), .int .i64, .sl gaussS]) (by kernel_rfl) rfl Tryz.underlying4 cloudProfiles_tells cloudProfiles_run W base args ds gs before hval hW

theorem cloudProfiles : Rows.CloudProfilesSaid :=
  OpenClaim.holds_of_wide 3 Tryz.f3 rfl rfl rfl rfl rfl rfl rfl ⟨rfl, rfl, rfl, rfl, rfl⟩ rfl rfl rfl rfl rfl (by kernel_rfl) Tryz.func3 (by kernel_rfl)
    (of_decide_eq_true (by kernel_rfl)) (by unfold Func.isWrapper; first | (rw [if_pos (by decide +kernel)]; kernel_rfl) | (rw [if_neg (by decide +kernel)]; exact ⟨rfl, rfl⟩))
    (fun os started H enc _ => cloudProfiles_lifted os started H enc)
#print axioms cloudProfiles
end Go.Proofs.YtkbahledgljaoaaGreat
