/- WakeCheapest holds: whatever the matrix and the number of the other assignment, the law answers true. -/
import Derived.Test.YtpbpkbckgifhdaaGreatGvZw
import Derived.Test.YtpbpkbckgifhdaaGreatL3
namespace Go.Proofs.YtpbpkbckgifhdaaGreat
open Go Gv Go.ChangeShapes Go.WideShapes Go.ChangeAt Go.RowKit
set_option maxRecDepth 100000
theorem wakeCheapest_run (qs : List PV) (h : FitsArgs [.sl (.sl (.int .i64)), .int .i64] qs) : run env 3 qs = some (.val (.bool true)) := by
 obtain ⟨p1, r1, c1, rfl, f1, e1, p2, r2, c2, rfl, f2, e2, hr⟩ := h
 simp only [FitsArgs] at hr
 subst hr
 obtain ⟨L, rfl⟩ := fits_lists f1 e1
 obtain ⟨n, rfl, _⟩ := f2
 have e2 : [p2] = [.int .i64 n] := e2
 cases e2
 exact run_true (Gv.cheapestLaw L n)
theorem wakeCheapest_tells : Tells Rows.wakeCheapestSpec 2 := by
 refine ⟨rfl, fun H ds hl => ?_, fun H ds hl => ?_, fun H ds hl => ?_⟩ <;>
 ·match ds, hl with
  | [d1, d2], _ => rfl
theorem wakeCheapest_lifted (os : Os) (started : os.Started) (H : Type) (enc : TypeId × Value → H) :
  ReturnsInHanded {} Tryz.checked os 3 .any (Rows.wakeCheapestSpec.pre6 enc Tryz.prog Tryz.f3 Rows.wakeCheapestRow.domain false) (Rows.wakeCheapestSpec.post enc Tryz.prog Tryz.f3 false true false false) := by
 refine returnsInHanded_of_change (C := Tryz.checked) own started (by kernel_rfl) Tryz.func3
  (ChangeSpec.witness6 (enc := enc) (C := Tryz.checked) false ⟨#[], #[.slice none 0 0, .int .i64 0], []⟩ 8 (by kernel_rfl) (by kernel_rfl) (by kernel_rfl) (by kernel_rfl)) ?_
 intro W base args ds gs before hval hW _ _
 exact contract_true mixed env_ok laid (d := 20) (ss := [.sl (.sl (.int .i64)), .int .i64]) (by kernel_rfl) rfl Tryz.underlying4 wakeCheapest_tells wakeCheapest_run W base args ds gs before hval hW
theorem wakeCheapest : Rows.WakeCheapestSaid :=
 OpenClaim.holds_of_wide 3 Tryz.f3 rfl rfl rfl rfl rfl rfl rfl ⟨rfl, rfl, rfl, rfl, rfl⟩ rfl rfl rfl rfl rfl (by kernel_rfl) Tryz.func3 (by kernel_rfl)
  (of_decide_eq_true (by kernel_rfl)) (by unfold Func.isWrapper; first | (rw [if_pos (by decide +kernel)]; kernel_rfl) | (rw [if_neg (by decide +kernel)]; exact ⟨rfl, rfl⟩))
  (fun os started H enc _ => wakeCheapest_lifted os started H enc)
#print axioms wakeCheapest
end Go.Proofs.YtpbpkbckgifhdaaGreat
