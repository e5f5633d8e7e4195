/- WakeCrossed holds: whatever the flown box, the drift and the corridor, the law answers true. -/
import Derived.Test.YtpbpkbckgifhdaaGvZw
import Derived.Test.YtpbpkbckgifhdaaL11
namespace Go.Proofs.Ytpbpkbckgifhdaa
open Go Gv Go.ChangeShapes Go.WideShapes Go.ChangeAt Go.RowKit
set_option maxRecDepth 100000
theorem wakeCrossed_run (qs : List PV) (h : FitsArgs [flownS, box6S, corrS] qs) : run env 11 qs = some (.val (.bool true)) := by
  obtain ⟨p1, r1, c1, rfl, f1, e1, p2, r2, c2, rfl, f2, e2, p3, r3, c3, rfl, f3, e3, hr⟩ := h
  simp only [FitsArgs] at hr
  subst hr
  obtain ⟨b, l, rfl, _⟩ := fits_flown f1
  obtain ⟨d, rfl⟩ := fits_box6 f2
  obtain ⟨y0, y1, z0, z1, li, fr, to, rfl⟩ := fits_corr f3
  have e1 : p1 = .agg _ := e1
  have e2 : p2 = .agg _ := e2
  have e3 : p3 = .agg _ := e3
  subst e1
  subst e2
  subst e3
  exact run_true (Gv.crossedLaw b d (y0, y1, z0, z1, li, fr, to) l)
theorem wakeCrossed_tells : Tells Rows.wakeCrossedSpec 3 := by
  refine ⟨rfl, fun H ds hl => ?_, fun H ds hl => ?_, fun H ds hl => ?_⟩ <;>
  · match ds, hl with
    | [d1, d2, d3], _ => rfl
theorem wakeCrossed_lifted (os : Os) (started : os.Started) (H : Type) (enc : TypeId × Value → H) :
    ReturnsInHanded {} Try.checked os 11 .any (Rows.wakeCrossedSpec.pre6 enc Try.prog Try.f11 Rows.wakeCrossedRow.domain false) (Rows.wakeCrossedSpec.post enc Try.prog Try.f11 false true false false) := by
  refine returnsInHanded_of_change (C := Try.checked) own started (by kernel_rfl) Try.func11
    (ChangeSpec.witness6 (enc := enc) (C := Try.checked) false ⟨#[], #[.agg #[.int .i64 0, .int .i64 0, .int .i64 0, .int .i64 0, .int .i64 0, .int .i64 0, .slice none 0 0], .agg #[.int .i64 0, .int .i64 0, .int .i64 0, .int .i64 0, .int .i64 0, .int .i64 0], .agg #[.int .i64 0, .int .i64 0, .int .i64 0, .int .i64 0, .int .i64 0, .int .i64 0, .int .i64 0]], []⟩ 8 (by kernel_rfl) (by kernel_rfl) (by kernel_rfl) (by kernel_rfl)) ?_
  intro W base args ds gs before hval hW _ _
  exact contract_true mixed env_ok laid (d := 20) (ss := [flownS, box6S, corrS]) (by kernel_rfl) rfl Try.underlying4 wakeCrossed_tells wakeCrossed_run W base args ds gs before hval hW
theorem wakeCrossed : Rows.WakeCrossedSaid :=
  OpenClaim.holds_of_wide 11 Try.f11 rfl rfl rfl rfl rfl rfl rfl ⟨rfl, rfl, rfl, rfl, rfl⟩ rfl rfl rfl rfl rfl (by kernel_rfl) Try.func11 (by kernel_rfl)
    (of_decide_eq_true (by kernel_rfl)) (by unfold Func.isWrapper; first | (rw [if_pos (by decide +kernel)]; kernel_rfl) | (rw [if_neg (by decide +kernel)]; exact ⟨rfl, rfl⟩))
    (fun os started H enc _ => wakeCrossed_lifted os started H enc)
#print axioms wakeCrossed
end Go.Proofs.Ytpbpkbckgifhdaa
