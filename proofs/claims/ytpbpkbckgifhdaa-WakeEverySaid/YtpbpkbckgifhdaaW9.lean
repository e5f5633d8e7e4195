/- WakeEvery holds: whatever the box, the drift and the path, the law answers true. -/
import Derived.Test.YtpbpkbckgifhdaaGvZw
import Derived.Test.YtpbpkbckgifhdaaL9
namespace Go.Proofs.Ytpbpkbckgifhdaa
open Go Gv Go.ChangeShapes Go.WideShapes Go.ChangeAt Go.RowKit
set_option maxRecDepth 100000
theorem wakeEvery_run (qs : List PV) (h : FitsArgs [box6S, box6S, .sl vortS] qs) : run env 9 qs = some (.val (.bool true)) := by
  obtain ⟨p1, r1, c1, rfl, f1, e1, p2, r2, c2, rfl, f2, e2, p3, r3, c3, rfl, f3, e3, hr⟩ := h
  simp only [FitsArgs] at hr
  subst hr
  obtain ⟨b, rfl⟩ := fits_box6 f1
  obtain ⟨d, rfl⟩ := fits_box6 f2
  have e1 : p1 = .agg _ := e1
  have e2 : p2 = .agg _ := e2
  obtain ⟨l, rfl, _⟩ := fits_vortsN f3 e3
  subst e1
  subst e2
  exact run_true (Gv.everyLaw b d l)
theorem wakeEvery_tells : Tells Rows.wakeEverySpec 3 := by
  refine ⟨rfl, fun H ds hl => ?_, fun H ds hl => ?_, fun H ds hl => ?_⟩ <;>
  · match ds, hl with
    | [d1, d2, d3], _ => rfl
theorem wakeEvery_lifted (os : Os) (started : os.Started) (H : Type) (enc : TypeId × Value → H) :
    ReturnsInHanded {} Try.checked os 9 .any (Rows.wakeEverySpec.pre6 enc Try.prog Try.f9 Rows.wakeEveryRow.domain false) (Rows.wakeEverySpec.post enc Try.prog Try.f9 false true false false) := by
  refine returnsInHanded_of_change (C := Try.checked) own started (by kernel_rfl) Try.func9
    (ChangeSpec.witness6 (enc := enc) (C := Try.checked) false ⟨#[], #[.agg #[.int .i64 0, .int .i64 0, .int .i64 0, .int .i64 0, .int .i64 0, .int .i64 0], .agg #[.int .i64 0, .int .i64 0, .int .i64 0, .int .i64 0, .int .i64 0, .int .i64 0], .slice none 0 0], []⟩ 8 (by kernel_rfl) (by kernel_rfl) (by kernel_rfl) (by kernel_rfl)) ?_
  intro W base args ds gs before hval hW _ _
  exact contract_true mixed env_ok laid (d := 20) (ss := [box6S, box6S, .sl vortS]) (by kernel_rfl) rfl Try.underlying4 wakeEvery_tells wakeEvery_run W base args ds gs before hval hW
theorem wakeEvery : Rows.WakeEverySaid :=
  OpenClaim.holds_of_wide 9 Try.f9 rfl rfl rfl rfl rfl rfl rfl ⟨rfl, rfl, rfl, rfl, rfl⟩ rfl rfl rfl rfl rfl (by kernel_rfl) Try.func9 (by kernel_rfl)
    (of_decide_eq_true (by kernel_rfl)) (by unfold Func.isWrapper; first | (rw [if_pos (by decide +kernel)]; kernel_rfl) | (rw [if_neg (by decide +kernel)]; exact ⟨rfl, rfl⟩))
    (fun os started H enc _ => wakeEvery_lifted os started H enc)
#print axioms wakeEvery
end Go.Proofs.Ytpbpkbckgifhdaa
