/- PulseMixed holds: whatever the samples, the quarters and the lag, the law answers true. -/
import Derived.Test.YtnpnlopniojicaaGvZ
import Derived.Test.YtnpnlopniojicaaS5
namespace Go.Proofs.Ytnpnlopniojicaa
open Go Gv Go.ChangeShapes Go.WideShapes Go.ChangeAt Go.RowKit
set_option maxRecDepth 100000

theorem pulseMixed_run (qs : List PV) (h : FitsArgs [.sl gaussS, .int .i64, .int .i64] qs) : run env 8 qs = some (.val (.bool true)) := by
  obtain ⟨p1, r1, c1, rfl, f1, e1, p2, r2, c2, rfl, f2, e2, p3, r3, c3, rfl, f3, e3, hr⟩ := h
  simp only [FitsArgs] at hr
  subst hr
  obtain ⟨l, rfl⟩ := fits_gausses f1 e1
  obtain ⟨q, rfl, _⟩ := fits_num f2 e2
  obtain ⟨g, rfl, _⟩ := fits_num f3 e3
  exact run_true (Gv.mixed l q g)

theorem pulseMixed_tells : Tells Rows.pulseMixedSpec 3 := by
  refine ⟨rfl, fun H ds hl => ?_, fun H ds hl => ?_, fun H ds hl => ?_⟩ <;>
  · match ds, hl with
    | [d1, d2, d3], _ => rfl

theorem pulseMixed_lifted (os : Os) (started : os.Started) (H : Type) (enc : TypeId × Value → H) :
    ReturnsInHanded {} Try.checked os 8 .any (Rows.pulseMixedSpec.pre6 enc Try.prog Try.f8 Rows.pulseMixedRow.domain false) (Rows.pulseMixedSpec.post enc Try.prog Try.f8 false true false false) := by
  refine returnsInHanded_of_change (C := Try.checked) own started (by kernel_rfl) Try.func8
    (ChangeSpec.witness6 (enc := enc) (C := Try.checked) false ⟨#[], #[.slice none 0 0, .int .i64 0, .int .i64 0], []⟩ 8 (by kernel_rfl) (by kernel_rfl) (by kernel_rfl) (by kernel_rfl)) ?_
  intro W base args ds gs before hval hW _ _
  exact contract_true mixed env_ok laid (d := 20) (ss := [.sl gaussS, .int .i64, .int .i64]) (by kernel_rfl) rfl Try.underlying4 pulseMixed_tells pulseMixed_run W base args ds gs before hval hW

theorem pulseMixed : Rows.PulseMixedSaid :=
  OpenClaim.holds_of_wide 8 Try.f8 rfl rfl rfl rfl rfl rfl rfl ⟨rfl, rfl, rfl, rfl, rfl⟩ rfl rfl rfl rfl rfl (by kernel_rfl) Try.func8 (by kernel_rfl)
    (of_decide_eq_true (by kernel_rfl)) (by unfold Func.isWrapper; first | (rw [if_pos (by decide +kernel)]; kernel_rfl) | (rw [if_neg (by decide +kernel)]; exact ⟨rfl, rfl⟩))
    (fun os started H enc _ => pulseMixed_lifted os started H enc)
#print axioms pulseMixed
end Go.Proofs.Ytnpnlopniojicaa
