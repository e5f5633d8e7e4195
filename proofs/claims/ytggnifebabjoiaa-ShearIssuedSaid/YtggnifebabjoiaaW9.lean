/- ShearIssued holds: whatever the rule, the events and the tick, the law answers true. -/
import Derived.Test.YtggnifebabjoiaaGvZc
import Derived.Test.YtggnifebabjoiaaL9
namespace Go.Proofs.Ytggnifebabjoiaa
open Go Gv Go.ChangeShapes Go.WideShapes Go.ChangeAt Go.RowKit
set_option maxRecDepth 100000
theorem shearIssued_run (qs : List PV) (h : FitsArgs [fourS, .sl clipS, .int .i64] qs) : run env 9 qs = some (.val (.bool true)) := by
  obtain ⟨p1, r1, c1, rfl, f1, e1, p2, r2, c2, rfl, f2, e2, p3, r3, c3, rfl, f3, e3, hr⟩ := h
  simp only [FitsArgs] at hr
  subst hr
  obtain ⟨a, b, c, d, rfl⟩ := fits_four f1
  obtain ⟨l, rfl⟩ := fits_events f2 e2
  obtain ⟨t, rfl, _⟩ := fits_num f3 e3
  have e1 : p1 = .agg _ := e1
  subst e1
  exact run_true (Gv.issuedLaw (a, b, c, d) l t)
theorem shearIssued_tells : Tells Rows.shearIssuedSpec 3 := by
  refine ⟨rfl, fun H ds hl => ?_, fun H ds hl => ?_, fun H ds hl => ?_⟩ <;>
  · match ds, hl with
    | [d1, d2, d3], _ => rfl
theorem shearIssued_lifted (os : Os) (started : os.Started) (H : Type) (enc : TypeId × Value → H) :
    ReturnsInHanded {} Try.checked os 9 .any (Rows.shearIssuedSpec.pre6 enc Try.prog Try.f9 Rows.shearIssuedRow.domain false) (Rows.shearIssuedSpec.post enc Try.prog Try.f9 false true false false) := by
  refine returnsInHanded_of_change (C := Try.checked) own started (by kernel_rfl) Try.func9
    (ChangeSpec.witness6 (enc := enc) (C := Try.checked) false ⟨#[], #[.agg #[.int .i64 0, .int .i64 0, .int .i64 0, .int .i64 0], .slice none 0 0, .int .i64 0], []⟩ 8 (by kernel_rfl) (by kernel_rfl) (by kernel_rfl) (by kernel_rfl)) ?_
  intro W base args ds gs before hval hW _ _
  exact contract_true mixed env_ok laid (d := 20) (ss := [fourS, .sl clipS, .int .i64]) (by kernel_rfl) rfl Try.underlying4 shearIssued_tells shearIssued_run W base args ds gs before hval hW
theorem shearIssued : Rows.ShearIssuedSaid :=
  OpenClaim.holds_of_wide 9 Try.f9 rfl rfl rfl rfl rfl rfl rfl ⟨rfl, rfl, rfl, rfl, rfl⟩ rfl rfl rfl rfl rfl (by kernel_rfl) Try.func9 (by kernel_rfl)
    (of_decide_eq_true (by kernel_rfl)) (by unfold Func.isWrapper; first | (rw [if_pos (by decide +kernel)]; kernel_rfl) | (rw [if_neg (by decide +kernel)]; exact ⟨rfl, rfl⟩))
    (fun os started H enc _ => shearIssued_lifted os started H enc)
#print axioms shearIssued
end Go.Proofs.Ytggnifebabjoiaa
