/- LineKept holds: whatever the case, the threshold and the risk, the law answers true. -/
import Derived.Test.YtkbbilbpejbmiaaGvZb
import Derived.Test.YtkbbilbpejbmiaaMK2
namespace Go.Proofs.Ytkbbilbpejbmiaa
open Go Gv Go.ChangeShapes Go.WideShapes Go.ChangeAt Go.RowKit
set_option maxRecDepth 100000

theorem lineKept_run (qs : List PV) (h : FitsArgs [caseS, .int .i64, .int .i64] qs) : run env 4 qs = some (.val (.bool true)) := by
  obtain ⟨p1, r1, c1, rfl, f1, e1, p2, r2, c2, rfl, f2, e2, p3, r3, c3, rfl, f3, e3, hr⟩ := h
  simp only [FitsArgs] at hr
  subst hr
  obtain ⟨s, v, n, d, rfl, _, wd⟩ := fits_case f1
  obtain ⟨x, rfl, _⟩ := fits_num f2 e2
  obtain ⟨y, rfl, _⟩ := fits_num f3 e3
  have e1 : p1 = .agg _ := e1
  subst e1
  exact run_true (Gv.keptLaw s v (wf_i64 wd) x y)

theorem lineKept_tells : Tells Rows.lineKeptSpec 3 := by
  refine ⟨rfl, fun H ds hl => ?_, fun H ds hl => ?_, fun H ds hl => ?_⟩ <;>
  · match ds, hl with
    | [d1, d2, d3], _ => rfl

theorem lineKept_lifted (os : Os) (started : os.Started) (H : Type) (enc : TypeId × Value → H) :
    ReturnsInHanded {} Try.checked os 4 .any (Rows.lineKeptSpec.pre6 enc Try.prog Try.f4 Rows.lineKeptRow.domain false) (Rows.lineKeptSpec.post enc Try.prog Try.f4 false true false false) := by
  refine returnsInHanded_of_change (C := Try.checked) own started (by kernel_rfl) Try.func4
    (ChangeSpec.witness6 (enc := enc) (C := Try.checked) false ⟨#[], #[.agg #[.slice none 0 0, .slice none 0 0, .int .i64 0, .int .i64 0], .int .i64 0, .int .i64 0], []⟩ 8 (by kernel_rfl) (by kernel_rfl) (by kernel_rfl) (by kernel_rfl)) ?_
  intro W base args ds gs before hval hW _ _
  exact contract_true mixed env_ok laid (d := 20) (ss := [caseS, .int .i64, .int .i64]) (by kernel_rfl) rfl Try.underlying4 lineKept_tells lineKept_run W base args ds gs before hval hW

theorem lineKept : Rows.LineKeptSaid :=
  OpenClaim.holds_of_wide 4 Try.f4 rfl rfl rfl rfl rfl rfl rfl ⟨rfl, rfl, rfl, rfl, rfl⟩ rfl rfl rfl rfl rfl (by kernel_rfl) Try.func4 (by kernel_rfl)
    (of_decide_eq_true (by kernel_rfl)) (by unfold Func.isWrapper; first | (rw [if_pos (by decide +kernel)]; kernel_rfl) | (rw [if_neg (by decide +kernel)]; exact ⟨rfl, rfl⟩))
    (fun os started H enc _ => lineKept_lifted os started H enc)
#print axioms lineKept
end Go.Proofs.Ytkbbilbpejbmiaa
