/- LineProved holds: whatever the case, the kind and the worst, the law answers true. -/
import Derived.Test.YtdbnojfklmfniaaGreatGvZb
import Derived.Test.YtdbnojfklmfniaaGreatMP1
namespace Go.Proofs.YtdbnojfklmfniaaGreat
open Go Gv Go.ChangeShapes Go.WideShapes Go.ChangeAt Go.RowKit
set_option maxRecDepth 100000

theorem lineProved_run (qs : List PV) (h : FitsArgs [caseS, .int .i64, worstS] qs) : run env 3 qs = some (.val (.bool true)) := by
  obtain ⟨p1, r1, c1, rfl, f1, e1, p2, r2, c2, rfl, f2, e2, p3, r3, c3, rfl, f3, e3, hr⟩ := h
  simp only [FitsArgs] at hr
  subst hr
  obtain ⟨s, v, n, d, rfl, _, wd⟩ := fits_case f1
  obtain ⟨x, rfl, _⟩ := fits_num f2 e2
  obtain ⟨a, b, c, rfl, wb⟩ := fits_worst f3
  have e1 : p1 = .agg _ := e1
  have e3 : p3 = .agg _ := e3
  subst e1
  subst e3
  exact run_true (Gv.provedLaw s v (wf_i64 wd) x (a, b) (wf_i64 wb) c)

theorem lineProved_tells : Tells Rows.lineProvedSpec 3 := by
  refine ⟨rfl, fun H ds hl => ?_, fun H ds hl => ?_, fun H ds hl => ?_⟩ <;>
  · match ds, hl with
    | [d1, d2, d3], _ => rfl

theorem lineProved_lifted (os : Os) (started : os.Started) (H : Type) (enc : TypeId × Value → H) :
    ReturnsInHanded {} Tryz.checked os 3 .any (Rows.lineProvedSpec.pre6 enc Tryz.prog Tryz.f3 Rows.lineProvedRow.domain false) (Rows.lineProvedSpec.post enc Tryz.prog Tryz.f3 false true false false) := by
  refine returnsInHanded_of_change (C := Tryz.checked) own started (by kernel_rfl) Tryz.func3
    (ChangeSpec.witness6 (enc := enc) (C := Tryz.checked) false ⟨#[], #[.agg #[.slice none 0 0, .slice none 0 0, .int .i64 0, .int .i64 0], .int .i64 0, .agg #[.int .i64 0, .int .i64 0, .int .i64 0]], []⟩ 8 (by kernel_rfl) (by kernel_rfl) (by kernel_rfl) (by kernel_rfl)) ?_
  intro W base args ds gs before hval hW _ _
  exact contract_true mixed env_ok laid (d := 20) (ss := [caseS, .int .i64, worstS]) (by kernel_rfl) rfl Tryz.underlying4 lineProved_tells lineProved_run W base args ds gs before hval hW

theorem lineProved : Rows.LineProvedSaid :=
  OpenClaim.holds_of_wide 3 Tryz.f3 rfl rfl rfl rfl rfl rfl rfl ⟨rfl, rfl, rfl, rfl, rfl⟩ rfl rfl rfl rfl rfl (by kernel_rfl) Tryz.func3 (by kernel_rfl)
    (of_decide_eq_true (by kernel_rfl)) (by unfold Func.isWrapper; first | (rw [if_pos (by decide +kernel)]; kernel_rfl) | (rw [if_neg (by decide +kernel)]; exact ⟨rfl, rfl⟩))
    (fun os started H enc _ => lineProved_lifted os started H enc)
#print axioms lineProved
end Go.Proofs.YtdbnojfklmfniaaGreat
