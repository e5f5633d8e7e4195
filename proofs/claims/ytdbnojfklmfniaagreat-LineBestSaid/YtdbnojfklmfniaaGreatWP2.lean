/- LineBest holds: whatever the case and the kinds, the law answers true. -/
import Derived.Test.YtdbnojfklmfniaaGreatGvZb
import Derived.Test.YtdbnojfklmfniaaGreatMP2
namespace Go.Proofs.YtdbnojfklmfniaaGreat
open Go Gv Go.ChangeShapes Go.WideShapes Go.ChangeAt Go.RowKit
set_option maxRecDepth 100000

theorem lineBest_run (qs : List PV) (h : FitsArgs [caseS, .sl (.int .i64)] qs) : run env 4 qs = some (.val (.bool true)) := by
  obtain ⟨p1, r1, c1, rfl, f1, e1, p2, r2, c2, rfl, f2, e2, hr⟩ := h
  simp only [FitsArgs] at hr
  subst hr
  obtain ⟨s, v, n, d, rfl, _, wd⟩ := fits_case f1
  obtain ⟨ks, rfl⟩ := fits_ints f2 e2
  have e1 : p1 = .agg _ := e1
  subst e1
  exact run_true (Gv.bestLaw s v (wf_i64 wd) ks)

theorem lineBest_tells : Tells Rows.lineBestSpec 2 := by
  refine ⟨rfl, fun H ds hl => ?_, fun H ds hl => ?_, fun H ds hl => ?_⟩ <;>
  · match ds, hl with
    | [d1, d2], _ => rfl

theorem lineBest_lifted (os : Os) (started : os.Started) (H : Type) (enc : TypeId × Value → H) :
    ReturnsInHanded {} Tryz.checked os 4 .any (Rows.lineBestSpec.pre6 enc Tryz.prog Tryz.f4 Rows.lineBestRow.domain false) (Rows.lineBestSpec.post enc Tryz.prog Tryz.f4 false true false false) := by
  refine returnsInHanded_of_change (C := Tryz.checked) own started (by kernel_rfl) Tryz.func4
    (ChangeSpec.witness6 (enc := enc) (C := Tryz.checked) false ⟨#[], #[.agg #[.slice none 0 0, .slice none 0 0, .int .i64 0, .int .i64 0], .slice none 0 0], []⟩ 8 (by kernel_rfl) (by kernel_rfl) (by kernel_rfl) (by kernel_rfl)) ?_
  intro W base args ds gs before hval hW _ _
  exact contract_true mixed env_ok laid (d := 20) (ss := [caseS, .sl (.int .i64)]) (by kernel_rfl) rfl Tryz.underlying4 lineBest_tells lineBest_run W base args ds gs before hval hW

theorem lineBest : Rows.LineBestSaid :=
  OpenClaim.holds_of_wide 4 Tryz.f4 rfl rfl rfl rfl rfl rfl rfl ⟨rfl, rfl, rfl, rfl, rfl⟩ rfl rfl rfl rfl rfl (by kernel_rfl) Tryz.func4 (by kernel_rfl)
    (of_decide_eq_true (by kernel_rfl)) (by unfold Func.isWrapper; first | (rw [if_pos (by decide +kernel)]; kernel_rfl) | (rw [if_neg (by decide +kernel)]; exact ⟨rfl, rfl⟩))
    (fun os started H enc _ => lineBest_lifted os started H enc)
#print axioms lineBest
end Go.Proofs.YtdbnojfklmfniaaGreat
