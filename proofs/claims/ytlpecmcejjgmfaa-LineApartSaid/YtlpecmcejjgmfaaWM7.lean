/- LineApart holds: whatever the list of powers, the rule and the further threshold, the law answers true. -/
import Derived.Test.YtlpecmcejjgmfaaGvZb
import Derived.Test.YtlpecmcejjgmfaaMS7
namespace Go.Proofs.Ytlpecmcejjgmfaa
open Go Gv Go.ChangeShapes Go.WideShapes Go.ChangeAt Go.RowKit
set_option maxRecDepth 100000

theorem lineApart_run (qs : List PV) (h : FitsArgs [.sl (.int .i64), gaussS, .int .i64] qs) : run env 6 qs = some (.val (.bool true)) := by
  obtain ⟨p1, r1, c1, rfl, f1, e1, p2, r2, c2, rfl, f2, e2, p3, r3, c3, rfl, f3, e3, hr⟩ := h
  simp only [FitsArgs] at hr
  subst hr
  obtain ⟨l, rfl⟩ := fits_ints f1 e1
  obtain ⟨⟨t, a⟩, rfl⟩ := fits_gauss f2
  obtain ⟨x, rfl, _⟩ := fits_num f3 e3
  have e2 : p2 = .agg _ := e2
  subst e2
  exact run_true (Gv.apartLaw l t a x)

theorem lineApart_tells : Tells Rows.lineApartSpec 3 := by
  refine ⟨rfl, fun H ds hl => ?_, fun H ds hl => ?_, fun H ds hl => ?_⟩ <;>
  · match ds, hl with
    | [d1, d2, d3], _ => rfl

theorem lineApart_lifted (os : Os) (started : os.Started) (H : Type) (enc : TypeId × Value → H) :
    ReturnsInHanded {} Try.checked os 6 .any (Rows.lineApartSpec.pre6 enc Try.prog Try.f6 Rows.lineApartRow.domain false) (Rows.lineApartSpec.post enc Try.prog Try.f6 false true false false) := by
  refine returnsInHanded_of_change (C := Try.checked) own started (by kernel_rfl) Try.func6
    (ChangeSpec.witness6 (enc := enc) (C := Try.checked) false ⟨#[], #[.slice none 0 0, .agg #[.int .i64 0, .int .i64 0], .int .i64 0], []⟩ 8 (by kernel_rfl) (by kernel_rfl) (by kernel_rfl) (by kernel_rfl)) ?_
  intro W base args ds gs before hval hW _ _
  exact contract_true mixed env_ok laid (d := 20) (ss := [.sl (.int .i64), gaussS, .int .i64]) (by kernel_rfl) rfl Try.underlying4 lineApart_tells lineApart_run W base args ds gs before hval hW

theorem lineApart : Rows.LineApartSaid :=
  OpenClaim.holds_of_wide 6 Try.f6 rfl rfl rfl rfl rfl rfl rfl ⟨rfl, rfl, rfl, rfl, rfl⟩ rfl rfl rfl rfl rfl (by kernel_rfl) Try.func6 (by kernel_rfl)
    (of_decide_eq_true (by kernel_rfl)) (by unfold Func.isWrapper; first | (rw [if_pos (by decide +kernel)]; kernel_rfl) | (rw [if_neg (by decide +kernel)]; exact ⟨rfl, rfl⟩))
    (fun os started H enc _ => lineApart_lifted os started H enc)
#print axioms lineApart
end Go.Proofs.Ytlpecmcejjgmfaa
