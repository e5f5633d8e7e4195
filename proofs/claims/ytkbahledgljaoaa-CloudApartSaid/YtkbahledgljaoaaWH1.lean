/- CloudApart holds: whatever the numbers, the constant, the part, the rule and the less, the law answers true. -/
import Derived.Test.YtkbahledgljaoaaGvZb
import Derived.Test.YtkbahledgljaoaaCA4
namespace Gv
open Go
def twoS : Shp := .cons (.int .i64) (.cons (.int .i64) .nil)
def ruleS : Shp := .cons (.int .i64) (.cons (.int .i64) (.cons (.int .i64) .nil))
def seeS : Shp := .cons (.int .i64) (.cons twoS (.cons ruleS .nil))
theorem fits_twoS {ps : List PV} (h : Fits twoS ps) : ∃ x y : Int, ps = [.int .i64 x, .int .i64 y] ∧ y ≤ 9223372036854775807 := by
  obtain ⟨x1, y1, rfl, ⟨a, rfl, _⟩, x2, y2, rfl, ⟨b, rfl, hb⟩, h3⟩ := h
  simp only [Fits] at h3
  subst h3
  exact ⟨a, b, rfl, (wf_i64 hb).2⟩
theorem fits_ruleS {ps : List PV} (h : Fits ruleS ps) : ∃ x y z : Int, ps = [.int .i64 x, .int .i64 y, .int .i64 z] := by
  obtain ⟨x1, y1, rfl, ⟨a, rfl, _⟩, x2, y2, rfl, ⟨b, rfl, _⟩, x3, y3, rfl, ⟨c, rfl, _⟩, h3⟩ := h
  simp only [Fits] at h3
  subst h3
  exact ⟨a, b, c, rfl⟩
theorem fits_seeS {ps : List PV} (h : Fits seeS ps) : ∃ c u v f p m : Int, ps = [.int .i64 c, .int .i64 u, .int .i64 v, .int .i64 f, .int .i64 p, .int .i64 m] ∧ v ≤ 9223372036854775807 := by
  obtain ⟨x1, y1, rfl, ⟨c, rfl, _⟩, x2, y2, rfl, h2, x3, y3, rfl, h3, h4⟩ := h
  simp only [Fits] at h4
  subst h4
  obtain ⟨u, v, rfl, hv⟩ := fits_twoS h2
  obtain ⟨f, p, m, rfl⟩ := fits_ruleS h3
  exact ⟨c, u, v, f, p, m, rfl, hv⟩
end Gv
namespace Go.Proofs.Ytkbahledgljaoaa
open Go Gv Go.ChangeShapes Go.WideShapes Go.ChangeAt Go.RowKit
set_option maxRecDepth 100000
theorem cloudApart_run (qs : List PV) (h : FitsArgs [.sl (.int .i64), Gv.seeS, .int .i64] qs) : run env 3 qs = some (.val (.bool true)) := by
  obtain ⟨p1, r1, c1, rfl, f1, e1, p2, r2, c2, rfl, f2, e2, p3, r3, c3, rfl, f3, e3, hr⟩ := h
  simp only [FitsArgs] at hr
  subst hr
  obtain ⟨l, rfl⟩ := fits_ints f1 e1
  obtain ⟨c, u, v, f, p, m, rfl, hv⟩ := fits_seeS f2
  obtain ⟨less, rfl, _⟩ := fits_num f3 e3
  have e2 : p2 = .agg _ := e2
  subst e2
  exact run_true (Gv.apartLaw l c u v f p m less hv)
theorem cloudApart_tells : Tells Rows.cloudApartSpec 3 := by
  refine ⟨rfl, fun H ds hl => ?_, fun H ds hl => ?_, fun H ds hl => ?_⟩ <;>
  · match ds, hl with
    | [d1, d2, d3], _ => rfl
theorem cloudApart_lifted (os : Os) (started : os.Started) (H : Type) (enc : TypeId × Value → H) :
    ReturnsInHanded {} Try.checked os 3 .any (Rows.cloudApartSpec.pre6 enc Try.prog Try.f3 Rows.cloudApartRow.domain false) (Rows.cloudApartSpec.post enc Try.prog Try.f3 false true false false) := by
  refine returnsInHanded_of_change (C := Try.checked) own started (by kernel_rfl) Try.func3
    (ChangeSpec.witness6 (enc := enc) (C := Try.checked) false ⟨#[], #[.slice none 0 0, .agg #[.int .i64 0, .int .i64 0, .int .i64 0, .int .i64 0, .int .i64 0, .int .i64 0], .int .i64 0], []⟩ 8 (by kernel_rfl) (by kernel_rfl) (by kernel_rfl) (by kernel_rfl)) ?_
  intro W base args ds gs before hval hW _ _
  exact contract_true mixed env_ok laid (d := 20) (ss := [.sl (.int .i64), Gv.seeS, .int .i64]) (by kernel_rfl) rfl Try.underlying4 cloudApart_tells cloudApart_run W base args ds gs before hval hW
theorem cloudApart : Rows.CloudApartSaid :=
  OpenClaim.holds_of_wide 3 Try.f3 rfl rfl rfl rfl rfl rfl rfl ⟨rfl, rfl, rfl, rfl, rfl⟩ rfl rfl rfl rfl rfl (by kernel_rfl) Try.func3 (by kernel_rfl)
    (of_decide_eq_true (by kernel_rfl)) (by unfold Func.isWrapper; first | (rw [if_pos (by decide +kernel)]; kernel_rfl) | (rw [if_neg (by decide +kernel)]; exact ⟨rfl, rfl⟩))
    (fun os started H enc _ => cloudApart_lifted os started H enc)
#print axioms cloudApart
end Go.Proofs.Ytkbahledgljaoaa
