/- CloudClasses holds: whatever the classes, the signal and the error, the law answers true. -/
import Derived.Test.YtkbahledgljaoaaGreatGvZb
import Derived.Test.YtkbahledgljaoaaGreatZS5
namespace Gv
open Go
def pairS : Shp := .cons (.int .i64) (.cons (.int .i64) .nil)
theorem fits_pair {ps : List PV} (h : Fits pairS ps) : ∃ x y : Int, ps = [.int .i64 x, .int .i64 y] := by
  obtain ⟨x1, y1, rfl, ⟨a, rfl, _⟩, x2, y2, rfl, ⟨b, rfl, _⟩, h3⟩ := h
  simp only [Fits] at h3
  subst h3
  exact ⟨a, b, rfl⟩
def classS : Shp := .cons pairS (.cons pairS .nil)
theorem fits_class {ps : List PV} (h : Fits classS ps) : ∃ z : Cl, ps = encCl z := by
  obtain ⟨x1, y1, rfl, h1, x2, y2, rfl, h2, h3⟩ := h
  simp only [Fits] at h3
  subst h3
  obtain ⟨a, b, rfl⟩ := fits_pair h1
  obtain ⟨c, d, rfl⟩ := fits_pair h2
  exact ⟨(a, b, c, d), rfl⟩
theorem fits_classes {p : PV} {cs : List PV} (h : Fits (.sl classS) cs) (hp : [p] = cs) : ∃ l : List Cl, p = .list l.length (encL4 l) := by
  obtain ⟨l, rfl, _, hl⟩ := h
  obtain ⟨r, h1, h2⟩ := fits_rows encCl l fun x hx => fits_class (hl x hx)
  simp only [List.cons.injEq, and_true] at hp
  refine ⟨r, ?_⟩
  rw [hp, ← h1, h2]
  rfl
end Gv
namespace Go.Proofs.YtkbahledgljaoaaGreat
open Go Gv Go.ChangeShapes Go.WideShapes Go.ChangeAt Go.RowKit
set_option maxRecDepth 100000

theorem cloudClasses_run (qs : List PV) (h : FitsArgs [.sl Gv.classS, Gv.pairS, .int .i64] qs) : run env 7 qs = some (.val (.bool true)) := by
  obtain ⟨p1, r1, c1, rfl, f1, e1, p2, r2, c2, rfl, f2, e2, p3, r3, c3, rfl, f3, e3, hr⟩ := h
  simp only [FitsArgs] at hr
  subst hr
  obtain ⟨l, rfl⟩ := fits_classes f1 e1
  obtain ⟨x, y, rfl⟩ := fits_pair f2
  obtain ⟨o, rfl, _⟩ := fits_num f3 e3
  have e2 : p2 = .agg _ := e2
  subst e2
  exact run_true (Gv.classesLaw l x y o)

theorem cloudClasses_tells : Tells Rows.cloudClassesSpec 3 := by
  refine ⟨rfl, fun H ds hl => ?_, fun H ds hl => ?_, fun H ds hl => ?_⟩ <;>
  · match ds, hl with
    | [d1, d2, d3], _ => rfl

theorem cloudClasses_lifted (os : Os) (started : os.Started) (H : Type) (enc : TypeId × Value → H) :
    ReturnsInHanded {} Tryz.checked os 7 .any (Rows.cloudClassesSpec.pre6 enc Tryz.prog Tryz.f7 Rows.cloudClassesRow.domain false) (Rows.cloudClassesSpec.post enc Tryz.prog Tryz.f7 false true false false) := by
  refine returnsInHanded_of_change (C := Tryz.checked) own started (by kernel_rfl) Tryz.func7
    (ChangeSpec.witness6 (enc := enc) (C := Tryz.checked) false ⟨#[], #[.slice none 0 0, .agg #[.int .i64 0, .int .i64 0], .int .i64 0], []⟩ 8 (by kernel_rfl) (by kernel_rfl) (by kernel_rfl) (by kernel_rfl)) ?_
  intro W base args ds gs before hval hW _ _
  exact contract_true mixed env_ok laid (d := 20) (ss := [.sl Gv.classS, Gv.pairS, .int .i64]) (by kernel_rfl) rfl Tryz.underlying4 cloudClasses_tells cloudClasses_run W base args ds gs before hval hW

theorem cloudClasses : Rows.CloudClassesSaid :=
  OpenClaim.holds_of_wide 7 Tryz.f7 rfl rfl rfl rfl rfl rfl rfl ⟨rfl, rfl, rfl, rfl, rfl⟩ rfl rfl rfl rfl rfl (by kernel_rfl) Tryz.func7 (by kernel_rfl)
    (of_decide_eq_true (by kernel_rfl)) (by unfold Func.isWrapper; first | (rw [if_pos (by decide +kernel)]; kernel_rfl) | (rw [if_neg (by decide +kernel)]; exact ⟨rfl, rfl⟩))
    (fun os started H enc _ => cloudClasses_lifted os started H enc)
#print axioms cloudClasses
end Go.Proofs.YtkbahledgljaoaaGreat
