/- CloudEyes holds: whatever the shots, the window and the energy, the law answers true. -/
import Derived.Test.YtkbahledgljaoaaGvZb
import Derived.Test.YtkbahledgljaoaaCE9

/- Lists of three numbers: their shape. -/
namespace Gv
open Go
set_option maxRecDepth 100000

def layerS : Shp := .cons (.int .i64) (.cons (.int .i64) (.cons (.int .i64) .nil))
theorem fits_layer {ps : List PV} (h : Fits layerS ps) : ∃ z : Int × Int × Int, ps = encT z := by
  obtain ⟨x1, y1, rfl, ⟨a, rfl, _⟩, x2, y2, rfl, ⟨b, rfl, _⟩, x3, y3, rfl, ⟨c, rfl, _⟩, h4⟩ := h
  simp only [Fits] at h4
  subst h4
  exact ⟨(a, b, c), rfl⟩
theorem fits_layers {p : PV} {cs : List PV} (h : Fits (.sl layerS) cs) (hp : [p] = cs) : ∃ l : List (Int × Int × Int), p = .list l.length (encL3 l) := by
  obtain ⟨l, rfl, _, hl⟩ := h
  obtain ⟨r, h1, h2⟩ := fits_rows encT l fun x hx => fits_layer (hl x hx)
  simp only [List.cons.injEq, and_true] at hp
  refine ⟨r, ?_⟩
  rw [hp, ← h1, h2]
  rfl
end Gv

namespace Go.Proofs.Ytkbahledgljaoaa
open Go Gv Go.ChangeShapes Go.WideShapes Go.ChangeAt Go.RowKit
set_option maxRecDepth 100000

theorem cloudEyes_run (qs : List PV) (h : FitsArgs [.sl Gv.layerS, gaussS] qs) : run env 9 qs = some (.val (.bool true)) := by
  obtain ⟨p1, r1, c1, rfl, f1, e1, p2, r2, c2, rfl, f2, e2, hr⟩ := h
  simp only [FitsArgs] at hr
  subst hr
  obtain ⟨l, rfl⟩ := fits_layers f1 e1
  obtain ⟨z, rfl⟩ := fits_gauss f2
  have e2 : p2 = .agg _ := e2
  subst e2
  exact run_true (Gv.eyesLaw l z.1 z.2)

theorem cloudEyes_tells : Tells Rows.cloudEyesSpec 2 := by
  refine ⟨rfl, fun H ds hl => ?_, fun H ds hl => ?_, fun H ds hl => ?_⟩ <;>
  · match ds, hl with
    | [d1, d2], _ => rfl

theorem cloudEyes_lifted (os : Os) (started : os.Started) (H : Type) (enc : TypeId × Value → H) :
    ReturnsInHanded {} Try.checked os 9 .any (Rows.cloudEyesSpec.pre6 enc Try.prog Try.f9 Rows.cloudEyesRow.domain false) (Rows.cloudEyesSpec.post enc Try.prog Try.f9 false true false false) := by
  refine returnsInHanded_of_change (C := Try.checked) own started (by kernel_rfl) Try.func9
    (ChangeSpec.witness6 (enc := enc) (C := Try.checked) false ⟨#[], #[.slice none 0 0, .agg #[.int .i64 0, .int .i64 0]], []⟩ 8 (by kernel_rfl) (by kernel_rfl) (by kernel_rfl) (by kernel_rfl)) ?_
  intro W base args ds gs before hval hW _ _
  exact contract_true mixed env_ok laid (d := 20) (ss := [.sl Gv.layerS, gaussS]) (by kernel_rfl) rfl Try.underlying4 cloudEyes_tells cloudEyes_run W base args ds gs before hval hW

theorem cloudEyes : Rows.CloudEyesSaid :=
  OpenClaim.holds_of_wide 9 Try.f9 rfl rfl rfl rfl rfl rfl rfl ⟨rfl, rfl, rfl, rfl, rfl⟩ rfl rfl rfl rfl rfl (by kernel_rfl) Try.func9 (by kernel_rfl)
    (of_decide_eq_true (by kernel_rfl)) (by unfold Func.isWrapper; first | (rw [if_pos (by decide +kernel)]; kernel_rfl) | (rw [if_neg (by decide +kernel)]; exact ⟨rfl, rfl⟩))
    (fun os started H enc _ => cloudEyes_lifted os started H enc)
#print axioms cloudEyes
end Go.Proofs.Ytkbahledgljaoaa
