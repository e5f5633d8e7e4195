/- TopWakeEnclosed holds: whatever the flown box, the drift and what is seen, the law answers true. -/
import Derived.Test.YtfhgjanheaocaaaGvZw
import Derived.Test.YtfhgjanheaocaaaEL5
namespace Go.Proofs.Ytfhgjanheaocaaa
open Go Gv Go.ChangeShapes Go.WideShapes Go.ChangeAt Go.RowKit
set_option maxRecDepth 100000
def lookS : Shp := .cons (.int .i64) (.cons (.int .i64) (.cons corrS .nil))
theorem fits_look {ps : List PV} (h : Fits lookS ps) : ∃ (r e : Int) (a b c d k f t : Int), ps = [.int .i64 r, .int .i64 e, .int .i64 a, .int .i64 b, .int .i64 c, .int .i64 d, .int .i64 k, .int .i64 f, .int .i64 t] := by
  obtain ⟨x1, y1, rfl, ⟨r, rfl, _⟩, x2, y2, rfl, ⟨e, rfl, _⟩, x3, y3, rfl, h3, h5⟩ := h
  simp only [Fits] at h5
  subst h5
  obtain ⟨a, b, c, d, k, f, t, rfl⟩ := fits_corr h3
  exact ⟨r, e, a, b, c, d, k, f, t, rfl⟩
theorem topWakeEnclosed_run (qs : List PV) (h : FitsArgs [flownS, box6S, lookS] qs) : run env 4 qs = some (.val (.bool true)) := by
  obtain ⟨p1, r1, c1, rfl, f1, e1, p2, r2, c2, rfl, f2, e2, p3, r3, c3, rfl, f3, e3, hr⟩ := h
  simp only [FitsArgs] at hr
  subst hr
  obtain ⟨x, l, rfl, _⟩ := fits_flown f1
  obtain ⟨d, rfl⟩ := fits_box6 f2
  obtain ⟨r, e, y0, y1, z0, z1, li, fr, to, rfl⟩ := fits_look f3
  have e1 : p1 = .agg _ := e1
  have e2 : p2 = .agg _ := e2
  have e3 : p3 = .agg _ := e3
  subst e1
  subst e2
  subst e3
  exact run_true (Gv.enclosedLaw x d l r e (y0, y1, z0, z1, li, fr, to))
theorem topWakeEnclosed_tells : Tells Rows.topWakeEnclosedSpec 3 := by
  refine ⟨rfl, fun H ds hl => ?_, fun H ds hl => ?_, fun H ds hl => ?_⟩ <;>
  · match ds, hl with
    | [d1, d2, d3], _ => rfl
theorem topWakeEnclosed_lifted (os : Os) (started : os.Started) (H : Type) (enc : TypeId × Value → H) :
    ReturnsInHanded {} Try.checked os 4 .any (Rows.topWakeEnclosedSpec.pre6 enc Try.prog Try.f4 Rows.topWakeEnclosedRow.domain false) (Rows.topWakeEnclosedSpec.post enc Try.prog Try.f4 false true false false) := by
  refine returnsInHanded_of_change (C := Try.checked) own started (by kernel_rfl) Try.func4
    (ChangeSpec.witness6 (enc := enc) (C := Try.checked) false ⟨#[], #[.agg #[.int .i64 0, .int .i64 0, .int .i64 0, .int .i64 0, .int .i64 0, .int .i64 0, .slice none 0 0], .agg #[.int .i64 0, .int .i64 0, .int .i64 0, .int .i64 0, .int .i64 0, .int .i64 0], .agg #[.int .i64 0, .int .i64 0, .int .i64 0, .int .i64 0, .int .i64 0, .int .i64 0, .int .i64 0, .int .i64 0, .int .i64 0]], []⟩ 8 (by kernel_rfl) (by kernel_rfl) (by kernel_rfl) (by kernel_rfl)) ?_
  intro W base args ds gs before hval hW _ _
  exact contract_true mixed env_ok laid (d := 20) (ss := [flownS, box6S, lookS]) (by kernel_rfl) rfl Try.underlying4 topWakeEnclosed_tells topWakeEnclosed_run W base args ds gs before hval hW
theorem topWakeEnclosed : Rows.TopWakeEnclosedSaid :=
  OpenClaim.holds_of_wide 4 Try.f4 rfl rfl rfl rfl rfl rfl rfl ⟨rfl, rfl, rfl, rfl, rfl⟩ rfl rfl rfl rfl rfl (by kernel_rfl) Try.func4 (by kernel_rfl)
    (of_decide_eq_true (by kernel_rfl)) (by unfold Func.isWrapper; first | (rw [if_pos (by decide +kernel)]; kernel_rfl) | (rw [if_neg (by decide +kernel)]; exact ⟨rfl, rfl⟩))
    (fun os started H enc _ => topWakeEnclosed_lifted os started H enc)
#print axioms topWakeEnclosed
end Go.Proofs.Ytfhgjanheaocaaa
