/- WakePattern holds: whatever the vortex, the setup, the position and the move, the law answers true. -/
import Derived.Test.YtfhgjanheaocaaaGvZb
import Derived.Test.YtfhgjanheaocaaaLP3
namespace Go.Proofs.Ytfhgjanheaocaaa
open Go Gv Go.ChangeShapes Go.WideShapes Go.ChangeAt Go.RowKit
set_option maxRecDepth 100000
def vortS : Shp := .cons jitterS (.cons (.int .i64) .nil)
theorem fits_range {ps : List PV} (h : Fits jitterS ps) : ∃ a b : Int, ps = [.int .i64 a, .int .i64 b] := by
  obtain ⟨x1, y1, rfl, ⟨a, rfl, _⟩, x2, y2, rfl, ⟨b, rfl, _⟩, h5⟩ := h
  simp only [Fits] at h5
  subst h5
  exact ⟨a, b, rfl⟩
theorem fits_vort {ps : List PV} (h : Fits vortS ps) : ∃ z : Z3, ps = [.int .i64 z.1, .int .i64 z.2.1, .int .i64 z.2.2] := by
  obtain ⟨x1, y1, rfl, h1, x2, y2, rfl, ⟨c, rfl, _⟩, h5⟩ := h
  simp only [Fits] at h5
  subst h5
  obtain ⟨a, b, rfl⟩ := fits_range h1
  exact ⟨(a, b, c), rfl⟩
def seenS : Shp := .cons vortS (.cons jitterS .nil)
theorem fits_seen {ps : List PV} (h : Fits seenS ps) : ∃ (v : Z3) (y z : Int), ps = [.int .i64 v.1, .int .i64 v.2.1, .int .i64 v.2.2, .int .i64 y, .int .i64 z] := by
  obtain ⟨x1, y1, rfl, h1, x2, y2, rfl, h2, h5⟩ := h
  simp only [Fits] at h5
  subst h5
  obtain ⟨v, rfl⟩ := fits_vort h1
  obtain ⟨a, b, rfl⟩ := fits_range h2
  exact ⟨v, a, b, rfl⟩
theorem wakePattern_run (qs : List PV) (h : FitsArgs [seenS, vortS, .int .i64] qs) : run env 3 qs = some (.val (.bool true)) := by
  obtain ⟨p1, r1, c1, rfl, f1, e1, p2, r2, c2, rfl, f2, e2, p3, r3, c3, rfl, f3, e3, hr⟩ := h
  simp only [FitsArgs] at hr
  subst hr
  obtain ⟨v, y, z, rfl⟩ := fits_seen f1
  obtain ⟨s, rfl⟩ := fits_vort f2
  obtain ⟨n, rfl, _⟩ := f3
  have e1 : p1 = .agg _ := e1
  have e2 : p2 = .agg _ := e2
  have e3 : [p3] = [.int .i64 n] := e3
  cases e3
  subst e1
  subst e2
  exact run_true (Gv.patternLaw v s y z n)
theorem wakePattern_tells : Tells Rows.wakePatternSpec 3 := by
  refine ⟨rfl, fun H ds hl => ?_, fun H ds hl => ?_, fun H ds hl => ?_⟩ <;>
  · match ds, hl with
    | [d1, d2, d3], _ => rfl
theorem wakePattern_lifted (os : Os) (started : os.Started) (H : Type) (enc : TypeId × Value → H) :
    ReturnsInHanded {} Try.checked os 3 .any (Rows.wakePatternSpec.pre6 enc Try.prog Try.f3 Rows.wakePatternRow.domain false) (Rows.wakePatternSpec.post enc Try.prog Try.f3 false true false false) := by
  refine returnsInHanded_of_change (C := Try.checked) own started (by kernel_rfl) Try.func3
    (ChangeSpec.witness6 (enc := enc) (C := Try.checked) false ⟨#[], #[.agg #[.int .i64 0, .int .i64 0, .int .i64 0, .int .i64 0, .int .i64 0], .agg #[.int .i64 0, .int .i64 0, .int .i64 0], .int .i64 0], []⟩ 8 (by kernel_rfl) (by kernel_rfl) (by kernel_rfl) (by kernel_rfl)) ?_
  intro W base args ds gs before hval hW _ _
  exact contract_true mixed env_ok laid (d := 20) (ss := [seenS, vortS, .int .i64]) (by kernel_rfl) rfl Try.underlying4 wakePattern_tells wakePattern_run W base args ds gs before hval hW
theorem wakePattern : Rows.WakePatternSaid :=
  OpenClaim.holds_of_wide 3 Try.f3 rfl rfl rfl rfl rfl rfl rfl ⟨rfl, rfl, rfl, rfl, rfl⟩ rfl rfl rfl rfl rfl (by kernel_rfl) Try.func3 (by kernel_rfl)
    (of_decide_eq_true (by kernel_rfl)) (by unfold Func.isWrapper; first | (rw [if_pos (by decide +kernel)]; kernel_rfl) | (rw [if_neg (by decide +kernel)]; exact ⟨rfl, rfl⟩))
    (fun os started H enc _ => wakePattern_lifted os started H enc)
#print axioms wakePattern
end Go.Proofs.Ytfhgjanheaocaaa
