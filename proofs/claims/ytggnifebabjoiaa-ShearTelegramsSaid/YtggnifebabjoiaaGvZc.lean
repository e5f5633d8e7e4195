/- Shapes of the arguments of chapter 5. -/
import Derived.Test.YtggnifebabjoiaaGvZb
import Derived.Test.YtggnifebabjoiaaS0
namespace Gv
open Go
theorem fits_seven {ps : List PV} (h : Fits (.arr 7 (.int .i64)) ps) : ∃ a b c d e f g : Int, ps = [.int .i64 a, .int .i64 b, .int .i64 c, .int .i64 d, .int .i64 e, .int .i64 f, .int .i64 g] := by
  obtain ⟨l, hl, rfl, hx⟩ := h
  match l, hl with
  | [x1, x2, x3, x4, x5, x6, x7], _ =>
    obtain ⟨a, rfl, _⟩ := hx x1 (by simp)
    obtain ⟨b, rfl, _⟩ := hx x2 (by simp)
    obtain ⟨c, rfl, _⟩ := hx x3 (by simp)
    obtain ⟨d, rfl, _⟩ := hx x4 (by simp)
    obtain ⟨e, rfl, _⟩ := hx x5 (by simp)
    obtain ⟨f, rfl, _⟩ := hx x6 (by simp)
    obtain ⟨g, rfl, _⟩ := hx x7 (by simp)
    exact ⟨a, b, c, d, e, f, g, rfl⟩
end Gv
