/- More shapes of arguments: lists of numbers, gates. -/
import Derived.Test.YtggnifebabjoiaaGvZ
namespace Gv
open Go
def fourS : Shp := .cons (.int .i64) (.cons (.int .i64) (.cons (.int .i64) (.cons (.int .i64) .nil)))
theorem fits_four {ps : List PV} (h : Fits fourS ps) : ∃ a b c d : Int, ps = [.int .i64 a, .int .i64 b, .int .i64 c, .int .i64 d] := by
  obtain ⟨x1, y1, rfl, ⟨a, rfl, _⟩, x2, y2, rfl, ⟨b, rfl, _⟩, x3, y3, rfl, ⟨c, rfl, _⟩, x4, y4, rfl, ⟨d, rfl, _⟩, h5⟩ := h
  simp only [Fits] at h5
  subst h5
  exact ⟨a, b, c, d, rfl⟩
end Gv
