/- Shapes of the arguments of chapter 5. -/
import Derived.Test.YtggnifebabjoiaaGvZb
import Derived.Test.YtggnifebabjoiaaS0
namespace Gv
open Go
def stateS : Shp := .cons .bool (.cons (.int .i64) (.cons (.int .i64) (.cons (.int .i64) (.cons (.int .i64) .nil))))
theorem fits_state {ps : List PV} (h : Fits stateS ps) : ∃ (t : Bool) (a b c d : Int), ps = [.bool t, .int .i64 a, .int .i64 b, .int .i64 c, .int .i64 d] := by
  obtain ⟨x0, y0, rfl, ⟨t, rfl⟩, x1, y1, rfl, ⟨a, rfl, _⟩, x2, y2, rfl, ⟨b, rfl, _⟩, x3, y3, rfl, ⟨c, rfl, _⟩, x4, y4, rfl, ⟨d, rfl, _⟩, h5⟩ := h
  simp only [Fits] at h5
  subst h5
  exact ⟨t, a, b, c, d, rfl⟩
def legS : Shp := .cons (.int .i64) (.cons (.int .i64) (.cons (.int .i64) .nil))
theorem fits_leg {ps : List PV} (h : Fits legS ps) : ∃ a b c : Int, ps = [.int .i64 a, .int .i64 b, .int .i64 c] := by
  obtain ⟨x1, y1, rfl, ⟨a, rfl, _⟩, x2, y2, rfl, ⟨b, rfl, _⟩, x3, y3, rfl, ⟨c, rfl, _⟩, h5⟩ := h
  simp only [Fits] at h5
  subst h5
  exact ⟨a, b, c, rfl⟩
theorem fits_range {ps : List PV} (h : Fits jitterS ps) : ∃ a b : Int, ps = [.int .i64 a, .int .i64 b] := by
  obtain ⟨x1, y1, rfl, ⟨a, rfl, _⟩, x2, y2, rfl, ⟨b, rfl, _⟩, h5⟩ := h
  simp only [Fits] at h5
  subst h5
  exact ⟨a, b, rfl⟩
def boxS : Shp := .cons jitterS (.cons jitterS .nil)
theorem fits_box {ps : List PV} (h : Fits boxS ps) : ∃ a b c d : Int, ps = [.int .i64 a, .int .i64 b, .int .i64 c, .int .i64 d] := by
  obtain ⟨x1, y1, rfl, h1, x2, y2, rfl, h2, h5⟩ := h
  simp only [Fits] at h5
  subst h5
  obtain ⟨a, b, rfl⟩ := fits_range h1
  obtain ⟨c, d, rfl⟩ := fits_range h2
  exact ⟨a, b, c, d, rfl⟩
def stretchS : Shp := .cons jitterS (.cons (.int .i64) (.cons (.int .i64) .nil))
theorem fits_stretch {ps : List PV} (h : Fits stretchS ps) : ∃ a b c d : Int, ps = [.int .i64 a, .int .i64 b, .int .i64 c, .int .i64 d] := by
  obtain ⟨x1, y1, rfl, h1, x2, y2, rfl, ⟨c, rfl, _⟩, x3, y3, rfl, ⟨d, rfl, _⟩, h5⟩ := h
  simp only [Fits] at h5
  subst h5
  obtain ⟨a, b, rfl⟩ := fits_range h1
  exact ⟨a, b, c, d, rfl⟩
theorem fits_seven {ps : List PV} (h : Fits (.arr 7 (.int .i64)) ps) : ∃ a b c d e f g : Int, ps = [.int .i64 a, .int .i64 b, .int .i64 c, .int .i64 d, .int .i64 e, .int .i64 f, .int .i64 g] := by
  obtain ⟨l, hl, rfl, hx⟩ := h
  match l, hl with
  | [x1, x2, x3, x4, x5, x6, x7], _ =>
    obtain ⟨a, rfl, _⟩ := hx x1 (by simp)
    obtain ⟨b, rfl, _⟩ := hx x2 (by simp)
    obtain ⟨c, rfl, _⟩ := hx x3 (by simp)
    obtain ⟨d, rfl, _⟩ := hx x4 (by simp)
    obtain ⟨e, rfl, _⟩ := hx x5 (by simp)
    obtain ⟨f, rfl, _⟩ := hx x6 (by simp)
    obtain ⟨g, rfl, _⟩ := hx x7 (by simp)
    exact ⟨a, b, c, d, e, f, g, rfl⟩
theorem fits_events {p : PV} {cs : List PV} (h : Fits (.sl clipS) cs) (hp : [p] = cs) : ∃ l : List Z3, p = .list l.length (encT l) := by
  obtain ⟨l, rfl, _, hl⟩ := h
  obtain ⟨r, h1, h2⟩ := fits_rows enc3 l fun x hx => by
    obtain ⟨a, b, c, h⟩ := fits_clip (hl x hx)
    exact ⟨(a, b, c), h⟩
  simp only [List.cons.injEq, and_true] at hp
  refine ⟨r, ?_⟩
  rw [hp, ← h1, h2]
  rfl
end Gv
