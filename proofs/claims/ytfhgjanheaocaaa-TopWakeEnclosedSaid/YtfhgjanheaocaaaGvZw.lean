/- Shapes of the arguments of chapter 6. -/
import Derived.Test.YtfhgjanheaocaaaGvZb
import Derived.Test.YtfhgjanheaocaaaK2
namespace Gv
open Go
theorem fits_range {ps : List PV} (h : Fits jitterS ps) : ∃ a b : Int, ps = [.int .i64 a, .int .i64 b] := by
  obtain ⟨x1, y1, rfl, ⟨a, rfl, _⟩, x2, y2, rfl, ⟨b, rfl, _⟩, h5⟩ := h
  simp only [Fits] at h5
  subst h5
  exact ⟨a, b, rfl⟩
def box6S : Shp := .cons jitterS (.cons jitterS (.cons jitterS .nil))
def cells6 (b : B6) : List PV := [.int .i64 b.1, .int .i64 b.2.1, .int .i64 b.2.2.1, .int .i64 b.2.2.2.1, .int .i64 b.2.2.2.2.1, .int .i64 b.2.2.2.2.2]
theorem fits_box6 {ps : List PV} (h : Fits box6S ps) : ∃ b : B6, ps = cells6 b := by
  obtain ⟨x1, y1, rfl, h1, x2, y2, rfl, h2, x3, y3, rfl, h3, h5⟩ := h
  simp only [Fits] at h5
  subst h5
  obtain ⟨a, b, rfl⟩ := fits_range h1
  obtain ⟨c, d, rfl⟩ := fits_range h2
  obtain ⟨e, f, rfl⟩ := fits_range h3
  exact ⟨(a, b, c, d, e, f), rfl⟩
def vortS : Shp := .cons jitterS (.cons (.int .i64) .nil)
theorem fits_vort {ps : List PV} (h : Fits vortS ps) : ∃ z : Z3, ps = enc3 z := by
  obtain ⟨x1, y1, rfl, h1, x2, y2, rfl, ⟨c, rfl, _⟩, h5⟩ := h
  simp only [Fits] at h5
  subst h5
  obtain ⟨a, b, rfl⟩ := fits_range h1
  exact ⟨(a, b, c), rfl⟩
theorem fits_vortsN {p : PV} {cs : List PV} (h : Fits (.sl vortS) cs) (hp : [p] = cs) : ∃ l : List Z3, p = .list l.length (encT l) ∧ l.length ≤ maxLen := by
  obtain ⟨l, rfl, hm, hl⟩ := h
  obtain ⟨r, h1, h2⟩ := fits_rows enc3 l fun x hx => fits_vort (hl x hx)
  simp only [List.cons.injEq, and_true] at hp
  refine ⟨r, ?_, by omega⟩
  rw [hp, ← h1, h2]
  rfl
def corrS : Shp := .cons jitterS (.cons jitterS (.cons (.int .i64) (.cons (.int .i64) (.cons (.int .i64) .nil))))
theorem fits_corr {ps : List PV} (h : Fits corrS ps) : ∃ a b c d e f g : Int, ps = [.int .i64 a, .int .i64 b, .int .i64 c, .int .i64 d, .int .i64 e, .int .i64 f, .int .i64 g] := by
  obtain ⟨x1, y1, rfl, h1, x2, y2, rfl, h2, x3, y3, rfl, ⟨e, rfl, _⟩, x4, y4, rfl, ⟨f, rfl, _⟩, x5, y5, rfl, ⟨g, rfl, _⟩, h5⟩ := h
  simp only [Fits] at h5
  subst h5
  obtain ⟨a, b, rfl⟩ := fits_range h1
  obtain ⟨c, d, rfl⟩ := fits_range h2
  exact ⟨a, b, c, d, e, f, g, rfl⟩
def movedS : Shp := .cons box6S (.cons (.int .i64) .nil)
theorem fits_moved {ps : List PV} (h : Fits movedS ps) : ∃ (b : B6) (t : Int), ps = cells6 b ++ [.int .i64 t] := by
  obtain ⟨x1, y1, rfl, h1, x2, y2, rfl, ⟨t, rfl, _⟩, h5⟩ := h
  simp only [Fits] at h5
  subst h5
  obtain ⟨b, rfl⟩ := fits_box6 h1
  exact ⟨b, t, rfl⟩
def flownS : Shp := .cons box6S (.cons (.sl vortS) .nil)
theorem fits_flown {ps : List PV} (h : Fits flownS ps) : ∃ (b : B6) (l : List Z3), ps = cells6 b ++ [.list l.length (encT l)] ∧ l.length ≤ maxLen := by
  obtain ⟨x1, y1, rfl, h1, x2, y2, rfl, h2, h5⟩ := h
  simp only [Fits] at h5
  subst h5
  obtain ⟨b, rfl⟩ := fits_box6 h1
  obtain ⟨p, hp⟩ : ∃ p, [p] = x2 := by
    obtain ⟨l, rfl, _⟩ := h2
    exact ⟨_, rfl⟩
  obtain ⟨l, rfl, hm⟩ := fits_vortsN h2 hp
  exact ⟨b, l, by rw [← hp]; rfl, hm⟩
end Gv
