/- Shapes of the arguments of chapter 6. -/
import Derived.Test.YtpbpkbckgifhdaaGreatGvZb
import Derived.Test.YtpbpkbckgifhdaaGreatK2
namespace Gv
open Go
theorem fits_range {ps : List PV} (h : Fits jitterS ps) : ∃ a b : Int, ps = [.int .i64 a, .int .i64 b] := by
 obtain ⟨x1, y1, rfl, ⟨a, rfl, _⟩, x2, y2, rfl, ⟨b, rfl, _⟩, h5⟩ := h
 simp only [Fits] at h5
 subst h5
 exact ⟨a, b, rfl⟩
def vortS : Shp := .cons jitterS (.cons (.int .i64) .nil)
theorem fits_vort {ps : List PV} (h : Fits vortS ps) : ∃ z : Z3, ps = enc3 z := by
 obtain ⟨x1, y1, rfl, h1, x2, y2, rfl, ⟨c, rfl, _⟩, h5⟩ := h
 simp only [Fits] at h5
 subst h5
 obtain ⟨a, b, rfl⟩ := fits_range h1
 exact ⟨(a, b, c), rfl⟩
theorem fits_vortsN {p : PV} {cs : List PV} (h : Fits (.sl vortS) cs) (hp : [p] = cs) : ∃ l : List Z3, p = .list l.length (encT l) ∧ l.length ≤ maxLen := by
 obtain ⟨l, rfl, hm, hl⟩ := h
 obtain ⟨r, h1, h2⟩ := fits_rows enc3 l fun x hx => fits_vort (hl x hx)
 simp only [List.cons.injEq, and_true] at hp
 refine ⟨r, ?_, by omega⟩
 rw [hp, ← h1, h2]
 rfl
end Gv
