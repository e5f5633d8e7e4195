/- Heads and sectors as arguments. -/
import Derived.Test.YtnoifjomlmadkaaGvZb
import Derived.Test.YtnoifjomlmadkaaSH2
namespace Gv
open Go
def axS : Shp := .cons (.int .i64) (.cons (.int .i64) .nil)
def secS : Shp := .cons axS (.cons axS .nil)
def headS : Shp := .cons axS (.cons axS (.cons axS (.cons (.sl secS) .nil)))
theorem fits_ax {ps : List PV} (h : Fits axS ps) : ∃ a b : Int, ps = [.int .i64 a, .int .i64 b] := by
  obtain ⟨x1, y1, rfl, ⟨a, rfl, _⟩, x2, y2, rfl, ⟨b, rfl, _⟩, h3⟩ := h
  simp only [Fits] at h3
  subst h3
  exact ⟨a, b, rfl⟩
theorem fits_sec {ps : List PV} (h : Fits secS ps) : ∃ s : Sec, ps = enc4 s := by
  obtain ⟨x1, y1, rfl, h1, x2, y2, rfl, h2, h3⟩ := h
  simp only [Fits] at h3
  subst h3
  obtain ⟨a, b, rfl⟩ := fits_ax h1
  obtain ⟨c, d, rfl⟩ := fits_ax h2
  exact ⟨⟨a, b, c, d⟩, rfl⟩
theorem fits_secs {p : PV} {cs : List PV} (h : Fits (.sl secS) cs) (hp : [p] = cs) : ∃ l : List Sec, p = .list l.length (encS l) := by
  obtain ⟨l, rfl, _, hl⟩ := h
  obtain ⟨r, h1, h2⟩ := fits_rows enc4 l fun x hx => fits_sec (hl x hx)
  simp only [List.cons.injEq, and_true] at hp
  refine ⟨r, ?_⟩
  rw [hp, ← h1, h2]
  rfl
theorem fits_head {ps : List PV} (h : Fits headS ps) : ∃ h : Hd, PV.agg ps = encH h := by
  obtain ⟨x1, y1, rfl, h1, x2, y2, rfl, h2, x3, y3, rfl, h3, x4, y4, rfl, h4, h5⟩ := h
  simp only [Fits] at h5
  subst h5
  obtain ⟨a, b, rfl⟩ := fits_ax h1
  obtain ⟨c, d, rfl⟩ := fits_ax h2
  obtain ⟨e, f, rfl⟩ := fits_ax h3
  obtain ⟨p, hp⟩ : ∃ p, [p] = x4 := by
    obtain ⟨l, rfl, _⟩ := h4
    exact ⟨_, rfl⟩
  obtain ⟨l, rfl⟩ := fits_secs h4 hp
  exact ⟨⟨a, b, c, d, e, f, l⟩, by rw [← hp]; rfl⟩
end Gv
