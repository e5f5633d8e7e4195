/- More shapes of arguments: lists of numbers, gates. -/
import Derived.Test.YtfhgjanheaocaaaGvZ
namespace Gv
open Go
theorem fits_ints {p : PV} {cs : List PV} (h : Fits (.sl (.int .i64)) cs) (hp : [p] = cs) : ∃ l : List Int, p = .list l.length (encI l) := by
  obtain ⟨l, rfl, _, hl⟩ := h
  obtain ⟨r, h1, h2⟩ := fits_rows (fun n : Int => [.int .i64 n]) l fun x hx => by
    obtain ⟨n, h, _⟩ := fits_int (hl x hx)
    exact ⟨n, h⟩
  simp only [List.cons.injEq, and_true] at hp
  refine ⟨r, ?_⟩
  rw [hp, ← h1, h2]
  congr 1
  clear h1 h2 hl hp
  induction r with
  | nil => rfl
  | cons a r ih =>
    simp only [List.flatMap_cons, ih]
    rfl
def gatesS : Shp := .cons (.int .i64) (.cons (.int .i64) (.cons (.int .i64) (.cons (.sl (.int .i64)) .nil)))
def jitterS : Shp := .cons (.int .i64) (.cons (.int .i64) .nil)
def clipS : Shp := .cons (.int .i64) (.cons jitterS .nil)
theorem fits_gates {ps : List PV} (h : Fits gatesS ps) : ∃ (a b c : Int) (l : List Int), ps = [.int .i64 a, .int .i64 b, .int .i64 c, .list l.length (encI l)] := by
  obtain ⟨x1, y1, rfl, ⟨a, rfl, _⟩, x2, y2, rfl, ⟨b, rfl, _⟩, x3, y3, rfl, ⟨c, rfl, _⟩, x4, y4, rfl, h4, h5⟩ := h
  simp only [Fits] at h5
  subst h5
  obtain ⟨p, hp⟩ : ∃ p, [p] = x4 := by
    obtain ⟨l, rfl, _⟩ := h4
    exact ⟨_, rfl⟩
  obtain ⟨l, rfl⟩ := fits_ints h4 hp
  exact ⟨a, b, c, l, by rw [← hp]; rfl⟩
theorem fits_clip {ps : List PV} (h : Fits clipS ps) : ∃ a b c : Int, ps = [.int .i64 a, .int .i64 b, .int .i64 c] := by
  obtain ⟨x1, y1, rfl, ⟨a, rfl, _⟩, x2, y2, rfl, ⟨x3, y3, rfl, ⟨b, rfl, _⟩, x4, y4, rfl, ⟨c, rfl, _⟩, h4⟩, h5⟩ := h
  simp only [Fits] at h4 h5
  subst h4
  subst h5
  exact ⟨a, b, c, rfl⟩
def fourS : Shp := .cons (.int .i64) (.cons (.int .i64) (.cons (.int .i64) (.cons (.int .i64) .nil)))
theorem fits_four {ps : List PV} (h : Fits fourS ps) : ∃ a b c d : Int, ps = [.int .i64 a, .int .i64 b, .int .i64 c, .int .i64 d] := by
  obtain ⟨x1, y1, rfl, ⟨a, rfl, _⟩, x2, y2, rfl, ⟨b, rfl, _⟩, x3, y3, rfl, ⟨c, rfl, _⟩, x4, y4, rfl, ⟨d, rfl, _⟩, h5⟩ := h
  simp only [Fits] at h5
  subst h5
  exact ⟨a, b, c, d, rfl⟩
theorem fits_lists {p : PV} {cs : List PV} (h : Fits (.sl (.sl (.int .i64))) cs) (hp : [p] = cs) : ∃ g : List (List Int), p = .list g.length (g.map fun r => .list r.length (encI r)) := by
  obtain ⟨l, rfl, _, hl⟩ := h
  obtain ⟨r, h1, h2⟩ := fits_rows (fun x : List Int => [PV.list x.length (encI x)]) l fun x hx => by
    have h3 := hl x hx
    obtain ⟨p, hp⟩ : ∃ p, [p] = x := by
      obtain ⟨l, rfl, _⟩ := h3
      exact ⟨_, rfl⟩
    obtain ⟨l, rfl⟩ := fits_ints h3 hp
    exact ⟨l, hp.symm⟩
  simp only [List.cons.injEq, and_true] at hp
  refine ⟨r, ?_⟩
  rw [hp, ← h1, h2]
  congr 1
  clear h1 h2 hl hp
  induction r with
  | nil => rfl
  | cons a r ih =>
    simp only [List.flatMap_cons, ih]
    rfl
def caseS : Shp := .cons (.sl (.int .i64)) (.cons (.cons (.sl (.int .i64)) .nil) (.cons (.cons (.int .i64) (.cons (.int .i64) .nil)) .nil))
theorem fits_case {ps : List PV} (h : Fits caseS ps) : ∃ (s v : List Int) (n d : Int), ps = [.list s.length (encI s), .list v.length (encI v), .int .i64 n, .int .i64 d] ∧ (Lit.int .i64 n).wf = true ∧ (Lit.int .i64 d).wf = true := by
  obtain ⟨x1, y1, rfl, h1, x2, y2, rfl, ⟨x3, y3, rfl, h3, h4⟩, x4, y4, rfl, ⟨x5, y5, rfl, ⟨n, rfl, hn⟩, x6, y6, rfl, ⟨d, rfl, hd⟩, h7⟩, h8⟩ := h
  simp only [Fits] at h4 h7 h8
  subst h4
  subst h7
  subst h8
  obtain ⟨p, hp⟩ : ∃ p, [p] = x1 := by
    obtain ⟨l, rfl, _⟩ := h1
    exact ⟨_, rfl⟩
  obtain ⟨s, rfl⟩ := fits_ints h1 hp
  obtain ⟨q, hq⟩ : ∃ p, [p] = x3 := by
    obtain ⟨l, rfl, _⟩ := h3
    exact ⟨_, rfl⟩
  obtain ⟨v, rfl⟩ := fits_ints h3 hq
  exact ⟨s, v, n, d, by rw [← hp, ← hq]; rfl, hn, hd⟩
def noiseS : Shp := .cons (.sl (.int .i64)) .nil
theorem fits_noise {ps : List PV} (h : Fits noiseS ps) : ∃ v : List Int, ps = [.list v.length (encI v)] := by
  obtain ⟨x1, y1, rfl, h1, h2⟩ := h
  simp only [Fits] at h2
  subst h2
  obtain ⟨p, hp⟩ : ∃ p, [p] = x1 := by
    obtain ⟨l, rfl, _⟩ := h1
    exact ⟨_, rfl⟩
  obtain ⟨s, rfl⟩ := fits_ints h1 hp
  exact ⟨s, by rw [← hp]; rfl⟩
def worstS : Shp := .cons (.cons (.int .i64) (.cons (.int .i64) .nil)) (.cons (.int .i64) .nil)
theorem fits_worst {ps : List PV} (h : Fits worstS ps) : ∃ a b c : Int, ps = [.int .i64 a, .int .i64 b, .int .i64 c] ∧ (Lit.int .i64 b).wf = true := by
  obtain ⟨x1, y1, rfl, ⟨x2, y2, rfl, ⟨a, rfl, _⟩, x3, y3, rfl, ⟨b, rfl, hb⟩, h3⟩, x4, y4, rfl, ⟨c, rfl, _⟩, h4⟩ := h
  simp only [Fits] at h3 h4
  subst h3
  subst h4
  exact ⟨a, b, c, rfl, hb⟩
theorem fits_three {k : IntKind} {ps : List PV} (h : Fits (.arr 3 (.int k)) ps) : ∃ a b c : Int, ps = [.int k a, .int k b, .int k c] := by
  obtain ⟨l, hl, rfl, hx⟩ := h
  match l, hl with
  | [x, y, z], _ =>
    obtain ⟨a, rfl, _⟩ := hx x (by simp)
    obtain ⟨b, rfl, _⟩ := hx y (by simp)
    obtain ⟨c, rfl, _⟩ := hx z (by simp)
    exact ⟨a, b, c, rfl⟩
theorem fits_two {k : IntKind} {ps : List PV} (h : Fits (.arr 2 (.int k)) ps) : ∃ a b : Int, ps = [.int k a, .int k b] := by
  obtain ⟨l, hl, rfl, hx⟩ := h
  match l, hl with
  | [x, y], _ =>
    obtain ⟨a, rfl, _⟩ := hx x (by simp)
    obtain ⟨b, rfl, _⟩ := hx y (by simp)
    exact ⟨a, b, rfl⟩
end Gv
