/- More shapes of arguments: lists of numbers, gates. -/
import Derived.Test.YtpbpkbckgifhdaaGreatGvZ
namespace Gv
open Go
theorem fits_ints {p : PV} {cs : List PV} (h : Fits (.sl (.int .i64)) cs) (hp : [p] = cs) : ∃ l : List Int, p = .list l.length (encI l) := by
 obtain ⟨l, rfl, _, hl⟩ := h
 obtain ⟨r, h1, h2⟩ := fits_rows (fun n : Int => [.int .i64 n]) l fun x hx => by
  obtain ⟨n, h, _⟩ := fits_int (hl x hx)
  exact ⟨n, h⟩
 simp only [List.cons.injEq, and_true] at hp
 refine ⟨r, ?_⟩
 rw [hp, ← h1, h2]
 congr 1
 clear h1 h2 hl hp
 induction r with
 | nil => rfl
 | cons a r ih =>
  simp only [List.flatMap_cons, ih]
  rfl
theorem fits_lists {p : PV} {cs : List PV} (h : Fits (.sl (.sl (.int .i64))) cs) (hp : [p] = cs) : ∃ g : List (List Int), p = .list g.length (g.map fun r => .list r.length (encI r)) := by
 obtain ⟨l, rfl, _, hl⟩ := h
 obtain ⟨r, h1, h2⟩ := fits_rows (fun x : List Int => [PV.list x.length (encI x)]) l fun x hx => by
  have h3 := hl x hx
  obtain ⟨p, hp⟩ : ∃ p, [p] = x := by
   obtain ⟨l, rfl, _⟩ := h3
   exact ⟨_, rfl⟩
  obtain ⟨l, rfl⟩ := fits_ints h3 hp
  exact ⟨l, hp.symm⟩
 simp only [List.cons.injEq, and_true] at hp
 refine ⟨r, ?_⟩
 rw [hp, ← h1, h2]
 congr 1
 clear h1 h2 hl hp
 induction r with
 | nil => rfl
 | cons a r ih =>
  simp only [List.flatMap_cons, ih]
  rfl
end Gv
