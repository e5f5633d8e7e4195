/- More shapes of arguments: lists of numbers, gates. -/
import Derived.Test.YtkbahledgljaoaaGreatGvZ
namespace Gv
open Go
theorem fits_ints {p : PV} {cs : List PV} (h : Fits (.sl (.int .i64)) cs) (hp : [p] = cs) : ∃ l : List Int, p = .list l.length (encI l) := by
  obtain ⟨l, rfl, _, hl⟩ := h
  obtain ⟨r, h1, h2⟩ := fits_rows (fun n : Int => [.int .i64 n]) l fun x hx => by
    obtain ⟨n, h, _⟩ := fits_int (hl x hx)
    exact ⟨n, h⟩
  simp only [List.cons.injEq, and_true] at hp
  refine ⟨r, ?_⟩
  rw [hp, ← h1, h2]
  congr 1
  clear h1 h2 hl hp
  induction r with
  | nil => rfl
  | cons a r ih =>
    simp only [List.flatMap_cons, ih]
    rfl
end Gv
