/- Sums of parts of a list, their moments, and the first index that a question picks. -/
import Derived.Test.YtkbahledgljaoaaGreatGvYm
namespace Gv
open Go
def mo (l : List Int) : Nat → Nat → Int
  | _, 0 => 0
  | i, n + 1 => (i : Int) * l.getD i 0 + mo l (i + 1) n
def Sm (m : Int) (l : List Int) : Prop := ∀ x ∈ l, 0 ≤ x ∧ x ≤ m
theorem Sm.getD {m : Int} {l : List Int} (hm : 0 ≤ m) (h : Sm m l) (i : Nat) : 0 ≤ l.getD i 0 ∧ l.getD i 0 ≤ m := by
  by_cases hi : i < l.length
  · exact h _ (getD_mem hi)
  · rw [List.getD_eq_getElem?_getD, List.getElem?_eq_none (by omega)]
    exact ⟨Int.le_refl 0, hm⟩
def rowL (l : List Int) (i n : Nat) : List ZZ := (List.range n).map fun (j : Nat) => (((i + j : Nat) : Int), l.getD (i + j) 0)
@[simp] theorem rowL_len (l : List Int) (i n : Nat) : (rowL l i n).length = n := by simp [rowL]
theorem tdiv_bd {m n : Int} (d : Int) (h : Bd m n) : Bd m (n.tdiv d) := by
  have h1 : (n.tdiv d).natAbs ≤ n.natAbs := by rw [Int.natAbs_tdiv]; exact Nat.div_le_self _ _
  unfold Bd at *
  omega
theorem w64_bd {n : Int} (h : Bd 4611686018427387904 n) : w64 n = n := w64_in (by unfold Bd at h; omega)
end Gv
