/- The greatest of numbers, where it stands first, and lists of the indexes that a question picks. -/
import Derived.Test.YtfhgjanheaocaaaGvYk
namespace Gv
open Go
def maxF (m : Int) : List Int → Int
  | [] => m
  | x :: l => maxF (if x > m then x else m) l
def maxL : List Int → Int
  | [] => 0
  | x :: l => maxF x l
theorem maxF_ge : ∀ (l : List Int) (m : Int), m ≤ maxF m l ∧ ∀ x ∈ l, x ≤ maxF m l
  | [], m => ⟨Int.le_refl m, fun x hx => by simp at hx⟩
  | y :: l, m => by
    obtain ⟨h1, h2⟩ := maxF_ge l (if y > m then y else m)
    unfold maxF
    refine ⟨by split at h1 <;> (rename_i h; simp only [h, if_true, if_false]; omega), fun x hx => ?_⟩
    rcases List.mem_cons.1 hx with rfl | hx
    · split at h1 <;> (rename_i h; simp only [h, if_true, if_false]; omega)
    · exact h2 x hx
theorem maxF_mem : ∀ (l : List Int) (m : Int), maxF m l = m ∨ maxF m l ∈ l
  | [], m => .inl rfl
  | y :: l, m => by
    unfold maxF
    rcases maxF_mem l (if y > m then y else m) with h | h
    · rw [h]
      split
      · exact .inr (by simp)
      · exact .inl rfl
    · exact .inr (List.mem_cons_of_mem _ h)
theorem maxL_ge {l : List Int} {x : Int} (h : x ∈ l) : x ≤ maxL l := by
  cases l with
  | nil => simp at h
  | cons y l =>
    obtain ⟨h1, h2⟩ := maxF_ge l y
    rcases List.mem_cons.1 h with rfl | h
    · exact h1
    · exact h2 x h
theorem maxL_mem {l : List Int} (h : 1 ≤ l.length) : maxL l ∈ l := by
  cases l with
  | nil => simp at h
  | cons y l =>
    rcases maxF_mem l y with h | h
    · show maxF y l ∈ _
      rw [h]; simp
    · exact List.mem_cons_of_mem _ h
def firstV (v : Int) : List Int → Nat → Option Nat
  | [], _ => none
  | x :: l, i => if v = x then some i else firstV v l (i + 1)
theorem firstV_mem (v : Int) : ∀ (l : List Int) (i : Nat), v ∈ l → ∃ k, firstV v l i = some (i + k) ∧ k < l.length ∧ l.getD k 0 = v ∧ ∀ j, j < k → l.getD j 0 ≠ v
  | [], i, h => by simp at h
  | x :: l, i, h => by
    by_cases hv : v = x
    · exact ⟨0, by simp [firstV, hv], by simp, by simp [hv], fun j hj => by omega⟩
    · have hl : v ∈ l := by
        rcases List.mem_cons.1 h with h | h
        · exact absurd h hv
        · exact h
      obtain ⟨k, h1, h2, h3, h4⟩ := firstV_mem v l (i + 1) hl
      refine ⟨k + 1, by simp only [firstV, hv, if_false, h1]; congr 1; omega, by simp; omega, by simpa using h3, fun j hj => ?_⟩
      cases j with
      | zero => simpa using fun h => hv h.symm
      | succ j => simpa using h4 j (by omega)
def pkL (l : List Int) : Nat := (firstV (maxL l) l 0).getD 0
theorem pkL_spec {l : List Int} (h : 1 ≤ l.length) : firstV (maxL l) l 0 = some (pkL l) ∧ pkL l < l.length ∧ l.getD (pkL l) 0 = maxL l ∧ ∀ j, j < pkL l → l.getD j 0 < maxL l := by
  obtain ⟨k, h1, h2, h3, h4⟩ := firstV_mem (maxL l) l 0 (maxL_mem h)
  rw [Nat.zero_add] at h1
  have e : pkL l = k := by unfold pkL; rw [h1]; rfl
  rw [e]
  refine ⟨h1, h2, h3, fun j hj => ?_⟩
  have a := maxL_ge (getD_mem (l := l) (i := j) (by omega))
  have b := h4 j hj
  omega
def colI (p : Nat → Bool) : Nat → Nat → List Int
  | 0, _ => []
  | n + 1, i => if p i then (i : Int) :: colI p n (i + 1) else colI p n (i + 1)
theorem colI_len (p : Nat → Bool) : ∀ (n i : Nat), (colI p n i).length ≤ n
  | 0, _ => Nat.le_refl 0
  | n + 1, i => by
    have := colI_len p n (i + 1)
    unfold colI
    split
    · simpa using this
    · omega
theorem colI_congr {p q : Nat → Bool} : ∀ (n i : Nat), (∀ j, i ≤ j → j < i + n → p j = q j) → colI p n i = colI q n i
  | 0, _, _ => rfl
  | n + 1, i, h => by
    unfold colI
    rw [h i (by omega) (by omega), colI_congr n (i + 1) fun j h1 h2 => h j (by omega) (by omega)]
theorem colI_mem {p : Nat → Bool} {x : Int} : ∀ {n i : Nat}, x ∈ colI p n i ↔ ∃ k : Nat, x = k ∧ i ≤ k ∧ k < i + n ∧ p k = true
  | 0, i => by simp [colI]; omega
  | n + 1, i => by
    unfold colI
    by_cases h : p i = true
    · rw [if_pos h, List.mem_cons, colI_mem]
      constructor
      · rintro (rfl | ⟨k, h1, h2, h3, h4⟩)
        · exact ⟨i, rfl, by omega, by omega, h⟩
        · exact ⟨k, h1, by omega, by omega, h4⟩
      · rintro ⟨k, h1, h2, h3, h4⟩
        by_cases hk : k = i
        · subst hk; exact .inl h1
        · exact .inr ⟨k, h1, by omega, by omega, h4⟩
    · rw [if_neg h, colI_mem]
      constructor
      · rintro ⟨k, h1, h2, h3, h4⟩; exact ⟨k, h1, by omega, by omega, h4⟩
      · rintro ⟨k, h1, h2, h3, h4⟩
        by_cases hk : k = i
        · subst hk; exact absurd h4 h
        · exact ⟨k, h1, by omega, by omega, h4⟩
theorem colI_first {p : Nat → Bool} : ∀ {n i k : Nat}, i ≤ k → k < i + n → p k = true → (∀ j, i ≤ j → j < k → p j = false) → ∃ r, colI p n i = (k : Int) :: r
  | 0, i, k, h1, h2, _, _ => by omega
  | n + 1, i, k, h1, h2, h3, h4 => by
    unfold colI
    by_cases hk : k = i
    · subst hk
      rw [if_pos h3]
      exact ⟨_, rfl⟩
    · rw [if_neg (by rw [h4 i (by omega) (by omega)]; simp)]
      exact colI_first (by omega) (by omega) h3 fun j a b => h4 j (by omega) b
end Gv
