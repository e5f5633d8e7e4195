/- Small things that proofs of every chapter need: errors in their order, the first wrong element, loops that count up. -/
import Derived.Test.YtpbpkbckgifhdaaGreatGvYi
namespace Gv
open Go
theorem up_ind {P : Nat → Prop} (n : Nat) (hend : P n) (hstep : ∀ i, i < n → P (i + 1) → P i) : ∀ i, i ≤ n → P i := by
 intro i hi
 obtain ⟨k, hk⟩ : ∃ k, k = n - i := ⟨_, rfl⟩
 induction k generalizing i with
 | zero => rw [show i = n by omega]; exact hend
 | succ k ih => exact hstep i (by omega) (ih (i + 1) (by omega) (by omega))
theorem bif_pos {α : Type} {p : Prop} [Decidable p] {a b : α} (h : p) : (bif decide p then a else b) = a := by simp [h]
theorem bif_neg {α : Type} {p : Prop} [Decidable p] {a b : α} (h : ¬ p) : (bif decide p then a else b) = b := by simp [h]
theorem bif_eq {α : Type} (x y : Int) (a b : α) : (bif x == y then a else b) = if x = y then a else b := by
 by_cases h : x = y
 ·simp [h]
 ·rw [if_neg h, show (x == y) = false by simpa using h]; rfl
theorem bif_ne {α : Type} (x y : Int) (a b : α) : (bif x != y then a else b) = if x = y then b else a := by
 by_cases h : x = y
 ·simp [h]
 ·rw [if_neg h, show (x != y) = true by simpa using h]; rfl
theorem bif_dec {α : Type} {p : Prop} [Decidable p] {a b : α} : (bif decide p then a else b) = if p then a else b := by
 by_cases h : p
 ·rw [bif_pos h, if_pos h]
 ·rw [bif_neg h, if_neg h]
def both (a b : Int) : Int := if a ≠ 0 then a else b
def first3 (a b c : Int) : Int := if a ≠ 0 then a else if b ≠ 0 then b else c
def rangeE (x a b : Int) : Int := if x < a ∨ b < x then 2 else 0
theorem rangeE_in {x a b : Int} (h : a ≤ x ∧ x ≤ b) : rangeE x a b = 0 := if_neg (by omega)
theorem rangeE_ok {x a b : Int} (h : rangeE x a b = 0) : a ≤ x ∧ x ≤ b := by
 unfold rangeE at h
 split at h
 ·cases h
 ·omega
theorem get_drop {β : Type} {l : List β} {i : Nat} (h : i < l.length) : ∃ x, l[i]? = some x ∧ l.drop i = x :: l.drop (i + 1) :=
 ⟨l[i], List.getElem?_eq_getElem h, List.drop_eq_getElem_cons h⟩
end Gv
