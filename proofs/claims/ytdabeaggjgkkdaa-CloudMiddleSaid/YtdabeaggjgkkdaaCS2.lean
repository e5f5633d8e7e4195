/- The middle of numbers lies between those that are more than half of them. -/
import Derived.Test.YtdabeaggjgkkdaaCT1
namespace Gv
open Go

theorem isort_congr {l m : List Int} (h : l.Perm m) : isort l = isort m :=
  List.Perm.eq_of_pairwise (le := fun a b => a ≤ b) (fun a b _ _ h1 h2 => by omega) (isort_asc l) (isort_asc m) ((isort_perm l).trans (h.trans (isort_perm m).symm))

def midL (l : List Int) : Int := (isort l).getD ((l.length - 1) / 2) 0
theorem midL_congr {l m : List Int} (h : l.Perm m) : midL l = midL m := by
  unfold midL
  rw [isort_congr h, h.length_eq]

theorem asc_get {l : List Int} (h : l.Pairwise (· ≤ ·)) {i j : Nat} (hij : i ≤ j) (hj : j < l.length) : l.getD i 0 ≤ l.getD j 0 := by
  rcases Nat.lt_or_eq_of_le hij with hlt | rfl
  · have := List.pairwise_iff_getElem.1 h i j (by omega) hj hlt
    simpa [List.getD, List.getElem?_eq_getElem hj, List.getElem?_eq_getElem (show i < l.length by omega)] using this
  · exact Int.le_refl _

theorem cnt_take {l : List Int} {p : Int → Bool} {k : Nat} (hk : k ≤ l.length) (h : ∀ i, i < k → p (l.getD i 0) = true) : k ≤ l.countP p := by
  have h1 : (l.take k).countP p = k := by
    rw [List.countP_eq_length.2, List.length_take, Nat.min_eq_left hk]
    intro x hx
    obtain ⟨i, hi, rfl⟩ := List.getElem_of_mem hx
    have hik : i < k := by rw [List.length_take] at hi; omega
    have := h i hik
    rw [List.getElem_take]
    simpa [List.getD, List.getElem?_eq_getElem (show i < l.length by omega)] using this
  calc k = (l.take k).countP p := h1.symm
    _ ≤ l.countP p := (List.take_sublist k l).countP_le

theorem cnt_drop {l : List Int} {p : Int → Bool} {k : Nat} (h : ∀ i, k ≤ i → i < l.length → p (l.getD i 0) = true) : l.length - k ≤ l.countP p := by
  have h1 : (l.drop k).countP p = l.length - k := by
    rw [List.countP_eq_length.2, List.length_drop]
    intro x hx
    obtain ⟨i, hi, rfl⟩ := List.getElem_of_mem hx
    rw [List.length_drop] at hi
    have := h (k + i) (by omega) (by omega)
    rw [List.getElem_drop]
    simpa [List.getD, List.getElem?_eq_getElem (show k + i < l.length by omega)] using this
  calc l.length - k = (l.drop k).countP p := h1.symm
    _ ≤ l.countP p := (List.drop_sublist k l).countP_le

theorem mid_between {s o : List Int} {lo hi : Int} (hs : ∀ x ∈ s, lo ≤ x ∧ x ≤ hi) (hlt : o.length < s.length) (hodd : (s.length + o.length) % 2 = 1) : lo ≤ midL (o ++ s) ∧ midL (o ++ s) ≤ hi := by
  obtain ⟨k, hk⟩ : ∃ k, s.length + o.length = 2 * k + 1 := ⟨(s.length + o.length) / 2, by omega⟩
  have hlen : (isort (o ++ s)).length = 2 * k + 1 := by rw [isort_len, List.length_append]; omega
  have hmid : midL (o ++ s) = (isort (o ++ s)).getD k 0 := by
    unfold midL
    rw [List.length_append, show (o.length + s.length - 1) / 2 = k by omega]
  have hasc := isort_asc (o ++ s)
  have hperm : ∀ p : Int → Bool, (isort (o ++ s)).countP p = o.countP p + s.countP p := fun p => by
    rw [(isort_perm (o ++ s)).countP_eq, List.countP_append]
  have hs0 : ∀ p : Int → Bool, (∀ x ∈ s, p x = false) → s.countP p = 0 := fun p h => List.countP_eq_zero.2 fun x hx => by rw [h x hx]; decide
  rw [hmid]
  constructor
  · apply Int.not_lt.1
    intro hc
    have h1 : k + 1 ≤ (isort (o ++ s)).countP (fun x => decide (x < lo)) := cnt_take (by omega) fun i hi => by
      have := asc_get hasc (show i ≤ k by omega) (by omega)
      exact decide_eq_true (by omega)
    rw [hperm, hs0 _ (fun x hx => by have := hs x hx; exact decide_eq_false (by omega))] at h1
    have := List.countP_le_length (p := fun x => decide (x < lo)) (l := o)
    omega
  · apply Int.not_lt.1
    intro hc
    have h1 : (isort (o ++ s)).length - k ≤ (isort (o ++ s)).countP (fun x => decide (hi < x)) := cnt_drop fun i hi1 hi2 => by
      have := asc_get hasc hi1 hi2
      exact decide_eq_true (by omega)
    rw [hperm, hs0 _ (fun x hx => by have := hs x hx; exact decide_eq_false (by omega))] at h1
    have := List.countP_le_length (p := fun x => decide (hi < x)) (l := o)
    omega
end Gv
