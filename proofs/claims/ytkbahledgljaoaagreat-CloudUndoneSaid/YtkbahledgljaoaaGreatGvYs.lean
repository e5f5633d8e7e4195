/- Sums of parts of a list, their moments, and the first index that a question picks. -/
import Derived.Test.YtkbahledgljaoaaGreatGvYm
namespace Gv
open Go

/-- The sum of so many elements, from one on, and of each index times its element. -/
def pw (l : List Int) : Nat → Nat → Int
  | _, 0 => 0
  | i, n + 1 => l.getD i 0 + pw l (i + 1) n
def mo (l : List Int) : Nat → Nat → Int
  | _, 0 => 0
  | i, n + 1 => (i : Int) * l.getD i 0 + mo l (i + 1) n

theorem pw_snoc (l : List Int) : ∀ (n i : Nat), pw l i (n + 1) = pw l i n + l.getD (i + n) 0
  | 0, i => by simp [pw]
  | n + 1, i => by
    rw [pw, pw_snoc l n (i + 1), pw, show i + 1 + n = i + (n + 1) by omega]
    omega
theorem mo_snoc (l : List Int) : ∀ (n i : Nat), mo l i (n + 1) = mo l i n + ((i + n : Nat) : Int) * l.getD (i + n) 0
  | 0, i => by simp [mo]
  | n + 1, i => by
    rw [mo, mo_snoc l n (i + 1), mo, show i + 1 + n = i + (n + 1) by omega]
    omega
theorem pw_add (l : List Int) : ∀ (n i k : Nat), pw l i (n + k) = pw l i n + pw l (i + n) k
  | 0, i, k => by simp [pw]
  | n + 1, i, k => by
    rw [show n + 1 + k = n + k + 1 by omega, pw, pw_add l n (i + 1) k, pw, show i + 1 + n = i + (n + 1) by omega]
    omega

/-- Elements are small. -/
def Sm (m : Int) (l : List Int) : Prop := ∀ x ∈ l, 0 ≤ x ∧ x ≤ m
theorem Sm.getD {m : Int} {l : List Int} (hm : 0 ≤ m) (h : Sm m l) (i : Nat) : 0 ≤ l.getD i 0 ∧ l.getD i 0 ≤ m := by
  by_cases hi : i < l.length
  · exact h _ (getD_mem hi)
  · rw [List.getD_eq_getElem?_getD, List.getElem?_eq_none (by omega)]
    exact ⟨Int.le_refl 0, hm⟩
theorem pw_bd {m : Int} {l : List Int} (hm : 0 ≤ m) (h : Sm m l) : ∀ (n i : Nat), 0 ≤ pw l i n ∧ pw l i n ≤ n * m
  | 0, i => by simp [pw]
  | n + 1, i => by
    have := pw_bd hm h n (i + 1)
    have := h.getD hm i
    rw [pw]
    refine ⟨by omega, ?_⟩
    have : ((n + 1 : Nat) : Int) * m = n * m + m := by grind
    omega
theorem mo_bd {m : Int} {l : List Int} (hm : 0 ≤ m) (h : Sm m l) : ∀ (n i k : Nat), i + n ≤ k → 0 ≤ mo l i n ∧ mo l i n ≤ n * (k * m)
  | 0, i, k, _ => by simp [mo]
  | n + 1, i, k, hk => by
    have h1 := mo_bd hm h n (i + 1) k (by omega)
    have h2 := h.getD hm i
    have h3 : 0 ≤ (i : Int) * l.getD i 0 := Int.mul_nonneg (by omega) h2.1
    have h4 : (i : Int) * l.getD i 0 ≤ k * m := Int.mul_le_mul (by omega) h2.2 h2.1 (by omega)
    have : ((n + 1 : Nat) : Int) * (k * m) = n * (k * m) + k * m := by grind
    rw [mo]
    exact ⟨by omega, by omega⟩
theorem pw_ge {m : Int} {l : List Int} (hm : 0 ≤ m) (h : Sm m l) : ∀ (n i j : Nat), i ≤ j → j < i + n → l.getD j 0 ≤ pw l i n
  | 0, i, j, h1, h2 => by omega
  | n + 1, i, j, h1, h2 => by
    have a := h.getD hm i
    have b := pw_bd hm h n (i + 1)
    rw [pw]
    by_cases e : j = i
    · subst e; omega
    · have := pw_ge hm h n (i + 1) j (by omega) (by omega)
      omega
theorem pw_zero {l : List Int} : ∀ (n i : Nat), (∀ j, i ≤ j → j < i + n → l.getD j 0 = 0) → pw l i n = 0
  | 0, i, _ => rfl
  | n + 1, i, h => by rw [pw, h i (by omega) (by omega), pw_zero n (i + 1) fun j a b => h j (by omega) (by omega)]; rfl

/-- The first index that a question picks, of so many from one on. -/
def fstN (p : Nat → Bool) : Nat → Nat → Nat
  | 0, i => i
  | n + 1, i => if p i then i else fstN p n (i + 1)
theorem fstN_stop {p : Nat → Bool} {i : Nat} (h : p i = true) : ∀ n, fstN p (n + 1) i = i := fun n => by simp [fstN, h]
theorem fstN_go {p : Nat → Bool} {i : Nat} (h : p i = false) : ∀ n, fstN p (n + 1) i = fstN p n (i + 1) := fun n => by simp [fstN, h]
theorem fstN_le (p : Nat → Bool) : ∀ n i, i ≤ fstN p n i ∧ fstN p n i ≤ i + n
  | 0, i => by simp [fstN]
  | n + 1, i => by
    have := fstN_le p n (i + 1)
    unfold fstN
    split <;> omega

/-- Rows of an index and its element. -/
def rowL (l : List Int) (i n : Nat) : List ZZ := (List.range n).map fun (j : Nat) => (((i + j : Nat) : Int), l.getD (i + j) 0)
@[simp] theorem rowL_len (l : List Int) (i n : Nat) : (rowL l i n).length = n := by simp [rowL]
theorem rowL_get (l : List Int) (i : Nat) {n j : Nat} (h : j < n) : (rowL l i n)[j]? = some (((i + j : Nat) : Int), l.getD (i + j) 0) := by
  simp [rowL, List.getElem?_range, h]
theorem rowL_take (l : List Int) (i : Nat) {n j : Nat} (h : j < n) : encG ((rowL l i n).take j) ++ [.int .i64 ((i + j : Nat) : Int), .int .i64 (l.getD (i + j) 0)] = encG ((rowL l i n).take (j + 1)) := by
  rw [List.take_add_one, rowL_get l i h, encG_app]
  rfl

/-! ### Divisors, as programs find them -/

theorem tdiv_bd {m n : Int} (d : Int) (h : Bd m n) : Bd m (n.tdiv d) := by
  have h1 : (n.tdiv d).natAbs ≤ n.natAbs := by rw [Int.natAbs_tdiv]; exact Nat.div_le_self _ _
  unfold Bd at *
  omega
theorem lowF_bd {m n d : Int} (hn : Bd m n) (hd : Bd m d) : Bd m (lowF n d).1 ∧ Bd m (lowF n d).2 := ⟨tdiv_bd _ hn, tdiv_bd _ hd⟩
theorem w64_bd {n : Int} (h : Bd 4611686018427387904 n) : w64 n = n := w64_in (by unfold Bd at h; omega)
theorem gcd_bd {m a b : Int} (ha : Bd m a) (hb : Bd m b) : (Int.gcd a b : Int) ≤ m := by
  unfold Bd at *
  by_cases h : a = 0
  · subst h; rw [Int.gcd_zero_left]; omega
  · have := Int.gcd_le_natAbs_left b h
    omega
theorem max_neg {c : Int} : (if -c > c then -c else c) = (c.natAbs : Int) := by split <;> omega
end Gv
