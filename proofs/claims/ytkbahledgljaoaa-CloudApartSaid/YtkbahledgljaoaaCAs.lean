/- Counting asked gates in ranges: plain facts. -/
import Derived.Test.YtkbahledgljaoaaCAr
namespace Gv
def cn (p : Nat → Bool) : Nat → Int
  | 0 => 0
  | n + 1 => cn p n + if p n = true then 1 else 0
theorem cn_none {p : Nat → Bool} {a : Nat} : ∀ d, (∀ g, a ≤ g → g < a + d → p g = false) → cn p (a + d) = cn p a
  | 0, _ => rfl
  | d + 1, h => by
    have ih := cn_none d fun g h1 h2 => h g h1 (by omega)
    rw [← Nat.add_assoc]
    simp only [cn, ih]
    rw [if_neg (by rw [h (a + d) (by omega) (by omega)]; simp)]
    omega
theorem cn_bd (p : Nat → Bool) : ∀ n, 0 ≤ cn p n ∧ cn p n ≤ n
  | 0 => by simp [cn]
  | n + 1 => by
    have := cn_bd p n
    simp only [cn]
    split <;> omega
theorem cn_mono (p : Nat → Bool) (a : Nat) : ∀ d, cn p a ≤ cn p (a + d)
  | 0 => Int.le_refl _
  | d + 1 => by
    have := cn_mono p a d
    rw [← Nat.add_assoc]
    simp only [cn]
    split <;> omega
def cnR (p : Nat → Bool) (r : Rg) : Int := cn p (r.2 + 1).toNat - cn p r.1.toNat
def sumR (p : Nat → Bool) (l : List Rg) : Int := (l.map (cnR p)).sum
theorem sumR_app (p : Nat → Bool) (a b : List Rg) : sumR p (a ++ b) = sumR p a + sumR p b := by simp [sumR]
theorem sumR_one (p : Nat → Bool) (r : Rg) : sumR p [r] = cnR p r := by simp [sumR]
theorem rngs_behind {gap : Int} (hg : 0 ≤ gap) {p : Nat → Bool} {n : Nat} {a : List Rg} {r : Rg} (h : RG gap p n (a ++ [r])) {g : Nat} (h1 : r.2 < g) (h2 : g < n) : p g = false := by
  cases hp : p g with
  | false => rfl
  | true =>
    exfalso
    obtain ⟨s, hs, k1, k2⟩ := h.all g h2 hp
    rcases List.mem_append.1 hs with hs | hs
    · obtain ⟨i, hi⟩ := List.getElem?_of_mem hs
      have hlt := (List.getElem?_eq_some_iff.1 hi).1
      have := h.asc hg (a.length - i - 1) i s r (by rw [List.getElem?_append_left hlt]; exact hi) (by rw [show i + 1 + (a.length - i - 1) = a.length by omega]; simp)
      have := h.ends r (by simp)
      omega
    · simp at hs; subst hs; omega
theorem sumR_all (gap : Int) (hg : 0 ≤ gap) (p : Nat → Bool) : ∀ n, sumR p (rngs gap p n) = cn p n
  | 0 => rfl
  | n + 1 => by
    have ih := sumR_all gap hg p n
    have hs := rngs_spec gap hg p n
    simp only [rngs, cn]
    by_cases hp : p n = true
    · rw [if_pos hp, if_pos hp]
      have hn1 : cn p (n + 1) = cn p n + 1 := by simp [cn, hp]
      have e1 : ((n : Int) + 1).toNat = n + 1 := by omega
      have e2 : (n : Int).toNat = n := by omega
      rcases list_last (rngs gap p n) with h0 | ⟨a, r, h0⟩
      · rw [h0] at ih ⊢
        rw [stepR_nil, sumR_one]
        have : cn p n = 0 := ih.symm
        simp only [cnR, e1, e2]
        omega
      · rw [h0] at ih hs ⊢
        have hr := hs.ends r (by simp)
        rw [sumR_app, sumR_one] at ih
        by_cases hc : (n : Int) - r.2 - 1 ≤ gap
        · rw [stepR_in hc, sumR_app, sumR_one]
          have hz : cn p n = cn p (r.2 + 1).toNat := by
            have := cn_none (p := p) (a := (r.2 + 1).toNat) (n - (r.2 + 1).toNat) fun g h1 h2 => rngs_behind hg hs (by omega) (by omega)
            rwa [show (r.2 + 1).toNat + (n - (r.2 + 1).toNat) = n by omega] at this
          simp only [cnR, e1] at ih ⊢
          omega
        · rw [stepR_out hc, sumR_app, sumR_one, sumR_app, sumR_one]
          simp only [cnR, e1, e2] at ih ⊢
          omega
    · rw [if_neg hp, if_neg hp, ih]
      omega
theorem layer_one {p : Nat → Bool} {gap : Int} (hg : 0 ≤ gap) (n : Nat) (q : Rg → Bool) (hq : ∀ r : Rg, r.1 ≤ r.2 → q r = true) : (rngs gap p n).filter q = rngs gap p n := by
  rw [List.filter_eq_self]
  intro r hr
  exact hq r ((rngs_spec gap hg p n).ends r hr).2.1
end Gv
