/- Small things that proofs of every chapter need: errors in their order, the first wrong element, loops that count up. -/
import Derived.Test.YtfhgjanheaocaaaGvYi
namespace Gv
open Go
theorem up_ind {P : Nat → Prop} (n : Nat) (hend : P n) (hstep : ∀ i, i < n → P (i + 1) → P i) : ∀ i, i ≤ n → P i := by
  intro i hi
  obtain ⟨k, hk⟩ : ∃ k, k = n - i := ⟨_, rfl⟩
  induction k generalizing i with
  | zero => rw [show i = n by omega]; exact hend
  | succ k ih => exact hstep i (by omega) (ih (i + 1) (by omega) (by omega))
theorem bif_pos {α : Type} {p : Prop} [Decidable p] {a b : α} (h : p) : (bif decide p then a else b) = a := by simp [h]
theorem bif_neg {α : Type} {p : Prop} [Decidable p] {a b : α} (h : ¬ p) : (bif decide p then a else b) = b := by simp [h]
theorem bif_eq {α : Type} (x y : Int) (a b : α) : (bif x == y then a else b) = if x = y then a else b := by
  by_cases h : x = y
  · simp [h]
  · rw [if_neg h, show (x == y) = false by simpa using h]; rfl
theorem bif_ne {α : Type} (x y : Int) (a b : α) : (bif x != y then a else b) = if x = y then b else a := by
  by_cases h : x = y
  · simp [h]
  · rw [if_neg h, show (x != y) = true by simpa using h]; rfl
theorem bif_dec {α : Type} {p : Prop} [Decidable p] {a b : α} : (bif decide p then a else b) = if p then a else b := by
  by_cases h : p
  · rw [bif_pos h, if_pos h]
  · rw [bif_neg h, if_neg h]
def both (a b : Int) : Int := if a ≠ 0 then a else b
def first3 (a b c : Int) : Int := if a ≠ 0 then a else if b ≠ 0 then b else c
def first4 (a b c d : Int) : Int := if a ≠ 0 then a else if b ≠ 0 then b else if c ≠ 0 then c else d
theorem both_zero {a b : Int} (h : a = 0) : both a b = b := by simp [both, h]
theorem both_not {a b : Int} (h : a ≠ 0) : both a b = a := by simp [both, h]
theorem both_nil {x y : Int} (h : both x y = 0) : x = 0 ∧ y = 0 := by
  unfold both at h
  split at h
  · contradiction
  · exact ⟨by omega, h⟩
theorem first3_nil {a b c : Int} (h : first3 a b c = 0) : a = 0 ∧ b = 0 ∧ c = 0 := by
  unfold first3 at h
  split at h
  · contradiction
  · split at h
    · contradiction
    · exact ⟨by omega, by omega, h⟩
theorem first4_nil {a b c d : Int} (h : first4 a b c d = 0) : a = 0 ∧ b = 0 ∧ c = 0 ∧ d = 0 := by
  unfold first4 at h
  split at h
  · contradiction
  · split at h
    · contradiction
    · split at h
      · contradiction
      · exact ⟨by omega, by omega, by omega, h⟩
def rangeE (x a b : Int) : Int := if x < a ∨ b < x then 2 else 0
theorem rangeE_in {x a b : Int} (h : a ≤ x ∧ x ≤ b) : rangeE x a b = 0 := if_neg (by omega)
theorem rangeE_out {x a b : Int} (h : ¬ (a ≤ x ∧ x ≤ b)) : rangeE x a b = 2 := if_pos (by omega)
theorem rangeE_ok {x a b : Int} (h : rangeE x a b = 0) : a ≤ x ∧ x ≤ b := by
  unfold rangeE at h
  split at h
  · cases h
  · omega
def findE {β : Type} (f : β → Int) : List β → Nat → Option (Int × Int)
  | [], _ => none
  | x :: l, i => if f x ≠ 0 then some ((i : Int), f x) else findE f l (i + 1)
def sumE (o : Option (Int × Int)) : (Int × Int) ⊕ Unit := match o with
  | some p => .inl p
  | none => .inr ()
theorem get_drop {β : Type} {l : List β} {i : Nat} (h : i < l.length) : ∃ x, l[i]? = some x ∧ l.drop i = x :: l.drop (i + 1) :=
  ⟨l[i], List.getElem?_eq_getElem h, List.drop_eq_getElem_cons h⟩
theorem findE_none {β : Type} {f : β → Int} : ∀ {l : List β} {i : Nat}, findE f l i = none → ∀ z ∈ l, f z = 0
  | [], _, _, z, hz => by simp at hz
  | x :: l, i, h, z, hz => by
    simp only [findE] at h
    split at h
    · cases h
    · rename_i hx
      rcases List.mem_cons.1 hz with rfl | hz
      · simpa using hx
      · exact findE_none h z hz
theorem findE_some {β : Type} {f : β → Int} : ∀ {l : List β} {i : Nat} {p : Int × Int}, findE f l i = some p → p.2 ≠ 0 ∧ ∃ z ∈ l, f z = p.2
  | [], _, _, h => by simp [findE] at h
  | x :: l, i, p, h => by
    simp only [findE] at h
    split at h
    · rename_i hx
      simp at h
      subst h
      exact ⟨hx, x, by simp, rfl⟩
    · obtain ⟨h1, z, h2, h3⟩ := findE_some h
      exact ⟨h1, z, by simp [h2], h3⟩
theorem findE_rng (a b : Int) {l : List Int} {i : Nat} {p : Int × Int} (h : findE (fun x => rangeE x a b) l i = some p) : p.2 = 2 := by
  obtain ⟨h1, z, _, h3⟩ := findE_some h
  unfold rangeE at h3
  split at h3 <;> omega
theorem encI_snoc (l : List Int) (x : Int) : encI l ++ [.int .i64 x] = encI (l ++ [x]) := by simp [encI]
def listIE (m lo hi : Int) (l : List Int) : Int × Int := if l.length = 0 then (0, 10) else if m < l.length then (0, 8) else (findE (fun x => rangeE x lo hi) l 0).getD (0, 0)
theorem listIE_ok {m lo hi : Int} {l : List Int} (h : (listIE m lo hi l).2 = 0) : 1 ≤ l.length ∧ (l.length : Int) ≤ m ∧ ∀ x ∈ l, lo ≤ x ∧ x ≤ hi := by
  unfold listIE at h
  split at h
  · cases h
  · split at h
    · cases h
    · cases hf : findE (fun x => rangeE x lo hi) l 0 with
      | some p =>
        rw [hf] at h
        have := findE_rng lo hi hf
        simp at h
        omega
      | none => exact ⟨by omega, by omega, fun x hx => rangeE_ok (findE_none hf x hx)⟩
theorem getD_mem {l : List Int} {i : Nat} (h : i < l.length) : l.getD i 0 ∈ l := by
  have := get_getD (l := l) 0 h
  exact List.mem_of_getElem? this
theorem natAbs_tmod' (a b : Int) : (a.tmod b).natAbs = a.natAbs % b.natAbs := Int.natAbs_tmod a b
theorem gcd_step (a b : Int) : Int.gcd b (a.tmod b) = Int.gcd a b := by
  unfold Int.gcd
  rw [natAbs_tmod', Nat.gcd_comm, ← Nat.gcd_rec, Nat.gcd_comm]
def Bd (m x : Int) : Prop := -m ≤ x ∧ x ≤ m
theorem tmod_bd {m a b : Int} (ha : Bd m a) : Bd m (a.tmod b) := by
  have h1 := natAbs_tmod' a b
  have h2 := Nat.mod_le a.natAbs b.natAbs
  unfold Bd at *
  omega
theorem tmod_lt {a b : Int} (hb : b ≠ 0) : (a.tmod b).natAbs < b.natAbs := by
  rw [natAbs_tmod']
  exact Nat.mod_lt _ (by omega)
def lowF (n d : Int) : Int × Int := (n.tdiv (Int.gcd n d), d.tdiv (Int.gcd n d))
theorem gcd_pos {n d : Int} (hd : 0 < d) : 0 < (Int.gcd n d : Int) := by
  have := Int.gcd_pos_of_ne_zero_right n (show d ≠ 0 by omega)
  omega
theorem lowF_mul (n d : Int) : (lowF n d).1 * (Int.gcd n d : Int) = n ∧ (lowF n d).2 * (Int.gcd n d : Int) = d := by
  unfold lowF
  exact ⟨Int.tdiv_mul_cancel (Int.gcd_dvd_left n d), Int.tdiv_mul_cancel (Int.gcd_dvd_right n d)⟩
theorem lowF_den {n d : Int} (hd : 0 < d) : 0 < (lowF n d).2 := by
  have h1 := (lowF_mul n d).2
  have h2 := gcd_pos (n := n) hd
  by_cases h : 0 < (lowF n d).2
  · exact h
  · have := Int.mul_nonneg (show 0 ≤ -(lowF n d).2 by omega) (show 0 ≤ (Int.gcd n d : Int) by omega)
    have e : -(lowF n d).2 * (Int.gcd n d : Int) = -((lowF n d).2 * (Int.gcd n d : Int)) := by grind
    omega
theorem lowF_gcd {n d : Int} (hd : 0 < d) : Int.gcd (lowF n d).1 (lowF n d).2 = 1 := by
  have h2 := gcd_pos (n := n) hd
  have key : Int.gcd ((lowF n d).1 * (Int.gcd n d : Int)) ((lowF n d).2 * (Int.gcd n d : Int)) = Int.gcd (lowF n d).1 (lowF n d).2 * Int.gcd n d := by
    rw [Int.gcd_mul_right]
    simp
  rw [(lowF_mul n d).1, (lowF_mul n d).2] at key
  have h3 : 0 < Int.gcd n d := by omega
  exact Nat.eq_of_mul_eq_mul_right h3 (by rw [← key]; omega)
theorem dvd_cop {y v x : Int} (h : y ∣ v * x) (c : Int.gcd x y = 1) : y ∣ v := by
  have h1 : y.natAbs ∣ v.natAbs * x.natAbs := by rw [← Int.natAbs_mul]; exact Int.natAbs_dvd_natAbs.2 h
  have h2 : Nat.Coprime y.natAbs x.natAbs := by unfold Nat.Coprime; rw [Nat.gcd_comm]; exact c
  exact Int.natAbs_dvd_natAbs.1 (h2.dvd_of_dvd_mul_right h1)
theorem lowF_same {n d m k : Int} (hd : 0 < d) (hk : 0 < k) (h : n * k = m * d) : lowF n d = lowF m k := by
  obtain ⟨a1, a2⟩ := lowF_mul n d
  obtain ⟨b1, b2⟩ := lowF_mul m k
  have p1 := lowF_den (n := n) hd
  have p2 := lowF_den (n := m) hk
  have g1 := gcd_pos (n := n) hd
  have g2 := gcd_pos (n := m) hk
  have c1 := lowF_gcd (n := n) hd
  have c2 := lowF_gcd (n := m) hk
  obtain ⟨x, hx⟩ : ∃ x, x = (lowF n d).1 := ⟨_, rfl⟩
  obtain ⟨y, hy⟩ : ∃ x, x = (lowF n d).2 := ⟨_, rfl⟩
  obtain ⟨u, hu⟩ : ∃ x, x = (lowF m k).1 := ⟨_, rfl⟩
  obtain ⟨v, hv⟩ : ∃ x, x = (lowF m k).2 := ⟨_, rfl⟩
  rw [← hx, ← hy] at c1
  rw [← hu, ← hv] at c2
  rw [← hx] at a1
  rw [← hy] at a2 p1
  rw [← hu] at b1
  rw [← hv] at b2 p2
  have e : x * v = u * y := by
    have q : (x * v - u * y) * ((Int.gcd n d : Int) * (Int.gcd m k : Int)) = 0 := by
      have : (x * v - u * y) * ((Int.gcd n d : Int) * (Int.gcd m k : Int)) = (x * (Int.gcd n d : Int)) * (v * (Int.gcd m k : Int)) - (u * (Int.gcd m k : Int)) * (y * (Int.gcd n d : Int)) := by grind
      rw [this, a1, b2, b1, a2]
      omega
    rcases Int.mul_eq_zero.1 q with h0 | h0
    · omega
    · have := Int.mul_pos g1 g2
      omega
  have d1 : y ∣ v := by
    have : y ∣ v * x := ⟨u, by grind⟩
    exact dvd_cop this c1
  have d2 : v ∣ y := by
    have : v ∣ y * u := ⟨x, by grind⟩
    exact dvd_cop this c2
  have e2 : y = v := Int.dvd_antisymm (by omega) (by omega) d1 d2
  have e1 : x = u := by
    rw [← e2] at e
    exact Int.eq_of_mul_eq_mul_right (show y ≠ 0 by omega) e
  have r1 : lowF n d = (x, y) := by rw [hx, hy]
  have r2 : lowF m k = (u, v) := by rw [hu, hv]
  rw [r1, r2, e1, e2]
end Gv
