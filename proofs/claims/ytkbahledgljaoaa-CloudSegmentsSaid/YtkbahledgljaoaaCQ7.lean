import Derived.Test.YtkbahledgljaoaaCS11
import Derived.Test.YtkbahledgljaoaaCQ2

/- No number is nearer to all numbers than their middle. -/
namespace Gv
open Go

def szI (x : Int) : Int := if x < 0 then -x else x
def costAt (s : List Int) (m : Int) : Int := (s.map fun x => szI (x - m)).sum
theorem costAt_cons (x : Int) (s : List Int) (m : Int) : costAt (x :: s) m = szI (x - m) + costAt s m := rfl
theorem costAt_nonneg : ∀ (s : List Int) (m : Int), 0 ≤ costAt s m
  | [], _ => Int.le_refl 0
  | x :: s, m => by
    rw [costAt_cons]
    have := costAt_nonneg s m
    unfold szI
    split <;> omega

theorem cost_up (m d : Int) (hd : 0 ≤ d) : ∀ s : List Int, costAt s m + d * (2 * (s.countP fun z => decide (z ≤ m) : Nat)) ≤ costAt s (m + d) + d * (s.length : Int)
  | [] => by simp [costAt]
  | x :: s => by
    have ih := cost_up m d hd s
    rw [costAt_cons, costAt_cons, List.countP_cons, List.length_cons]
    have h1 : d * ((s.length + 1 : Nat) : Int) = d * (s.length : Int) + d := by
      rw [Int.natCast_add, Int.mul_add]
      simp
    rw [h1]
    unfold szI
    by_cases h : x ≤ m
    · rw [decide_eq_true h, if_pos rfl]
      have h2 : d * (2 * ((s.countP (fun z => decide (z ≤ m)) + 1 : Nat) : Int)) = d * (2 * ((s.countP fun z => decide (z ≤ m) : Nat) : Int)) + 2 * d := by
        rw [Int.natCast_add, Int.mul_add, Int.mul_add]
        simp
        omega
      rw [h2]
      split <;> split <;> omega
    · rw [if_neg (c := decide (x ≤ m) = true) (by simpa using h), Nat.add_zero]
      split <;> split <;> omega
theorem cost_down (m d : Int) (hd : 0 ≤ d) : ∀ s : List Int, costAt s m + d * (s.length : Int) ≤ costAt s (m - d) + d * (2 * (s.countP fun z => decide (z < m) : Nat))
  | [] => by simp [costAt]
  | x :: s => by
    have ih := cost_down m d hd s
    rw [costAt_cons, costAt_cons, List.countP_cons, List.length_cons]
    have h1 : d * ((s.length + 1 : Nat) : Int) = d * (s.length : Int) + d := by
      rw [Int.natCast_add, Int.mul_add]
      simp
    rw [h1]
    unfold szI
    by_cases h : x < m
    · rw [decide_eq_true h, if_pos rfl]
      have h2 : d * (2 * ((s.countP (fun z => decide (z < m)) + 1 : Nat) : Int)) = d * (2 * ((s.countP fun z => decide (z < m) : Nat) : Int)) + 2 * d := by
        rw [Int.natCast_add, Int.mul_add, Int.mul_add]
        simp
        omega
      rw [h2]
      split <;> split <;> omega
    · rw [if_neg (c := decide (x < m) = true) (by simpa using h), Nat.add_zero]
      split <;> split <;> omega

/-- The cost of a segment. -/
def costM (s : List Int) : Int := costAt s (midL s)
theorem costM_le {s : List Int} (h1 : 1 ≤ s.length) (m : Int) : costM s ≤ costAt s m := by
  obtain ⟨ha, hb⟩ := mid_counts h1
  unfold costM
  by_cases h : midL s ≤ m
  · have hd : 0 ≤ m - midL s := by omega
    have hu := cost_up (midL s) (m - midL s) hd s
    have hm := Int.mul_le_mul_of_nonneg_left (a := (s.length : Int)) (b := 2 * ((s.countP fun z => decide (z ≤ midL s) : Nat) : Int)) (c := m - midL s) (by omega) hd
    rw [show midL s + (m - midL s) = m by omega] at hu
    omega
  · have hd : 0 ≤ midL s - m := by omega
    have hu := cost_down (midL s) (midL s - m) hd s
    have hm := Int.mul_le_mul_of_nonneg_left (a := 2 * ((s.countP fun z => decide (z < midL s) : Nat) : Int)) (b := (s.length : Int)) (c := midL s - m) (by omega) hd
    rw [show midL s - (midL s - m) = m by omega] at hu
    omega
theorem costM_nonneg (s : List Int) : 0 ≤ costM s := costAt_nonneg _ _

/-- The least of costs, as a loop finds it from -1 on. -/
def leastF (a : Int) (l : List Int) : Int := l.foldl (fun a x => if a < 0 ∨ x < a then x else a) a
theorem leastF_cons (a x : Int) (l : List Int) : leastF a (x :: l) = leastF (if a < 0 ∨ x < a then x else a) l := rfl
theorem leastF_ok : ∀ (l : List Int) (a : Int), 0 ≤ a → (∀ x ∈ l, 0 ≤ x) → 0 ≤ leastF a l ∧ leastF a l ≤ a ∧ (∀ x ∈ l, leastF a l ≤ x) ∧ (leastF a l = a ∨ leastF a l ∈ l)
  | [], a, h, _ => ⟨h, Int.le_refl _, fun x hx => (by cases hx), .inl rfl⟩
  | x :: l, a, h, hl => by
    rw [leastF_cons]
    have hx := hl x List.mem_cons_self
    have hl' : ∀ y ∈ l, 0 ≤ y := fun y hy => hl y (List.mem_cons_of_mem _ hy)
    by_cases hc : x < a
    · rw [if_pos (.inr hc)]
      obtain ⟨h1, h2, h3, h4⟩ := leastF_ok l x hx hl'
      refine ⟨h1, by omega, fun y hy => ?_, ?_⟩
      · rcases List.mem_cons.1 hy with rfl | hy
        · exact h2
        · exact h3 y hy
      · rcases h4 with h4 | h4
        · right
          rw [h4]
          exact List.mem_cons_self
        · exact .inr (List.mem_cons_of_mem _ h4)
    · rw [if_neg (by omega)]
      obtain ⟨h1, h2, h3, h4⟩ := leastF_ok l a h hl'
      refine ⟨h1, h2, fun y hy => ?_, ?_⟩
      · rcases List.mem_cons.1 hy with rfl | hy
        · omega
        · exact h3 y hy
      · rcases h4 with h4 | h4
        · exact .inl h4
        · exact .inr (List.mem_cons_of_mem _ h4)
theorem leastF_start {l : List Int} (h : l ≠ []) (hl : ∀ x ∈ l, 0 ≤ x) : (∀ x ∈ l, leastF (-1) l ≤ x) ∧ leastF (-1) l ∈ l := by
  cases l with
  | nil => exact absurd rfl h
  | cons x l =>
    rw [leastF_cons, if_pos (.inl (by omega))]
    obtain ⟨_, h2, h3, h4⟩ := leastF_ok l x (hl x List.mem_cons_self) fun y hy => hl y (List.mem_cons_of_mem _ hy)
    refine ⟨fun y hy => ?_, ?_⟩
    · rcases List.mem_cons.1 hy with rfl | hy
      · exact h2
      · exact h3 y hy
    · rcases h4 with h4 | h4
      · rw [h4]
        exact List.mem_cons_self
      · exact List.mem_cons_of_mem _ h4

/-- What the reference finds as the cost: the least of all numbers of the segment. -/
theorem cost_ref {s : List Int} (h1 : 1 ≤ s.length) : leastF (-1) (s.map (costAt s)) = costM s := by
  have hn : ∀ x ∈ s.map (costAt s), 0 ≤ x := fun x hx => by
    obtain ⟨m, _, rfl⟩ := List.mem_map.1 hx
    exact costAt_nonneg s m
  have he : s.map (costAt s) ≠ [] := by
    intro h
    have := congrArg List.length h
    rw [List.length_map, List.length_nil] at this
    omega
  obtain ⟨ha, hb⟩ := leastF_start he hn
  have h2 := ha (costM s) (List.mem_map.2 ⟨midL s, mid_mem h1, rfl⟩)
  obtain ⟨m, _, hm⟩ := List.mem_map.1 hb
  have h3 := costM_le h1 m
  omega
end Gv

/- Potentials: what the reference's loops find, and what the code's minimum finds, are the same. -/
namespace Gv
open Go

/-- The gates from i up to k, k excluded. -/
def segL (l : List Int) (i k : Nat) : List Int := (l.drop i).take (k - i)
theorem segL_len {l : List Int} {i k : Nat} (h1 : i ≤ k) (h2 : k ≤ l.length) : (segL l i k).length = k - i := by
  unfold segL
  rw [List.length_take, List.length_drop]
  omega
theorem segL_mem {l : List Int} {i k : Nat} {x : Int} (h : x ∈ segL l i k) : x ∈ l :=
  List.mem_of_mem_drop (List.mem_of_mem_take h)

def cands (l : List Int) (pen : Int) (k : Nat) : List Int → Nat → List Int
  | [], _ => []
  | b :: r, i => (b + costM (segL l i k) + pen) :: cands l pen k r (i + 1)
theorem cands_len (l : List Int) (pen : Int) (k : Nat) : ∀ (r : List Int) (i : Nat), (cands l pen k r i).length = r.length
  | [], _ => rfl
  | b :: r, i => by
    show ((b + costM (segL l i k) + pen) :: cands l pen k r (i + 1)).length = _
    rw [List.length_cons, cands_len l pen k r (i + 1), List.length_cons]
def minF (a : Int) (l : List Int) : Int := l.foldl (fun a x => if x < a then x else a) a
theorem minF_cons (a x : Int) (l : List Int) : minF a (x :: l) = minF (if x < a then x else a) l := rfl
theorem minF_least : ∀ (l : List Int) (a : Int), 0 ≤ a → (∀ x ∈ l, 0 ≤ x) → minF a l = leastF a l
  | [], _, _, _ => rfl
  | x :: l, a, h, hl => by
    have hx := hl x List.mem_cons_self
    have hl' : ∀ y ∈ l, 0 ≤ y := fun y hy => hl y (List.mem_cons_of_mem _ hy)
    rw [minF_cons, leastF_cons]
    by_cases hc : x < a
    · rw [if_pos hc, if_pos (.inr hc)]
      exact minF_least l x hx hl'
    · rw [if_neg hc, if_neg (by omega)]
      exact minF_least l a h hl'
theorem minF_start {a : Int} {l : List Int} (h : l ≠ []) (hl : ∀ x ∈ l, 0 ≤ x ∧ x < a) : minF a l = leastF (-1) l := by
  cases l with
  | nil => exact absurd rfl h
  | cons x l =>
    have hx := hl x List.mem_cons_self
    rw [minF_cons, leastF_cons, if_pos hx.2, if_pos (.inl (by omega))]
    exact minF_least l x hx.1 fun y hy => (hl y (List.mem_cons_of_mem _ hy)).1

/-- The potential of as many gates as there are potentials of fewer ones. -/
def nextP (l : List Int) (pen : Int) (bs : List Int) : Int := if bs = [] then 0 else leastF (-1) (cands l pen bs.length bs 0)
/-- The potentials of 0 to j gates. -/
def potsR (l : List Int) (pen : Int) : Nat → List Int
  | 0 => [0]
  | j + 1 => potsR l pen j ++ [nextP l pen (potsR l pen j)]
theorem potsR_len (l : List Int) (pen : Int) : ∀ j, (potsR l pen j).length = j + 1
  | 0 => rfl
  | j + 1 => by
    show (potsR l pen j ++ [nextP l pen (potsR l pen j)]).length = _
    rw [List.length_append, potsR_len l pen j]
    rfl
theorem potsR_take (l : List Int) (pen : Int) : ∀ (n j : Nat), j ≤ n → (potsR l pen n).take (j + 1) = potsR l pen j
  | 0, j, h => by
    obtain rfl : j = 0 := by omega
    rfl
  | n + 1, j, h => by
    by_cases hj : j = n + 1
    · subst hj
      rw [List.take_of_length_le (by rw [potsR_len]; omega)]
    · show (potsR l pen n ++ _).take (j + 1) = _
      rw [List.take_append_of_le_length (by rw [potsR_len]; omega)]
      exact potsR_take l pen n j (by omega)
theorem potsR_get (l : List Int) (pen : Int) {n j : Nat} (h : j + 1 ≤ n) : (potsR l pen n)[j + 1]? = some (nextP l pen (potsR l pen j)) := by
  have h1 := potsR_take l pen n (j + 1) h
  have h2 : ((potsR l pen n).take (j + 1 + 1))[j + 1]? = (potsR l pen n)[j + 1]? := by rw [List.getElem?_take, if_pos (by omega)]
  rw [← h2, h1]
  show (potsR l pen j ++ [_])[j + 1]? = _
  rw [List.getElem?_append_right (by rw [potsR_len]; omega), potsR_len]
  simp
/-- A potential is the next one of those before it. -/
theorem potsR_next (l : List Int) (pen : Int) {n i : Nat} (h : i ≤ n) : (potsR l pen n)[i]? = some (nextP l pen ((potsR l pen n).take i)) := by
  cases i with
  | zero =>
    have h1 := potsR_take l pen n 0 (by omega)
    have h2 : ((potsR l pen n).take (0 + 1))[0]? = (potsR l pen n)[0]? := by rw [List.getElem?_take, if_pos (by omega)]
    rw [← h2, h1]
    simp [potsR, nextP]
  | succ j =>
    rw [potsR_get l pen (by omega), potsR_take l pen n j (by omega)]

/-- How large costs can be. -/
theorem costAt_le : ∀ (s : List Int) (m b : Int), (∀ x ∈ s, szI (x - m) ≤ b) → costAt s m ≤ b * (s.length : Int)
  | [], m, b, _ => by simp [costAt]
  | x :: s, m, b, h => by
    have ih := costAt_le s m b fun y hy => h y (List.mem_cons_of_mem _ hy)
    have h1 := h x List.mem_cons_self
    rw [costAt_cons, List.length_cons, Int.natCast_add, Int.mul_add]
    simp only [Int.natCast_one, Int.mul_one]
    omega
theorem costM_small {s : List Int} {b : Int} (h1 : 1 ≤ s.length) (h : ∀ x ∈ s, 0 ≤ x ∧ x ≤ b) : costM s ≤ b * (s.length : Int) := by
  refine costAt_le s (midL s) b fun x hx => ?_
  have a := h x hx
  have c := h (midL s) (mid_mem h1)
  unfold szI
  split <;> omega
theorem cands_mem (l : List Int) (pen : Int) (k : Nat) : ∀ (r : List Int) (i : Nat) (x : Int), x ∈ cands l pen k r i → ∃ (j : Nat) (b : Int), r[j]? = some b ∧ x = b + costM (segL l (i + j) k) + pen
  | [], _, x, h => by cases h
  | b :: r, i, x, h => by
    rcases List.mem_cons.1 h with rfl | h
    · exact ⟨0, b, rfl, rfl⟩
    · obtain ⟨j, c, hj, hx⟩ := cands_mem l pen k r (i + 1) x h
      exact ⟨j + 1, c, hj, by rw [hx, show i + (j + 1) = i + 1 + j by omega]⟩
/-- Potentials lie from 0 to a bound: at most 2000000000 for each gate. -/
theorem potsR_small (l : List Int) (pen : Int) (hp : 0 ≤ pen ∧ pen ≤ 1000000000) (hl : ∀ x ∈ l, 0 ≤ x ∧ x ≤ 1000000000) (hn : l.length ≤ 1000) : ∀ j, j ≤ l.length → ∀ x ∈ potsR l pen j, 0 ≤ x ∧ x ≤ 2000000000000 * (j : Int)
  | 0, _, x, hx => by
    simp [potsR] at hx
    subst hx
    omega
  | j + 1, hj, x, hx => by
    rcases List.mem_append.1 hx with hx | hx
    · have := potsR_small l pen hp hl hn j (by omega) x hx
      omega
    · simp only [List.mem_singleton] at hx
      subst hx
      have hlen := potsR_len l pen j
      unfold nextP
      rw [if_neg (by intro h; rw [h] at hlen; cases hlen), hlen]
      have hb : ∀ y ∈ cands l pen (j + 1) (potsR l pen j) 0, 0 ≤ y ∧ y ≤ 2000000000000 * ((j + 1 : Nat) : Int) := fun y hy => by
        obtain ⟨i, b, hi, rfl⟩ := cands_mem l pen (j + 1) _ 0 y hy
        have hi2 : i < j + 1 := by
          have := (List.getElem?_eq_some_iff.1 hi).1
          omega
        have h1 := potsR_small l pen hp hl hn j (by omega) b (List.mem_of_getElem? hi)
        rw [Nat.zero_add]
        have h2 := costM_nonneg (segL l i (j + 1))
        have h3 := segL_len (l := l) (i := i) (k := j + 1) (by omega) hj
        have h4 := costM_small (s := segL l i (j + 1)) (b := 1000000000) (by omega) fun z hz => hl z (segL_mem hz)
        have h5 : (1000000000 : Int) * ((segL l i (j + 1)).length : Int) ≤ 1000000000 * 1000 := Int.mul_le_mul_of_nonneg_left (by omega) (by omega)
        omega
      have hne : cands l pen (j + 1) (potsR l pen j) 0 ≠ [] := by
        intro h
        have := cands_len l pen (j + 1) (potsR l pen j) 0
        rw [h, hlen] at this
        cases this
      exact hb _ (leastF_start hne fun y hy => (hb y hy).1).2
end Gv

/- Costs and potentials: what the functions give. -/
namespace Gv
open Go
set_option maxRecDepth 100000

def okP (l : List Int) : Prop := ∀ x ∈ l, 0 ≤ x ∧ x ≤ 10000
theorem segL_self (l : List Int) (k : Nat) : segL l k k = [] := by
  unfold segL
  rw [Nat.sub_self, List.take_zero]
theorem segL_cons {l : List Int} {i k : Nat} (h : i < k) (hk : k ≤ l.length) : ∃ x, l[i]? = some x ∧ segL l i k = x :: segL l (i + 1) k := by
  obtain ⟨x, hx, hd⟩ := get_drop (show i < l.length by omega)
  refine ⟨x, hx, ?_⟩
  unfold segL
  rw [hd, show k - i = (k - (i + 1)) + 1 by omega, List.take_succ_cons]
theorem encI_seg (l : List Int) (i k : Nat) : ((encI l).drop i).take (k - i) = encI (segL l i k) := by
  unfold segL encI
  rw [List.map_take, List.map_drop]
theorem costAt_bound {s : List Int} {m : Int} (hv : okP s) (hm : 0 ≤ m ∧ m ≤ 10000) : costAt s m ≤ 10000 * (s.length : Int) := by
  refine costAt_le s m 10000 fun x hx => ?_
  have := hv x hx
  unfold szI
  split <;> omega

theorem cost_loop (s : List Int) (hs : s.length ≤ 1000) (hv : okP s) (m : Int) (hm : 0 ≤ m ∧ m ≤ 10000) : ∀ i, i ≤ s.length → ∀ a : Int, 0 ≤ a → a ≤ 10000 * (i : Int) →
    R_glidepath_cloud_profile__cost_0 (T_glidepath_cloud_profile__cost_0a m a s.length (encI s) s.length i) = exO (X_glidepath_cloud_profile__cost_0a (a + costAt (s.drop i) m)) := by
  refine up_ind (P := fun i => ∀ a : Int, 0 ≤ a → a ≤ 10000 * (i : Int) → R_glidepath_cloud_profile__cost_0 (T_glidepath_cloud_profile__cost_0a m a s.length (encI s) s.length i) = exO (X_glidepath_cloud_profile__cost_0a (a + costAt (s.drop i) m))) _ ?_ ?_
  · intro a _ _
    refine R_glidepath_cloud_profile__cost_0a_of _ _ _ _ _ _ ?_
    unfold B_glidepath_cloud_profile__cost_0a
    rw [bif_neg (by omega), List.drop_length]
    rw [show a + costAt [] m = a by simp [costAt]]
    rfl
  · intro i hi ih a h0 h1
    obtain ⟨x, hx, hd⟩ := get_drop hi
    have hxv := hv x (List.mem_of_getElem? hx)
    refine R_glidepath_cloud_profile__cost_0a_of _ _ _ _ _ _ ?_
    unfold B_glidepath_cloud_profile__cost_0a
    rw [bif_pos (by omega), bif_pos (by omega)]
    simp only [Int.toNat_natCast, Nat.mul_one, encI_get, hx, Option.map_some, intC_int, bindO_val]
    rw [w64_in (n := m - x) (by omega), w64_in (n := x - m) (by omega), w64_in (n := (i : Int) + 1) (by omega)]
    have he : (if m - x > x - m then m - x else x - m) = szI (x - m) := by
      unfold szI
      split <;> split <;> omega
    have hz : 0 ≤ szI (x - m) ∧ szI (x - m) ≤ 10000 := by
      unfold szI
      split <;> omega
    rw [he, w64_in (n := a + szI (x - m)) (by omega), hd, costAt_cons, ← Int.add_assoc]
    have := ih (a + szI (x - m)) (by omega) (by omega)
    exact this
theorem mid_ok {s : List Int} (h1 : 1 ≤ s.length) (hv : okP s) : 0 ≤ midL s ∧ midL s ≤ 10000 := hv _ (mid_mem h1)

theorem cost_is {l : List Int} (hl : l.length ≤ 1000) (hv : okP l) {i k : Nat} (h : i < k) (hk : k ≤ l.length) :
    F_glidepath_cloud_profile__cost [.list l.length (encI l), .int .i64 i, .int .i64 k] = some (costM (segL l i k)) := by
  refine F_glidepath_cloud_profile__cost_of _ _ _ _ ?_
  unfold t_glidepath_cloud_profile__cost
  have hlen := segL_len (l := l) (i := i) (k := k) (by omega) hk
  have hsv : okP (segL l i k) := fun x hx => hv x (segL_mem hx)
  rw [bif_pos ⟨by omega, by omega, by show (k : Int) ≤ (l.length : Int); omega⟩]
  simp only [Int.toNat_natCast, Nat.mul_one]
  rw [bif_pos (by right; rw [encI_len]; omega)]
  rw [encI_seg l i k, ← hlen]
  have hm := mid_is (l := segL l i k) (by omega) (by omega)
  have hc := cost_loop (segL l i k) (by omega) hsv (midL (segL l i k)) (mid_ok (by omega) hsv) 0 (by omega) 0 (by omega) (by omega)
  rw [List.drop_zero, Int.zero_add] at hc
  have hL := L_glidepath_cloud_profile__cost_0a_of hc
  have hL : L_glidepath_cloud_profile__cost_0 (T_glidepath_cloud_profile__cost_0a (midL (segL l i k)) 0 (segL l i k).length (encI (segL l i k)) (segL l i k).length 0) = _ := hL
  simp only [hm, bindO_val, hL]
  rfl

/-- Bounds for potentials. -/
def okB (bs : List Int) : Prop := ∀ x ∈ bs, 0 ≤ x ∧ x ≤ 2000000000000000
theorem cand_ok {l : List Int} (hl : l.length ≤ 1000) (hv : okP l) {pen : Int} (_hp : 0 ≤ pen ∧ pen ≤ 1000000) {i k : Nat} (h : i < k) (hk : k ≤ l.length) {b : Int} (_hb : 0 ≤ b ∧ b ≤ 2000000000000000) :
    0 ≤ costM (segL l i k) ∧ costM (segL l i k) ≤ 10000000 := by
  have h1 := costM_nonneg (segL l i k)
  have h2 := segL_len (l := l) (i := i) (k := k) (by omega) hk
  have h3 := costM_small (s := segL l i k) (b := 10000) (by omega) fun z hz => hv z (segL_mem hz)
  have h4 : (10000 : Int) * ((segL l i k).length : Int) ≤ 10000 * 1000 := Int.mul_le_mul_of_nonneg_left (by omega) (by omega)
  omega

theorem after_loop (l bs : List Int) (hl : l.length ≤ 1000) (hv : okP l) (pen : Int) (hp : 0 ≤ pen ∧ pen ≤ 1000000) (hb : okB bs) (hk : bs.length ≤ l.length) : ∀ i, i ≤ bs.length → ∀ a : Int,
    R_glidepath_cloud_profile__potentialAfter_0 (T_glidepath_cloud_profile__potentialAfter_0a l.length (encI l) bs.length (encI bs) pen a bs.length (encI bs) bs.length i) = exO (X_glidepath_cloud_profile__potentialAfter_0a (minF a (cands l pen bs.length (bs.drop i) i))) := by
  refine up_ind (P := fun i => ∀ a : Int, R_glidepath_cloud_profile__potentialAfter_0 (T_glidepath_cloud_profile__potentialAfter_0a l.length (encI l) bs.length (encI bs) pen a bs.length (encI bs) bs.length i) = exO (X_glidepath_cloud_profile__potentialAfter_0a (minF a (cands l pen bs.length (bs.drop i) i)))) _ ?_ ?_
  · intro a
    refine R_glidepath_cloud_profile__potentialAfter_0a_of _ _ _ _ _ _ _ _ _ _ ?_
    unfold B_glidepath_cloud_profile__potentialAfter_0a
    rw [bif_neg (by omega), List.drop_length]
    rfl
  · intro i hi ih a
    obtain ⟨x, hx, hd⟩ := get_drop hi
    have hxv := hb x (List.mem_of_getElem? hx)
    refine R_glidepath_cloud_profile__potentialAfter_0a_of _ _ _ _ _ _ _ _ _ _ ?_
    unfold B_glidepath_cloud_profile__potentialAfter_0a
    have hc := cost_is hl hv hi hk
    have ho := cand_ok hl hv hp hi hk hxv
    rw [bif_pos (by omega), bif_pos (by omega)]
    simp only [Int.toNat_natCast, Nat.mul_one, encI_get, hx, Option.map_some, intC_int, bindO_val, hc]
    rw [w64_in (n := x + costM (segL l i bs.length)) (by omega), w64_in (n := x + costM (segL l i bs.length) + pen) (by omega), w64_in (n := (i : Int) + 1) (by omega), hd]
    exact ih (if x + costM (segL l i bs.length) + pen < a then x + costM (segL l i bs.length) + pen else a)

theorem cands_ok {l : List Int} (hl : l.length ≤ 1000) (hv : okP l) {pen : Int} (hp : 0 ≤ pen ∧ pen ≤ 1000000) {bs : List Int} (hb : okB bs) (hk : bs.length ≤ l.length) : ∀ x ∈ cands l pen bs.length bs 0, 0 ≤ x ∧ x ≤ 2000000011000000 := fun x hx => by
  obtain ⟨j, b, hj, rfl⟩ := cands_mem l pen bs.length bs 0 x hx
  have h1 := (List.getElem?_eq_some_iff.1 hj).1
  have h2 := hb b (List.mem_of_getElem? hj)
  rw [Nat.zero_add]
  have := cand_ok hl hv hp h1 hk h2
  omega
theorem cands_ne {l : List Int} {pen : Int} {k : Nat} {bs : List Int} (h : bs ≠ []) : cands l pen k bs 0 ≠ [] := by
  cases bs with
  | nil => exact absurd rfl h
  | cons b r => exact List.cons_ne_nil _ _
theorem after_is {l bs : List Int} (hl : l.length ≤ 1000) (hv : okP l) {pen : Int} (hp : 0 ≤ pen ∧ pen ≤ 1000000) (hb : okB bs) (hk : bs.length ≤ l.length) :
    F_glidepath_cloud_profile__potentialAfter [.list l.length (encI l), .list bs.length (encI bs), .int .i64 pen] = some (nextP l pen bs) := by
  refine F_glidepath_cloud_profile__potentialAfter_of _ _ _ _ _ ?_
  unfold t_glidepath_cloud_profile__potentialAfter nextP
  rw [bif_eq]
  by_cases h : bs = []
  · rw [if_pos (by rw [h]; rfl), if_pos h]
  · have hne : bs.length ≠ 0 := fun h2 => h (List.eq_nil_of_length_eq_zero h2)
    rw [if_neg (by omega), if_neg h]
    have hq := after_loop l bs hl hv pen hp hb hk 0 (by omega) 9223372036854775807
    rw [List.drop_zero, minF_start (cands_ne h) fun x hx => by have := cands_ok hl hv hp hb hk x hx; omega] at hq
    have hL := L_glidepath_cloud_profile__potentialAfter_0a_of hq
    have hL : L_glidepath_cloud_profile__potentialAfter_0 (T_glidepath_cloud_profile__potentialAfter_0a l.length (encI l) bs.length (encI bs) pen 9223372036854775807 bs.length (encI bs) bs.length 0) = _ := hL
    simp only [hL, bindO_val]
end Gv

/- The reference's costs and potentials: what they give. -/
namespace Gv
open Go
set_option maxRecDepth 100000

theorem size_is {x : Int} (h : -1000000000 ≤ x ∧ x ≤ 1000000000) : Fglidepathbase_Size [.int .i64 x] = some (szI x) := by
  refine Fglidepathbase_Size_of _ ?_
  unfold tglidepathbase_Size szI
  rw [w64_in (by omega)]
  congr 1
  split <;> split <;> omega

theorem refCost_inner (l : List Int) (hl : l.length ≤ 1000) (hv : okP l) {lo k : Nat} (hk : k ≤ l.length) (a : Int) {m : Nat} {x : Int} (hm : l[m]? = some x) : ∀ i, i ≤ k → ∀ c : Int, 0 ≤ c → c ≤ 10000 * (i : Int) →
    Rglidepathref08_Cost_2 (Tglidepathref08_Cost_2a l.length (encI l) lo ((k : Int) - 1) a m c i) = exO (Xglidepathref08_Cost_2a (l.length, encI l, lo, (k : Int) - 1, a, m, c + costAt (segL l i k) x)) := by
  have hmi : m < l.length := (List.getElem?_eq_some_iff.1 hm).1
  have hxv := hv x (List.mem_of_getElem? hm)
  refine up_ind (P := fun i => ∀ c : Int, 0 ≤ c → c ≤ 10000 * (i : Int) → Rglidepathref08_Cost_2 (Tglidepathref08_Cost_2a l.length (encI l) lo ((k : Int) - 1) a m c i) = exO (Xglidepathref08_Cost_2a (l.length, encI l, lo, (k : Int) - 1, a, m, c + costAt (segL l i k) x))) _ ?_ ?_
  · intro c _ _
    refine Rglidepathref08_Cost_2a_of _ _ _ _ _ _ _ _ ?_
    unfold Bglidepathref08_Cost_2a
    rw [bif_neg (by omega), segL_self]
    rw [show c + costAt [] x = c by simp [costAt]]
    rfl
  · intro i hi ih c h0 h1
    obtain ⟨y, hy, hd⟩ := segL_cons hi hk
    have hyv := hv y (List.mem_of_getElem? hy)
    refine Rglidepathref08_Cost_2a_of _ _ _ _ _ _ _ _ ?_
    unfold Bglidepathref08_Cost_2a
    have hb1 : (decide (((0 : Int) ≤ (i : Int)) ∧ ((i : Int) < (l.length : Int)))) = true := decide_eq_true ⟨by omega, by omega⟩
    have hb2 : (decide (((0 : Int) ≤ (m : Int)) ∧ ((m : Int) < (l.length : Int)))) = true := decide_eq_true ⟨by omega, by omega⟩
    rw [bif_pos (by omega)]
    have hz : 0 ≤ szI (y - x) ∧ szI (y - x) ≤ 10000 := by
      unfold szI
      split <;> omega
    have hs := size_is (x := y - x) (by omega)
    have wd : w64 (y - x) = y - x := w64_in (by omega)
    have wk : w64 ((i : Int) + 1) = ((i + 1 : Nat) : Int) := by rw [w64_in (by omega)]; omega
    have wc : w64 (c + szI (y - x)) = c + szI (y - x) := w64_in (by omega)
    simp only [hb1, hb2, cond_true, Int.toNat_natCast, Nat.mul_one, encI_get, hy, hm, Option.map_some, intC_int, bindO_val, wd, hs, wk, wc]
    rw [hd, costAt_cons, ← Int.add_assoc]
    exact ih (c + szI (y - x)) (by omega) (by omega)

theorem refCost_outer (l : List Int) (hl : l.length ≤ 1000) (hv : okP l) {lo k : Nat} (hlo : lo ≤ k) (hk : k ≤ l.length) : ∀ m, m ≤ k → ∀ a : Int,
    Rglidepathref08_Cost_0 (Tglidepathref08_Cost_0a l.length (encI l) lo ((k : Int) - 1) a m) = exO (Xglidepathref08_Cost_0a (leastF a ((segL l m k).map (costAt (segL l lo k))))) := by
  refine up_ind (P := fun m => ∀ a : Int, Rglidepathref08_Cost_0 (Tglidepathref08_Cost_0a l.length (encI l) lo ((k : Int) - 1) a m) = exO (Xglidepathref08_Cost_0a (leastF a ((segL l m k).map (costAt (segL l lo k)))))) _ ?_ ?_
  · intro a
    refine Rglidepathref08_Cost_0a_of _ _ _ _ _ _ ?_
    unfold Bglidepathref08_Cost_0a
    rw [bif_neg (by omega), segL_self]
    rfl
  · intro m hm ih a
    obtain ⟨x, hx, hd⟩ := segL_cons hm hk
    have hi := refCost_inner l hl hv (lo := lo) hk a hx lo hlo 0 (by omega) (by omega)
    rw [Int.zero_add] at hi
    have hL := Lglidepathref08_Cost_2a_of hi
    refine Rglidepathref08_Cost_0a_of _ _ _ _ _ _ ?_
    unfold Bglidepathref08_Cost_0a
    rw [bif_pos (by omega)]
    have wk : w64 ((m : Int) + 1) = ((m + 1 : Nat) : Int) := by rw [w64_in (by omega)]; omega
    simp only [hL, bindO_val, wk]
    rw [hd, List.map_cons, leastF_cons]
    generalize costAt (segL l lo k) x = c at *
    by_cases h1 : a < 0
    · rw [bif_pos h1, if_pos (.inl h1)]
      exact ih c
    · rw [bif_neg h1, bif_dec]
      by_cases h2 : c < a
      · rw [if_pos h2, if_pos (.inr h2)]
        exact ih c
      · rw [if_neg h2, if_neg (by omega)]
        exact ih a

theorem refCost_is {l : List Int} (hl : l.length ≤ 1000) (hv : okP l) {i k : Nat} (h : i < k) (hk : k ≤ l.length) :
    Fglidepathref08_Cost [.list l.length (encI l), .int .i64 i, .int .i64 ((k : Int) - 1)] = some (costM (segL l i k)) := by
  refine Fglidepathref08_Cost_of _ _ _ _ ?_
  unfold tglidepathref08_Cost
  have hlen := segL_len (l := l) (i := i) (k := k) (by omega) hk
  have hq := refCost_outer l hl hv (lo := i) (k := k) (by omega) hk i (by omega) (-1)
  rw [cost_ref (by omega)] at hq
  have hL := Lglidepathref08_Cost_0a_of hq
  simp only [hL, bindO_val]

theorem refPots_inner (l bs : List Int) (hl : l.length ≤ 1000) (hv : okP l) (pen : Int) (hp : 0 ≤ pen ∧ pen ≤ 1000000) (hb : okB bs) (hk : bs.length ≤ l.length) (n8 : Nat) : ∀ i, i ≤ bs.length → ∀ a : Int,
    Rglidepathref08_Potentials_2 (Tglidepathref08_Potentials_2b l.length (encI l) pen bs.length (encI bs) bs.length a i n8) = exO (Xglidepathref08_Potentials_2b (l.length, encI l, pen, bs.length, encI bs, bs.length, leastF a (cands l pen bs.length (bs.drop i) i), n8)) := by
  refine up_ind (P := fun i => ∀ a : Int, Rglidepathref08_Potentials_2 (Tglidepathref08_Potentials_2b l.length (encI l) pen bs.length (encI bs) bs.length a i n8) = exO (Xglidepathref08_Potentials_2b (l.length, encI l, pen, bs.length, encI bs, bs.length, leastF a (cands l pen bs.length (bs.drop i) i), n8))) _ ?_ ?_
  · intro a
    refine Rglidepathref08_Potentials_2b_of _ _ _ _ _ _ _ _ _ ?_
    unfold Bglidepathref08_Potentials_2b
    rw [bif_neg (by omega), List.drop_length]
    rfl
  · intro i hi ih a
    obtain ⟨x, hx, hd⟩ := get_drop hi
    have hxv := hb x (List.mem_of_getElem? hx)
    refine Rglidepathref08_Potentials_2b_of _ _ _ _ _ _ _ _ _ ?_
    unfold Bglidepathref08_Potentials_2b
    have hc := refCost_is hl hv hi hk
    have ho := cand_ok hl hv hp hi hk hxv
    have w1 : w64 ((bs.length : Int) - 1) = (bs.length : Int) - 1 := w64_in (by omega)
    have w2 : w64 (x + costM (segL l i bs.length)) = x + costM (segL l i bs.length) := w64_in (by omega)
    have w3 : w64 (x + costM (segL l i bs.length) + pen) = x + costM (segL l i bs.length) + pen := w64_in (by omega)
    have wk : w64 ((i : Int) + 1) = ((i + 1 : Nat) : Int) := by rw [w64_in (by omega)]; omega
    rw [bif_pos (by omega), bif_pos (by omega)]
    simp only [Int.toNat_natCast, Nat.mul_one, encI_get, hx, Option.map_some, intC_int, bindO_val, w1, hc, w2, w3, wk]
    rw [hd]
    show _ = exO (Xglidepathref08_Potentials_2b (l.length, encI l, pen, bs.length, encI bs, bs.length, leastF (if a < 0 ∨ x + costM (segL l i bs.length) + pen < a then x + costM (segL l i bs.length) + pen else a) (cands l pen bs.length (bs.drop (i + 1)) (i + 1)), n8))
    generalize x + costM (segL l i bs.length) + pen = c at *
    by_cases h1 : a < 0
    · rw [bif_pos h1, if_pos (.inl h1)]
      exact ih c
    · rw [bif_neg h1, bif_dec]
      by_cases h2 : c < a
      · rw [if_pos h2, if_pos (.inr h2)]
        exact ih c
      · rw [if_neg h2, if_neg (by omega)]
        exact ih a

theorem pots_ok {l : List Int} (hl : l.length ≤ 1000) (hv : okP l) {pen : Int} (hp : 0 ≤ pen ∧ pen ≤ 1000000) {j : Nat} (hj : j ≤ l.length) : okB (potsR l pen j) := fun x hx => by
  have := potsR_small l pen (by omega) (fun x hx => by have := hv x hx; omega) hl j hj x hx
  omega

theorem refPots_outer (l : List Int) (hl : l.length ≤ 1000) (hv : okP l) (pen : Int) (hp : 0 ≤ pen ∧ pen ≤ 1000000) : ∀ j, j ≤ l.length → 1 ≤ j →
    Rglidepathref08_Potentials_0 (Tglidepathref08_Potentials_0b l.length (encI l) pen (j + 1) (encI (potsR l pen j)) ((j + 1 : Nat) : Int) (j + 1)) = exO (Xglidepathref08_Potentials_0b (l.length + 1, encI (potsR l pen l.length), l.length + 1)) := by
  refine up_ind (P := fun j => 1 ≤ j → Rglidepathref08_Potentials_0 (Tglidepathref08_Potentials_0b l.length (encI l) pen (j + 1) (encI (potsR l pen j)) ((j + 1 : Nat) : Int) (j + 1)) = exO (Xglidepathref08_Potentials_0b (l.length + 1, encI (potsR l pen l.length), l.length + 1))) _ ?_ ?_
  · intro _
    refine Rglidepathref08_Potentials_0b_of _ _ _ _ _ _ _ ?_
    unfold Bglidepathref08_Potentials_0b
    rw [bif_neg (by omega)]
    rfl
  · intro j hj ih _
    have hlen := potsR_len l pen j
    have hi := refPots_inner l (potsR l pen j) hl hv pen hp (pots_ok hl hv hp (by omega)) (by omega) (j + 1) 0 (by omega) (-1)
    rw [hlen, List.drop_zero] at hi
    have hL := Lglidepathref08_Potentials_2b_of hi
    have hL : Lglidepathref08_Potentials_2 (Tglidepathref08_Potentials_2b l.length (encI l) pen (j + 1) (encI (potsR l pen j)) ((j + 1 : Nat) : Int) (-1) 0 (j + 1)) = _ := hL
    refine Rglidepathref08_Potentials_0b_of _ _ _ _ _ _ _ ?_
    unfold Bglidepathref08_Potentials_0b
    rw [bif_pos (by omega)]
    have wk : w64 (((j + 1 : Nat) : Int) + 1) = ((j + 1 + 1 : Nat) : Int) := by rw [w64_in (by omega)]; omega
    simp only [hL, bindO_val, Sum.elim_inr, wk]
    rw [bif_pos ⟨trivial, by unfold big; omega⟩, encI_snoc]
    have hn : leastF (-1) (cands l pen (j + 1) (potsR l pen j) 0) = nextP l pen (potsR l pen j) := by
      unfold nextP
      rw [if_neg (by intro h; rw [h] at hlen; cases hlen), hlen]
    rw [hn]
    exact ih (by omega)

theorem refPots_first (l : List Int) (hl : l.length ≤ 1000) (hv : okP l) (h1 : 1 ≤ l.length) (pen : Int) (hp : 0 ≤ pen ∧ pen ≤ 1000000) :
    Rglidepathref08_Potentials_2 (Tglidepathref08_Potentials_2a l.length (encI l) pen (-1) 0) = exO (Xglidepathref08_Potentials_2a (l.length, encI l, pen, nextP l pen [0])) := by
  refine Rglidepathref08_Potentials_2a_of _ _ _ _ _ ?_
  unfold Bglidepathref08_Potentials_2a
  have hc := refCost_is (i := 0) (k := 1) hl hv (by omega) h1
  have hc : Fglidepathref08_Cost [.list l.length (encI l), .int .i64 (0 : Int), .int .i64 (0 : Int)] = _ := hc
  have ho := cand_ok (i := 0) (k := 1) hl hv hp (by omega) h1 (b := 0) (by omega)
  have hn : nextP l pen [0] = costM (segL l 0 1) + pen := by
    show leastF (-1) [0 + costM (segL l 0 1) + pen] = _
    rw [leastF_cons, if_pos (.inl (by omega)), Int.zero_add]
    rfl
  have w2 : w64 ((0 : Int) + costM (segL l 0 1)) = costM (segL l 0 1) := by rw [w64_in (by omega)]; omega
  have w3 : w64 (costM (segL l 0 1) + pen) = costM (segL l 0 1) + pen := w64_in (by omega)
  have w4 : w64 ((0 : Int) + 1) = 1 := by rw [w64_in (by omega)]; rfl
  have g0 : ([(PV.int IntKind.i64 (0 : Int))] : List PV)[((Int.toNat (0 : Int)) * 1)]? = some (.int .i64 0) := rfl
  rw [bif_pos (by omega), bif_pos (by omega), g0]
  simp only [intC_int, bindO_val, hc, w2, w3, w4]
  rw [bif_pos (by omega), hn]
  refine Rglidepathref08_Potentials_2a_of _ _ _ _ _ ?_
  unfold Bglidepathref08_Potentials_2a
  rw [bif_neg (by omega)]
  rfl

theorem refPots_is {l : List Int} (hl : l.length ≤ 1000) (hv : okP l) (h1 : 1 ≤ l.length) {pen : Int} (hp : 0 ≤ pen ∧ pen ≤ 1000000) :
    Fglidepathref08_Potentials [.list l.length (encI l), .int .i64 pen] = some (l.length + 1, encI (potsR l pen l.length)) := by
  refine Fglidepathref08_Potentials_of _ _ _ ?_
  unfold tglidepathref08_Potentials
  have hR : Rglidepathref08_Potentials_0 (Tglidepathref08_Potentials_0a l.length (encI l) pen) = exO (Xglidepathref08_Potentials_0b (l.length + 1, encI (potsR l pen l.length), l.length + 1)) := by
    refine Rglidepathref08_Potentials_0a_of _ _ _ ?_
    unfold Bglidepathref08_Potentials_0a
    have hL := Lglidepathref08_Potentials_2a_of (refPots_first l hl hv h1 pen hp)
    rw [bif_pos (by omega)]
    simp only [hL, bindO_val, Sum.elim_inl]
    exact refPots_outer l hl hv pen hp 1 h1 (by omega)
  have hL := Lglidepathref08_Potentials_0b_of hR
  simp only [hL, bindO_val, Sum.elim_inr]
  rw [bif_pos trivial]
end Gv

/- Checking potentials: what it gives. -/
namespace Gv
open Go
set_option maxRecDepth 100000

def profE (l : List Int) : Int := (listIE 24 0 10000 l).2
theorem prof_ok {l : List Int} (h : profE l = 0) : 1 ≤ l.length ∧ l.length ≤ 24 ∧ okP l := by
  have := listIE_ok h
  exact ⟨this.1, by omega, this.2.2⟩
theorem checkProfile_is (l : List Int) (hl : l.length < 4294967296) : Fcloud_CheckProfile [.list l.length (encI l)] = some (listIE 24 0 10000 l) := by
  refine Fcloud_CheckProfile_of _ _ ?_
  unfold tcloud_CheckProfile
  have hf := filled_is 24 0 10000 l hl
  simp only [hf, bindO_val]
theorem profileError_is (l : List Int) (hl : l.length < 4294967296) : Fcloud_profileError [.list l.length (encI l)] = some (profE l) := by
  refine Fcloud_profileError_of _ _ ?_
  unfold tcloud_profileError
  simp only [checkProfile_is l hl, bindO_val]
  rfl
theorem penaltyError_is (p : Int) : Fcloud_penaltyError [.int .i64 p] = some (rangeE p 0 1000000) := by
  refine Fcloud_penaltyError_of _ ?_
  unfold tcloud_penaltyError
  simp only [rangeError_is, bindO_val]
theorem firstError3_is (a b c : Int) : Fcloud_firstError_3 [.list 3 [.int .i64 a, .int .i64 b, .int .i64 c]] = some (first3 a b c) :=
  Fcloud_firstError_3_of a b c (by
    unfold tcloud_firstError_3 first3
    simp only [bif_ne]
    by_cases h1 : a = 0 <;> by_cases h2 : b = 0 <;> by_cases h3 : c = 0 <;> simp [h1, h2, h3])

theorem pot_is {l bs : List Int} (hl : l.length ≤ 1000) (hv : okP l) {pen : Int} (hp : 0 ≤ pen ∧ pen ≤ 1000000) (hb : okB bs) (hk : bs.length ≤ l.length) (x : Int) :
    Fcloud_CheckPotentials_1 [.list bs.length (encI bs), .int .i64 x, .imm [.list l.length (encI l)] 0, .imm [.int .i64 pen] 0] = some (if x ≠ nextP l pen bs then 17 else 0) := by
  refine Fcloud_CheckPotentials_1_of _ _ _ _ _ _ ?_
  unfold tcloud_CheckPotentials_1
  have ha := after_is hl hv hp hb hk
  simp only [ha, bindO_val, errorIf_is]
  by_cases h : x = nextP l pen bs
  · simp [h]
  · have hb : (x != nextP l pen bs) = true := by simp [h]
    rw [hb, if_pos h]
    rfl

/-- The first place where two lists differ. -/
def diffE : List Int → List Int → Nat → Option (Int × Int)
  | x :: p, y :: r, i => if x ≠ y then some ((i : Int), 17) else diffE p r (i + 1)
  | _, _, _ => none
theorem diffE_none : ∀ {p r : List Int} {i : Nat}, p.length = r.length → diffE p r i = none → p = r
  | [], [], _, _, _ => rfl
  | [], y :: r, _, h, _ => by cases h
  | x :: p, [], _, h, _ => by cases h
  | x :: p, y :: r, i, h, hd => by
    unfold diffE at hd
    by_cases hxy : x = y
    · rw [if_neg (by simp [hxy])] at hd
      rw [hxy, diffE_none (by simpa using h) hd]
    · rw [if_pos hxy] at hd
      cases hd
theorem diffE_some : ∀ {p r : List Int} {i : Nat} {q : Int × Int}, diffE p r i = some q → q.2 = 17
  | [], _, _, _, h => by simp [diffE] at h
  | x :: p, [], _, _, h => by simp [diffE] at h
  | x :: p, y :: r, i, q, h => by
    unfold diffE at h
    by_cases hxy : x = y
    · rw [if_neg (by simp [hxy])] at h
      exact diffE_some h
    · rw [if_pos hxy] at h
      cases h
      rfl

theorem pots_loop (l p : List Int) (hl : l.length ≤ 1000) (hv : okP l) (pen : Int) (hp : 0 ≤ pen ∧ pen ≤ 1000000) (hn : p.length = l.length + 1) : ∀ i, i ≤ p.length → p.take i = (potsR l pen l.length).take i →
    Rcloud_itemError_pots_0 (Tcloud_itemError_pots_0a p.length (encI p) l.length (encI l) pen p.length (encI p) p.length i) = exO (XLcloud_itemError_pots_0.fn (sumE (diffE (p.drop i) ((potsR l pen l.length).drop i) i))) := by
  have hR := potsR_len l pen l.length
  refine up_ind (P := fun i => p.take i = (potsR l pen l.length).take i → Rcloud_itemError_pots_0 (Tcloud_itemError_pots_0a p.length (encI p) l.length (encI l) pen p.length (encI p) p.length i) = exO (XLcloud_itemError_pots_0.fn (sumE (diffE (p.drop i) ((potsR l pen l.length).drop i) i)))) _ ?_ ?_
  · intro _
    refine Rcloud_itemError_pots_0a_of _ _ _ _ _ _ _ _ _ ?_
    unfold Bcloud_itemError_pots_0a
    rw [bif_neg (by omega), List.drop_length]
    rfl
  · intro i hi ih ht
    obtain ⟨x, hx, hd⟩ := get_drop hi
    obtain ⟨y, hy, hd2⟩ := get_drop (l := potsR l pen l.length) (i := i) (by omega)
    have hyn : y = nextP l pen (p.take i) := by
      have := potsR_next l pen (n := l.length) (i := i) (by omega)
      rw [hy] at this
      rw [ht]
      exact Option.some.inj this
    have htl : (p.take i).length = i := by rw [List.length_take]; omega
    have hb : okB (p.take i) := fun z hz => by
      rw [ht] at hz
      exact pots_ok hl hv hp (Nat.le_refl _) z (List.mem_of_mem_take hz)
    have hc := pot_is hl hv hp hb (by omega) x
    rw [htl] at hc
    refine Rcloud_itemError_pots_0a_of _ _ _ _ _ _ _ _ _ ?_
    unfold Bcloud_itemError_pots_0a
    rw [bif_pos (by omega), bif_pos (by omega)]
    have he : (encI p).take i = encI (p.take i) := by simp [encI, List.map_take]
    simp only [Int.toNat_natCast, Nat.mul_one, encI_get, hx, Option.map_some, intC_int, bindO_val, Nat.sub_zero, List.drop_zero, he]
    rw [bif_pos ⟨by omega, by show (i : Int) ≤ (p.length : Int); omega⟩, bif_pos (by right; rw [encI_len]; omega)]
    have wk : w64 ((i : Int) + 1) = ((i + 1 : Nat) : Int) := by rw [w64_in (by omega)]; omega
    simp only [hc, bindO_val, wk, bif_ne]
    rw [hd, hd2, hyn]
    unfold diffE
    by_cases hxy : x = nextP l pen (p.take i)
    · rw [if_neg (by simp [hxy]) (c := x ≠ nextP l pen (p.take i)), if_neg (by simp [hxy]) (c := x ≠ nextP l pen (p.take i)), if_pos rfl]
      refine ih ?_
      rw [List.take_add_one, List.take_add_one, ht, hx, hy, hyn, hxy]
    · rw [if_pos hxy, if_pos hxy, if_neg (by decide)]
      rfl
theorem itemP_is (l p : List Int) (hl : l.length ≤ 1000) (hv : okP l) (pen : Int) (hp : 0 ≤ pen ∧ pen ≤ 1000000) (hn : p.length = l.length + 1) :
    Fcloud_itemError_pots [.list p.length (encI p), .fn 72 [.imm [.list l.length (encI l)] 0, .imm [.int .i64 pen] 0]] = some ((diffE p (potsR l pen l.length) 0).getD (0, 0)) := by
  refine Fcloud_itemError_pots_of _ _ _ _ _ ?_
  unfold tcloud_itemError_pots
  have := lpO_of Icloud_itemError_pots_0 XIcloud_itemError_pots_0 (pots_loop l p hl hv pen hp hn 0 (by omega) rfl)
  have this : Lcloud_itemError_pots_0 (Tcloud_itemError_pots_0a p.length (encI p) l.length (encI l) pen p.length (encI p) p.length 0) = _ := this
  rw [this]
  simp only [bindO_val, List.drop_zero]
  cases diffE p (potsR l pen l.length) 0 <;> rfl

def potE (l : List Int) (pen : Int) (p : List Int) : Int := first3 (profE l) (rangeE pen 0 1000000) (if p.length = l.length + 1 then 0 else 10)
def chkP (l : List Int) (pen : Int) (p : List Int) : Int × Int :=
  if potE l pen p ≠ 0 then (0, potE l pen p) else
    match diffE p (potsR l pen l.length) 0 with
    | some q => q
    | none => ((potsR l pen l.length).getD l.length 0, 0)
theorem checkPots_is (l : List Int) (hl : l.length ≤ 1000000) (pen : Int) (p : List Int) (hpl : p.length ≤ 1000000) :
    Fcloud_CheckPotentials [.list l.length (encI l), .int .i64 pen, .list p.length (encI p)] = some (chkP l pen p) := by
  refine Fcloud_CheckPotentials_of _ _ _ _ _ ?_
  unfold tcloud_CheckPotentials chkP
  have w1 : w64 ((l.length : Int) + 1) = (l.length : Int) + 1 := w64_in (by omega)
  have c55 := profileError_is l (by omega)
  simp only [c55, penaltyError_is, bindO_val, w1, errorIf_is, bif_ne]
  by_cases hn : p.length = l.length + 1
  · rw [if_pos (by omega)]
    have he : potE l pen p = first3 (profE l) (rangeE pen 0 1000000) 0 := by unfold potE; rw [if_pos hn]
    simp only [Bool.false_eq_true, if_false, firstError3_is, bindO_val]
    rw [← he]
    by_cases h0 : potE l pen p = 0
    · rw [if_pos h0, if_neg (by simp [h0])]
      rw [he] at h0
      obtain ⟨ha, hb, _⟩ := first3_nil h0
      obtain ⟨h1, h2, hv⟩ := prof_ok ha
      have hp := rangeE_ok hb
      have c71 := itemP_is l p (by omega) hv pen hp hn
      simp only [c71, bindO_val]
      cases hd : diffE p (potsR l pen l.length) 0 with
      | some q =>
        have := diffE_some hd
        simp only [Option.getD_some]
        rw [if_neg (by omega)]
      | none =>
        simp only [Option.getD_none, if_true]
        have hR := potsR_len l pen l.length
        have hpr := diffE_none (by omega) hd
        rw [bif_pos ⟨by omega, by omega⟩]
        obtain ⟨x, hx⟩ : ∃ x, (potsR l pen l.length)[l.length]? = some x := ⟨(potsR l pen l.length)[l.length]'(by omega), List.getElem?_eq_getElem _⟩
        rw [← hpr] at hx
        simp only [Int.toNat_natCast, Nat.mul_one, encI_get, hx, Option.map_some, intC_int, bindO_val]
        rw [hpr] at hx
        rw [List.getD_eq_getElem?_getD, hx]
        rfl
    · rw [if_neg h0, if_pos h0]
  · rw [if_neg (by omega)]
    have he : potE l pen p = first3 (profE l) (rangeE pen 0 1000000) 10 := by unfold potE; rw [if_neg hn]
    simp only [if_true, firstError3_is, bindO_val]
    rw [← he]
    have h0 : potE l pen p ≠ 0 := by
      rw [he]
      intro h
      have := (first3_nil h).2.2
      cases this
    rw [if_neg h0, if_pos h0]

/-! The reference's errors. -/
theorem refProf_loop (l : List Int) (hl : l.length < 4294967296) : ∀ i, i ≤ l.length →
    Rglidepathref08_CheckProfile_0 (Tglidepathref08_CheckProfile_0a l.length (encI l) i) = (match findE (fun x => rangeE x 0 10000) (l.drop i) i with | some q => exO (Xglidepathref08_CheckProfile_0a q.1) | none => exO (Xglidepathref08_CheckProfile_0b ())) := by
  refine up_ind _ ?_ ?_
  · rw [List.drop_length]
    show _ = exO (Xglidepathref08_CheckProfile_0b ())
    refine Rglidepathref08_CheckProfile_0a_of _ _ _ ?_
    unfold Bglidepathref08_CheckProfile_0a
    rw [bif_neg (by omega)]
    rfl
  · intro i hi ih
    obtain ⟨x, hx, hd⟩ := get_drop hi
    rw [hd]
    have wk : w64 ((i : Int) + 1) = ((i + 1 : Nat) : Int) := by rw [w64_in (by omega)]; omega
    by_cases he : 0 ≤ x ∧ x ≤ 10000
    · have e0 := rangeE_in he
      simp only [findE, e0, ne_eq, not_true_eq_false, if_false]
      have step : ∀ r, Rglidepathref08_CheckProfile_0 (Tglidepathref08_CheckProfile_0a l.length (encI l) (i + 1 : Nat)) = some r → Rglidepathref08_CheckProfile_0 (Tglidepathref08_CheckProfile_0a l.length (encI l) i) = some r := by
        intro r hr
        refine Rglidepathref08_CheckProfile_0a_of _ _ _ ?_
        unfold Bglidepathref08_CheckProfile_0a
        rw [bif_pos (by omega), bif_pos (by omega)]
        simp only [Int.toNat_natCast, Nat.mul_one, encI_get, hx, Option.map_some, intC_int, bindO_val, within_is, wk]
        rw [bif_pos he]
        exact hr
      cases hf : findE (fun x => rangeE x 0 10000) (l.drop (i + 1)) (i + 1) with
      | none => rw [hf] at ih; exact step _ ih
      | some q => rw [hf] at ih; exact step _ ih
    · have e0 := rangeE_out he
      simp only [findE, e0]
      rw [if_pos (by decide)]
      show _ = exO (Xglidepathref08_CheckProfile_0a (i : Int))
      refine Rglidepathref08_CheckProfile_0a_of _ _ _ ?_
      unfold Bglidepathref08_CheckProfile_0a
      rw [bif_pos (by omega), bif_pos (by omega)]
      simp only [Int.toNat_natCast, Nat.mul_one, encI_get, hx, Option.map_some, intC_int, bindO_val, within_is]
      rw [bif_neg he]
      rfl
theorem refProf_is (l : List Int) (hl : l.length < 4294967296) : Fglidepathref08_CheckProfile [.list l.length (encI l)] = some (listIE 24 0 10000 l) := by
  refine Fglidepathref08_CheckProfile_of _ _ ?_
  unfold tglidepathref08_CheckProfile listIE
  simp only [bif_eq, bif_dec]
  by_cases h1 : l.length = 0
  · simp [h1]
  · rw [if_neg (by omega), if_neg h1]
    by_cases h2 : (24 : Int) < l.length
    · rw [if_pos (by omega), if_pos h2]
    · rw [if_neg (by omega), if_neg h2]
      have hq := refProf_loop l hl 0 (by omega)
      rw [List.drop_zero] at hq
      cases hf : findE (fun x => rangeE x 0 10000) l 0 with
      | none =>
        rw [hf] at hq
        have := Lglidepathref08_CheckProfile_0b_of (y := ()) hq
        have this : Lglidepathref08_CheckProfile_0 (Tglidepathref08_CheckProfile_0a l.length (encI l) 0) = _ := this
        rw [this]
        rfl
      | some q =>
        rw [hf] at hq
        have h2 := findE_rng 0 10000 hf
        have := Lglidepathref08_CheckProfile_0a_of (y := q.1) hq
        have this : Lglidepathref08_CheckProfile_0 (Tglidepathref08_CheckProfile_0a l.length (encI l) 0) = _ := this
        rw [this]
        show some (q.1, (2 : Int)) = some q
        rw [← h2]
theorem refProfErr_is (l : List Int) (hl : l.length < 4294967296) : Fglidepathref08_ProfileErr [.list l.length (encI l)] = some (profE l) := by
  refine Fglidepathref08_ProfileErr_of _ _ ?_
  unfold tglidepathref08_ProfileErr
  simp only [refProf_is l hl, bindO_val]
  rfl
theorem refPen_is (p : Int) : Fglidepathref08_PenaltyErr [.int .i64 p] = some (rangeE p 0 1000000) := by
  refine Fglidepathref08_PenaltyErr_of _ ?_
  unfold tglidepathref08_PenaltyErr
  simp only [within_is, bindO_val]
  by_cases h : 0 ≤ p ∧ p ≤ 1000000
  · rw [bif_pos h, rangeE_in h]
  · rw [bif_neg h, rangeE_out h]
theorem both_is (a b : Int) : Fglidepathlaw08_both [.int .i64 a, .int .i64 b] = some (both a b) := by
  refine Fglidepathlaw08_both_of _ _ ?_
  unfold tglidepathlaw08_both both
  rw [bif_ne]
  by_cases h : a = 0
  · rw [if_pos h, if_neg (by simp [h])]
  · rw [if_neg h, if_pos h]
theorem few_is (l : List Int) : Fglidepathlaw08_few [.list l.length (encI l)] = some (decide (l.length ≤ 26)) := by
  refine Fglidepathlaw08_few_of _ _ ?_
  unfold tglidepathlaw08_few
  by_cases h : l.length ≤ 26
  · rw [bif_pos (by omega), decide_eq_true h]
  · rw [bif_neg (by omega), decide_eq_false h]
end Gv
