import Derived.Test.YtkbahledgljaoaaCD6
import Derived.Test.YtkbahledgljaoaaCG1

/- The order of divisions by cost, number and list is total; the code's best division is the least one. -/
namespace Gv
open Go

theorem cmpZ_zero {x y : Int} : cmpZ x y = 0 ↔ x = y := by
  unfold cmpZ
  constructor
  · intro h
    by_cases h1 : x < y
    · rw [if_pos h1] at h
      omega
    · rw [if_neg h1] at h
      by_cases h2 : x > y
      · rw [if_pos h2] at h
        omega
      · omega
  · intro h
    rw [if_neg (by omega), if_neg (by omega)]
/-- At most, in the order of lists. -/
def leL : List Int → List Int → Prop
  | [], _ => True
  | _ :: _, [] => False
  | x :: r, y :: t => x < y ∨ x = y ∧ leL r t
theorem leL_iff : ∀ a b : List Int, ¬ cmpL b a < 0 ↔ leL a b
  | [], [] => by simp [cmpL, leL]
  | [], y :: t => by simp [cmpL, leL]
  | x :: r, [] => by simp [cmpL, leL]
  | x :: r, y :: t => by
    unfold cmpL leL
    by_cases h : cmpZ y x = 0
    · have e := cmpZ_zero.1 h
      rw [if_neg (by simp [h]), leL_iff r t]
      constructor
      · intro h2
        exact .inr ⟨e.symm, h2⟩
      · rintro (h2 | h2)
        · omega
        · exact h2.2
    · rw [if_pos h]
      have hne : y ≠ x := fun e => h (cmpZ_zero.2 e)
      unfold cmpZ
      by_cases h1 : y < x
      · rw [if_pos h1]
        constructor
        · intro h2
          omega
        · rintro (h2 | h2)
          · omega
          · omega
      · rw [if_neg h1, if_pos (by omega)]
        constructor
        · intro _
          exact .inl (by omega)
        · intro _
          omega
theorem leL_refl : ∀ a : List Int, leL a a
  | [] => trivial
  | x :: r => .inr ⟨rfl, leL_refl r⟩
theorem leL_trans : ∀ {a b c : List Int}, leL a b → leL b c → leL a c
  | [], _, _, _, _ => trivial
  | x :: r, [], _, h, _ => h.elim
  | x :: r, y :: t, [], _, h => h.elim
  | x :: r, y :: t, z :: u, h1, h2 => by
    unfold leL at *
    rcases h1 with h1 | ⟨rfl, h1⟩
    · rcases h2 with h2 | ⟨rfl, h2⟩
      · exact .inl (by omega)
      · exact .inl h1
    · rcases h2 with h2 | ⟨rfl, h2⟩
      · exact .inl h2
      · exact .inr ⟨rfl, leL_trans h1 h2⟩
theorem leL_anti : ∀ {a b : List Int}, leL a b → leL b a → a = b
  | [], [], _, _ => rfl
  | [], y :: t, _, h => h.elim
  | x :: r, [], h, _ => h.elim
  | x :: r, y :: t, h1, h2 => by
    unfold leL at *
    rcases h1 with h1 | ⟨e, h1⟩
    · rcases h2 with h2 | ⟨e, h2⟩
      · omega
      · omega
    · subst e
      rcases h2 with h2 | ⟨_, h2⟩
      · omega
      · rw [leL_anti h1 h2]
theorem leL_app : ∀ {a b : List Int} (x : Int), a.length = b.length → leL a b → leL (a ++ [x]) (b ++ [x])
  | [], [], x, _, _ => leL_refl _
  | [], y :: t, _, h, _ => by cases h
  | x :: r, [], _, h, _ => by cases h
  | x :: r, y :: t, z, hl, h => by
    show leL (x :: (r ++ [z])) (y :: (t ++ [z]))
    unfold leL at *
    rcases h with h | ⟨e, h⟩
    · exact .inl h
    · exact .inr ⟨e, leL_app z (by simpa using hl) h⟩

/-- At most, by cost, number and list. -/
def leT (a b : Dn) : Prop := a.2 < b.2 ∨ a.2 = b.2 ∧ (a.1.length < b.1.length ∨ a.1.length = b.1.length ∧ leL a.1 b.1)
theorem leT_refl (a : Dn) : leT a a := .inr ⟨rfl, .inr ⟨rfl, leL_refl _⟩⟩
theorem leT_trans {a b c : Dn} (h1 : leT a b) (h2 : leT b c) : leT a c := by
  unfold leT at *
  rcases h1 with h1 | ⟨h1, h1'⟩
  · rcases h2 with h2 | ⟨h2, _⟩
    · exact .inl (by omega)
    · exact .inl (by omega)
  · rcases h2 with h2 | ⟨h2, h2'⟩
    · exact .inl (by omega)
    · right
      refine ⟨by omega, ?_⟩
      rcases h1' with h1' | ⟨h1', h1l⟩
      · rcases h2' with h2' | ⟨h2', _⟩
        · exact .inl (by omega)
        · exact .inl (by omega)
      · rcases h2' with h2' | ⟨h2', h2l⟩
        · exact .inl (by omega)
        · exact .inr ⟨by omega, leL_trans h1l h2l⟩
theorem leT_anti {a b : Dn} (h1 : leT a b) (h2 : leT b a) : a = b := by
  unfold leT at *
  rcases h1 with h1 | ⟨h1, h1'⟩
  · rcases h2 with h2 | ⟨h2, _⟩ <;> omega
  · rcases h2 with h2 | ⟨_, h2'⟩
    · omega
    · rcases h1' with h1' | ⟨h1', h1l⟩
      · rcases h2' with h2' | ⟨h2', _⟩ <;> omega
      · rcases h2' with h2' | ⟨_, h2l⟩
        · omega
        · exact Prod.ext (leL_anti h1l h2l) h1
theorem cmpD_iff (a b : Dn) : ¬ cmpD b a < 0 ↔ leT a b := by
  unfold cmpD first3 leT
  by_cases h1 : cmpZ b.2 a.2 = 0
  · have e1 := cmpZ_zero.1 h1
    rw [if_neg (by simp [h1])]
    by_cases h2 : cmpZ b.1.length a.1.length = 0
    · have e2 := cmpZ_zero.1 h2
      rw [if_neg (by simp [h2]), leL_iff]
      constructor
      · intro h
        exact .inr ⟨e1.symm, .inr ⟨by omega, h⟩⟩
      · rintro (h | ⟨_, h | ⟨_, h⟩⟩)
        · omega
        · omega
        · exact h
    · have ne : (b.1.length : Int) ≠ a.1.length := fun e => h2 (cmpZ_zero.2 e)
      rw [if_pos h2]
      unfold cmpZ
      by_cases h3 : (b.1.length : Int) < a.1.length
      · rw [if_pos h3]
        constructor
        · intro h
          omega
        · rintro (h | ⟨_, h | ⟨h, _⟩⟩) <;> omega
      · rw [if_neg h3, if_pos (by omega)]
        constructor
        · intro _
          exact .inr ⟨e1.symm, .inl (by omega)⟩
        · intro _
          omega
  · have ne : b.2 ≠ a.2 := fun e => h1 (cmpZ_zero.2 e)
    rw [if_pos h1]
    unfold cmpZ
    by_cases h3 : b.2 < a.2
    · rw [if_pos h3]
      constructor
      · intro h
        omega
      · rintro (h | ⟨h, _⟩) <;> omega
    · rw [if_neg h3, if_pos (by omega)]
      constructor
      · intro _
        exact .inl (by omega)
      · intro _
        omega
theorem leT_total (a b : Dn) : leT a b ∨ leT b a := by
  by_cases h : cmpD b a < 0
  · right
    refine (cmpD_iff b a).1 fun h2 => ?_
    have h3 := cmpD_lt h
    have h4 := cmpD_lt h2
    unfold leD at h3 h4
    -- both costs and numbers are equal: the lists decide
    unfold cmpD first3 at h h2
    have e1 : a.2 = b.2 := by omega
    have e2 : a.1.length = b.1.length := by omega
    rw [if_neg (by simp [cmpZ_zero.2 e1.symm]), if_neg (by simp [cmpZ_zero.2 (show (b.1.length : Int) = a.1.length by omega)])] at h
    rw [if_neg (by simp [cmpZ_zero.2 e1]), if_neg (by simp [cmpZ_zero.2 (show (a.1.length : Int) = b.1.length by omega)])] at h2
    exact lt_both a.1 b.1 h h2
  · exact .inl ((cmpD_iff a b).1 h)
where
  lt_both : ∀ a b : List Int, cmpL b a < 0 → cmpL a b < 0 → False
    | [], [], h, _ => by simp [cmpL] at h
    | [], y :: t, h, _ => by simp [cmpL] at h
    | x :: r, [], _, h => by simp [cmpL] at h
    | x :: r, y :: t, h1, h2 => by
      unfold cmpL at h1 h2
      by_cases h : y = x
      · rw [if_neg (by simp [cmpZ_zero.2 h])] at h1
        rw [if_neg (by simp [cmpZ_zero.2 h.symm])] at h2
        exact lt_both r t h1 h2
      · rw [if_pos (fun e => h (cmpZ_zero.1 e))] at h1
        rw [if_pos (fun e => h (cmpZ_zero.1 e).symm)] at h2
        unfold cmpZ at h1 h2
        by_cases h3 : y < x
        · rw [if_neg (by omega), if_pos (by omega)] at h2
          omega
        · rw [if_neg h3, if_pos (by omega)] at h1
          omega

theorem minT_ok : ∀ (r : List Dn) (m : Dn), leT (minD m r) m ∧ ∀ x ∈ r, leT (minD m r) x
  | [], m => ⟨leT_refl _, fun x hx => by cases hx⟩
  | x :: r, m => by
    show leT (minD (if cmpD x m < 0 then x else m) r) m ∧ ∀ y ∈ x :: r, leT (minD (if cmpD x m < 0 then x else m) r) y
    by_cases h : cmpD x m < 0
    · obtain ⟨h1, h2⟩ := minT_ok r x
      rw [if_pos h]
      have hxm : leT x m := by
        rcases leT_total x m with h3 | h3
        · exact h3
        · exact absurd h ((cmpD_iff m x).2 h3)
      refine ⟨leT_trans h1 hxm, fun y hy => ?_⟩
      rcases List.mem_cons.1 hy with rfl | hy
      · exact h1
      · exact h2 y hy
    · obtain ⟨h1, h2⟩ := minT_ok r m
      rw [if_neg h]
      refine ⟨h1, fun y hy => ?_⟩
      rcases List.mem_cons.1 hy with rfl | hy
      · exact leT_trans h1 ((cmpD_iff m _).1 h)
      · exact h2 y hy
theorem nextT_ok {l : List Int} {pen : Int} {ds : List Dn} : ∀ x ∈ candD l pen ds.length ds 0, leT (nextD l pen ds) x := by
  unfold nextD
  cases hc : candD l pen ds.length ds 0 with
  | nil => intro x hx; cases hx
  | cons d r =>
    obtain ⟨h1, h2⟩ := minT_ok r d
    intro x hx
    rcases List.mem_cons.1 hx with rfl | hx
    · exact h1
    · exact h2 x hx
/-- The best divisions are the least ones by cost, number and list. -/
theorem bestD_least (l : List Int) (pen : Int) : ∀ k, k ≤ l.length → ∀ j d, (bestD l pen k)[j]? = some d → ∀ s c, Dv l pen j s c → leT d (s, c)
  | 0, _, j, d, h => by
    cases j with
    | zero =>
      simp only [bestD, List.getElem?_cons_zero, Option.some.injEq] at h
      subst h
      intro s c hd
      cases hd with
      | none => exact leT_refl _
      | more h hi hk => omega
    | succ j => simp [bestD] at h
  | k + 1, hk, j, d, h => by
    have hlen := bestD_len l pen k
    have h : (bestD l pen k ++ [nextD l pen (bestD l pen k)])[j]? = some d := h
    by_cases hj : j < k + 1
    · rw [List.getElem?_append_left (by omega)] at h
      exact bestD_least l pen k (by omega) j d h
    · rw [List.getElem?_append_right (by omega), hlen] at h
      obtain rfl : j = k + 1 := by
        have := (List.getElem?_eq_some_iff.1 h).1
        simp at this
        omega
      rw [Nat.sub_self] at h
      simp only [List.getElem?_cons_zero, Option.some.injEq] at h
      subst h
      have h2 := nextT_ok (l := l) (pen := pen) (ds := bestD l pen k)
      rw [hlen] at h2
      intro s c hd
      cases hd with
      | more h hi hk =>
        rename_i i s c
        obtain ⟨e, he⟩ : ∃ e, (bestD l pen k)[i]? = some e := ⟨(bestD l pen k)[i]'(by omega), List.getElem?_eq_getElem _⟩
        have hg := bestD_least l pen k (by omega) i e he s c h
        have hm := h2 _ (candD_of l pen (k + 1) (bestD l pen k) 0 i e he)
        rw [Nat.zero_add] at hm
        refine leT_trans hm ?_
        unfold leT at hg ⊢
        simp only [List.length_append, List.length_cons, List.length_nil] at hg ⊢
        rcases hg with hg | ⟨hg, hg2 | ⟨hg2, hg3⟩⟩
        · exact .inl (by omega)
        · exact .inr ⟨by omega, .inl (by omega)⟩
        · exact .inr ⟨by omega, .inr ⟨by omega, leL_app _ hg2 hg3⟩⟩
end Gv

/- Divisions from the end: what the reference finds is the least division, too. -/
namespace Gv
open Go

/-- One division of what follows gate i: with its next gate. -/
def tcand (l : List Int) (pen : Int) (i j : Nat) (t : Dn) : Dn := ((i : Int) :: t.1, costM (segL l i j) + pen + t.2)
def better (a b : Dn) : Prop := a.2 < b.2 ∨ a.2 = b.2 ∧ a.1.length < b.1.length
instance (a b : Dn) : Decidable (better a b) := by unfold better; infer_instance
/-- The first one of the cheapest ones with fewest segments, with its next gate. -/
def pickT (l : List Int) (pen : Int) (i : Nat) : List Dn → Nat → Dn × Nat → Dn × Nat
  | [], _, b => b
  | t :: r, j, b => pickT l pen i r (j + 1) (if better (tcand l pen i j t) b.1 then (tcand l pen i j t, j) else b)
def stepT (l : List Int) (pen : Int) (i : Nat) : List Dn → Dn × Nat
  | [] => (([], 0), 0)
  | t :: r => pickT l pen i r (i + 2) (tcand l pen i (i + 1) t, i + 1)
/-- The divisions of what follows gates n - m, .., n. -/
def tails (l : List Int) (pen : Int) : Nat → List Dn
  | 0 => [([], 0)]
  | m + 1 => (stepT l pen (l.length - (m + 1)) (tails l pen m)).1 :: tails l pen m
theorem tails_len (l : List Int) (pen : Int) : ∀ m, (tails l pen m).length = m + 1
  | 0 => rfl
  | m + 1 => by
    show (_ :: tails l pen m).length = _
    rw [List.length_cons, tails_len l pen m]
/-- The division of what follows gate j. -/
def tailAt (l : List Int) (pen : Int) (j : Nat) : Dn := (tails l pen (l.length - j)).headD ([], 0)
theorem tails_get (l : List Int) (pen : Int) : ∀ (m k : Nat), m ≤ l.length → k ≤ m → (tails l pen m)[k]? = some (tailAt l pen (l.length - m + k))
  | 0, k, _, h => by
    obtain rfl : k = 0 := by omega
    unfold tailAt
    rw [show l.length - (l.length - 0 + 0) = 0 by omega]
    rfl
  | m + 1, 0, hm, _ => by
    unfold tailAt
    rw [show l.length - (l.length - (m + 1) + 0) = m + 1 by omega]
    rfl
  | m + 1, k + 1, hm, h => by
    show (_ :: tails l pen m)[k + 1]? = _
    rw [List.getElem?_cons_succ, tails_get l pen m k (by omega) (by omega)]
    congr 2
    omega
theorem tailAt_end (l : List Int) (pen : Int) : tailAt l pen l.length = ([], 0) := by
  unfold tailAt
  rw [Nat.sub_self]
  rfl
theorem tailAt_step (l : List Int) (pen : Int) {i : Nat} (hi : i < l.length) : tailAt l pen i = (stepT l pen i (tails l pen (l.length - (i + 1)))).1 := by
  unfold tailAt
  rw [show l.length - i = (l.length - (i + 1)) + 1 by omega]
  show (stepT l pen (l.length - (l.length - (i + 1) + 1)) (tails l pen (l.length - (i + 1)))).1 = _
  rw [show l.length - (l.length - (i + 1) + 1) = i by omega]
/-- The next gate. -/
def nextAt (l : List Int) (pen : Int) (i : Nat) : Nat := (stepT l pen i (tails l pen (l.length - (i + 1)))).2

theorem better_le {a b : Dn} (h : better a b) : leT a b := by
  unfold better at h
  unfold leT
  omega
/-- Of two that are as good the one with the nearer next gate comes first. -/
theorem tie {l : List Int} {pen : Int} {i j k : Nat} (hj : j < k) (hk : k ≤ l.length) (hs : ∀ j, j < l.length → ∃ r, (tailAt l pen j).1 = (j : Int) :: r) (h : ¬ better (tcand l pen i k (tailAt l pen k)) (tcand l pen i j (tailAt l pen j))) :
    leT (tcand l pen i j (tailAt l pen j)) (tcand l pen i k (tailAt l pen k)) := by
  unfold better at h
  unfold leT
  by_cases h1 : (tcand l pen i j (tailAt l pen j)).2 < (tcand l pen i k (tailAt l pen k)).2
  · exact .inl h1
  · right
    refine ⟨by omega, ?_⟩
    by_cases h2 : (tcand l pen i j (tailAt l pen j)).1.length < (tcand l pen i k (tailAt l pen k)).1.length
    · exact .inl h2
    · right
      have hlen : (tcand l pen i j (tailAt l pen j)).1.length = (tcand l pen i k (tailAt l pen k)).1.length := by omega
      refine ⟨hlen, ?_⟩
      obtain ⟨r, hr⟩ := hs j (by omega)
      have hkn : k < l.length := by
        by_cases he : k < l.length
        · exact he
        · obtain rfl : k = l.length := by omega
          unfold tcand at hlen
          rw [hr, tailAt_end] at hlen
          simp at hlen
      obtain ⟨t, ht⟩ := hs k hkn
      show leL ((i : Int) :: (tailAt l pen j).1) ((i : Int) :: (tailAt l pen k).1)
      rw [hr, ht]
      exact .inr ⟨rfl, .inl (by omega)⟩
theorem pickT_ok {l : List Int} {pen : Int} {i : Nat} (hs : ∀ j, i < j → j < l.length → ∃ r, (tailAt l pen j).1 = (j : Int) :: r) : ∀ (r : List Dn) (j jb : Nat), i < jb → jb < j → j + r.length = l.length + 1 → (∀ k t, r[k]? = some t → t = tailAt l pen (j + k)) →
    ∃ js, jb ≤ js ∧ js ≤ l.length ∧ pickT l pen i r j (tcand l pen i jb (tailAt l pen jb), jb) = (tcand l pen i js (tailAt l pen js), js) ∧ leT (tcand l pen i js (tailAt l pen js)) (tcand l pen i jb (tailAt l pen jb)) ∧ ∀ k, k < r.length → leT (tcand l pen i js (tailAt l pen js)) (tcand l pen i (j + k) (tailAt l pen (j + k)))
  | [], j, jb, h0, h1, h2, _ => ⟨jb, Nat.le_refl _, by simp at h2; omega, rfl, leT_refl _, fun k hk => by simp at hk⟩
  | t :: r, j, jb, h0, h1, h2, h3 => by
    have ht : t = tailAt l pen j := h3 0 t rfl
    rw [List.length_cons] at h2
    have hr : ∀ k u, r[k]? = some u → u = tailAt l pen (j + 1 + k) := fun k u hu => by
      have := h3 (k + 1) u (by rw [List.getElem?_cons_succ]; exact hu)
      rw [show j + (k + 1) = j + 1 + k by omega] at this
      exact this
    show ∃ js, _ ∧ _ ∧ pickT l pen i r (j + 1) (if better (tcand l pen i j t) (tcand l pen i jb (tailAt l pen jb)) then (tcand l pen i j t, j) else (tcand l pen i jb (tailAt l pen jb), jb)) = _ ∧ _
    by_cases hb : better (tcand l pen i j t) (tcand l pen i jb (tailAt l pen jb))
    · rw [if_pos hb]
      rw [ht] at hb ⊢
      obtain ⟨js, a1, a2, a3, a4, a5⟩ := pickT_ok hs r (j + 1) j (by omega) (by omega) (by omega) hr
      refine ⟨js, by omega, a2, a3, leT_trans a4 (better_le hb), fun k hk => ?_⟩
      cases k with
      | zero => exact a4
      | succ k =>
        rw [show j + (k + 1) = j + 1 + k by omega]
        exact a5 k (by rw [List.length_cons] at hk; omega)
    · rw [if_neg hb]
      rw [ht] at hb
      obtain ⟨js, a1, a2, a3, a4, a5⟩ := pickT_ok hs r (j + 1) jb h0 (by omega) (by omega) hr
      refine ⟨js, a1, a2, a3, a4, fun k hk => ?_⟩
      cases k with
      | zero =>
        refine leT_trans a4 ?_
        by_cases hjn : jb < l.length
        · -- the heads that are asked for lie behind i
          refine tie' hs h0 h1 (by omega) hb
        · omega
      | succ k =>
        rw [show j + (k + 1) = j + 1 + k by omega]
        exact a5 k (by rw [List.length_cons] at hk; omega)
where
  tie' {l : List Int} {pen : Int} {i j k : Nat} (hs : ∀ j, i < j → j < l.length → ∃ r, (tailAt l pen j).1 = (j : Int) :: r) (h0 : i < j) (hj : j < k) (hk : k ≤ l.length) (h : ¬ better (tcand l pen i k (tailAt l pen k)) (tcand l pen i j (tailAt l pen j))) :
      leT (tcand l pen i j (tailAt l pen j)) (tcand l pen i k (tailAt l pen k)) := by
    unfold better at h
    unfold leT
    by_cases h1 : (tcand l pen i j (tailAt l pen j)).2 < (tcand l pen i k (tailAt l pen k)).2
    · exact .inl h1
    · right
      refine ⟨by omega, ?_⟩
      by_cases h2 : (tcand l pen i j (tailAt l pen j)).1.length < (tcand l pen i k (tailAt l pen k)).1.length
      · exact .inl h2
      · right
        have hlen : (tcand l pen i j (tailAt l pen j)).1.length = (tcand l pen i k (tailAt l pen k)).1.length := by omega
        refine ⟨hlen, ?_⟩
        obtain ⟨r, hr⟩ := hs j h0 (by omega)
        have hkn : k < l.length := by
          by_cases he : k < l.length
          · exact he
          · obtain rfl : k = l.length := by omega
            unfold tcand at hlen
            rw [hr, tailAt_end] at hlen
            simp at hlen
        obtain ⟨t, ht⟩ := hs k (by omega) hkn
        show leL ((i : Int) :: (tailAt l pen j).1) ((i : Int) :: (tailAt l pen k).1)
        rw [hr, ht]
        exact .inr ⟨rfl, .inl (by omega)⟩

/-- What is known of the division of what follows a gate. -/
theorem tailAt_ok (l : List Int) (pen : Int) : ∀ (m i : Nat), i + m = l.length → 0 < m →
    (∃ r, (tailAt l pen i).1 = (i : Int) :: r) ∧ i < nextAt l pen i ∧ nextAt l pen i ≤ l.length ∧ tailAt l pen i = tcand l pen i (nextAt l pen i) (tailAt l pen (nextAt l pen i)) ∧ ∀ j, i < j → j ≤ l.length → leT (tailAt l pen i) (tcand l pen i j (tailAt l pen j))
  | 0, i, _, h => by omega
  | m + 1, i, h, _ => by
    have hs : ∀ j, i < j → j < l.length → ∃ r, (tailAt l pen j).1 = (j : Int) :: r := fun j hj hn => (tailAt_ok l pen (l.length - j) j (by omega) (by omega)).1
    have hlen := tails_len l pen (l.length - (i + 1))
    obtain ⟨t, r, htr⟩ : ∃ t r, tails l pen (l.length - (i + 1)) = t :: r := by
      cases hc : tails l pen (l.length - (i + 1)) with
      | nil => rw [hc] at hlen; cases hlen
      | cons t r => exact ⟨t, r, rfl⟩
    have hget := tails_get l pen (l.length - (i + 1))
    rw [htr] at hlen hget
    rw [List.length_cons] at hlen
    have ht : t = tailAt l pen (i + 1) := by
      have := hget 0 (by omega) (by omega)
      rw [show l.length - (l.length - (i + 1)) + 0 = i + 1 by omega] at this
      exact Option.some.inj this
    have hr : ∀ k u, r[k]? = some u → u = tailAt l pen (i + 2 + k) := fun k u hu => by
      have hk := (List.getElem?_eq_some_iff.1 hu).1
      have := hget (k + 1) (by omega) (by omega)
      rw [List.getElem?_cons_succ, hu, show l.length - (l.length - (i + 1)) + (k + 1) = i + 2 + k by omega] at this
      exact Option.some.inj this
    obtain ⟨js, a1, a2, a3, a4, a5⟩ := pickT_ok hs r (i + 2) (i + 1) (by omega) (by omega) (by omega) hr
    have hst : stepT l pen i (tails l pen (l.length - (i + 1))) = (tcand l pen i js (tailAt l pen js), js) := by
      rw [htr, ht]
      exact a3
    have hn : nextAt l pen i = js := by unfold nextAt; rw [hst]
    have hta : tailAt l pen i = tcand l pen i js (tailAt l pen js) := by rw [tailAt_step l pen (by omega), hst]
    rw [hn]
    refine ⟨⟨_, by rw [hta]; rfl⟩, by omega, a2, hta, fun j hj hjn => ?_⟩
    rw [hta]
    by_cases he : j = i + 1
    · rw [he]
      exact a4
    · have := a5 (j - (i + 2)) (by omega)
      rw [show i + 2 + (j - (i + 2)) = j by omega] at this
      exact this
termination_by m => m

theorem dvG_add {l : List Int} {pen : Int} {k : Nat} : ∀ (r : List Int) (x : Nat) (a b c : Int), dvG l pen k x r a = some c → dvG l pen k x r (a + b) = some (c + b)
  | [], x, a, b, c, h => by
    unfold dvG at h ⊢
    by_cases hx : x < k
    · rw [if_pos hx] at h ⊢
      cases h
      congr 1
      omega
    · rw [if_neg hx] at h
      cases h
  | y :: r, x, a, b, c, h => by
    unfold dvG at h ⊢
    by_cases hx : (x : Int) + 1 ≤ y ∧ y ≤ (k : Int) - 1
    · rw [if_pos hx] at h ⊢
      have := dvG_add r y.toNat _ b c h
      rw [show a + (costM (segL l x y.toNat) + pen) + b = a + b + (costM (segL l x y.toNat) + pen) by omega] at this
      exact this
    · rw [if_neg hx] at h
      cases h
/-- It is a division. -/
theorem tailAt_div (l : List Int) (pen : Int) : ∀ (m i : Nat), i + m = l.length → 0 < m → ∃ r, (tailAt l pen i).1 = (i : Int) :: r ∧ dvG l pen l.length i r 0 = some (tailAt l pen i).2
  | 0, i, _, h => by omega
  | m + 1, i, h, _ => by
    obtain ⟨_, h1, h2, h3, _⟩ := tailAt_ok l pen (m + 1) i h (by omega)
    generalize nextAt l pen i = j at *
    rw [h3]
    refine ⟨(tailAt l pen j).1, rfl, ?_⟩
    by_cases hj : j = l.length
    · rw [hj, tailAt_end]
      unfold dvG
      rw [if_pos (by omega)]
      show some (0 + (costM (segL l i l.length) + pen)) = some (costM (segL l i l.length) + pen + 0)
      congr 1
      omega
    · obtain ⟨r, hr, hd⟩ := tailAt_div l pen (l.length - j) j (by omega) (by omega)
      rw [hr]
      show (if (i : Int) + 1 ≤ (j : Int) ∧ (j : Int) ≤ (l.length : Int) - 1 then dvG l pen l.length ((j : Int)).toNat r (0 + (costM (segL l i ((j : Int)).toNat) + pen)) else none) = some (costM (segL l i j) + pen + (tailAt l pen j).2)
      rw [if_pos ⟨by omega, by omega⟩, Int.toNat_natCast, dvG_add r j 0 _ _ hd]
      congr 1
      omega
termination_by m => m
/-- It is the least one. -/
theorem tailAt_least (l : List Int) (pen : Int) : ∀ (m i : Nat), i + m = l.length → ∀ (r : List Int) (c : Int), dvG l pen l.length i r 0 = some c → leT (tailAt l pen i) ((i : Int) :: r, c)
  | 0, i, h, r, c, hd => by
    cases r with
    | nil =>
      unfold dvG at hd
      rw [if_neg (by omega)] at hd
      cases hd
    | cons y r =>
      unfold dvG at hd
      rw [if_neg (by omega)] at hd
      cases hd
  | m + 1, i, h, r, c, hd => by
    obtain ⟨_, _, _, _, hmin⟩ := tailAt_ok l pen (m + 1) i h (by omega)
    cases r with
    | nil =>
      unfold dvG at hd
      rw [if_pos (by omega)] at hd
      have := hmin l.length (by omega) (Nat.le_refl _)
      rw [tailAt_end] at this
      have e : tcand l pen i l.length ([], 0) = ([(i : Int)], c) := by
        unfold tcand
        have := Option.some.inj hd
        rw [← this]
        congr 1
        omega
      rw [e] at this
      exact this
    | cons y r =>
      unfold dvG at hd
      by_cases hx : (i : Int) + 1 ≤ y ∧ y ≤ (l.length : Int) - 1
      · rw [if_pos hx] at hd
        have hy : ((y.toNat : Nat) : Int) = y := by omega
        have h1 := dvG_add r y.toNat _ (-(costM (segL l i y.toNat) + pen)) c hd
        rw [show (0 : Int) + (costM (segL l i y.toNat) + pen) + -(costM (segL l i y.toNat) + pen) = 0 by omega] at h1
        have h2 := tailAt_least l pen (l.length - y.toNat) y.toNat (by omega) r _ h1
        rw [hy] at h2
        refine leT_trans (hmin y.toNat (by omega) (by omega)) ?_
        unfold leT at h2 ⊢
        unfold tcand
        simp only [List.length_cons] at h2 ⊢
        rcases h2 with h2 | ⟨h2, h3 | ⟨h3, h4⟩⟩
        · exact .inl (by omega)
        · exact .inr ⟨by omega, .inl (by omega)⟩
        · exact .inr ⟨by omega, .inr ⟨by omega, .inr ⟨rfl, h4⟩⟩⟩
      · rw [if_neg hx] at hd
        cases hd
termination_by m => m
/-- Both are one. -/
theorem both_ways {l : List Int} {pen : Int} (h1 : 1 ≤ l.length) {d : Dn} (hd : (bestD l pen l.length)[l.length]? = some d) : d = tailAt l pen 0 := by
  have hg := bestD_good l pen l.length (Nat.le_refl _) _ _ hd
  obtain ⟨r, hr, hdv⟩ := tailAt_div l pen l.length 0 (by omega) (by omega)
  have hv := dvG_sound (Nat.le_refl _) r 0 0 _ [] .none hdv
  have a := bestD_least l pen l.length (Nat.le_refl _) _ _ hd _ _ hv
  rcases dvG_complete hg.1 with ⟨h, _, _⟩ | ⟨t, ht, hc⟩
  · omega
  · have b := tailAt_least l pen l.length 0 (by omega) t _ hc
    refine leT_anti ?_ ?_
    · have e : (([] : List Int) ++ ((0 : Nat) : Int) :: r, (tailAt l pen 0).2) = tailAt l pen 0 := Prod.ext (by rw [hr]; rfl) rfl
      rw [e] at a
      exact a
    · have e : ((((0 : Nat) : Int) :: t, d.2) : Dn) = d := Prod.ext (by rw [ht]; rfl) rfl
      rw [e] at b
      exact b
end Gv

/- The reference's segments: what they are. -/
namespace Gv
open Go
set_option maxRecDepth 100000

theorem tail_bd {l : List Int} (hl : l.length ≤ 1000) (hv : okP l) {pen : Int} (hp : 0 ≤ pen ∧ pen ≤ 1000000) : ∀ (m i : Nat), i + m = l.length → 0 ≤ (tailAt l pen i).2 ∧ (tailAt l pen i).2 ≤ 20000000 * (m : Int) ∧ (tailAt l pen i).1.length ≤ m
  | 0, i, h => by
    obtain rfl : i = l.length := by omega
    rw [tailAt_end]
    simp
  | m + 1, i, h => by
    obtain ⟨_, h1, h2, h3, _⟩ := tailAt_ok l pen (m + 1) i h (by omega)
    generalize nextAt l pen i = j at *
    obtain ⟨a1, a2, a3⟩ := tail_bd hl hv hp (l.length - j) j (by omega)
    have hc := cand_ok hl hv hp h1 h2 (b := 0) (by omega)
    rw [h3]
    unfold tcand
    simp only [List.length_cons]
    refine ⟨by omega, by omega, by omega⟩
termination_by m => m

/-- What stands behind a place, zeros before. -/
def arr (f : Nat → Int) (n i : Nat) : List Int := (List.range (n + 1)).map fun k => if i ≤ k then f k else 0
theorem arr_len (f : Nat → Int) (n i : Nat) : (arr f n i).length = n + 1 := by simp [arr]
theorem arr_get {f : Nat → Int} {n i k : Nat} (h : k ≤ n) : (arr f n i)[k]? = some (if i ≤ k then f k else 0) := by
  unfold arr
  rw [List.getElem?_map, List.getElem?_range (by omega)]
  rfl
theorem arr_step (f : Nat → Int) {n i : Nat} (h : i ≤ n) : (arr f n (i + 1)).set i (f i) = arr f n i := by
  apply List.ext_getElem?
  intro k
  by_cases hk : k ≤ n
  · rw [arr_get hk]
    by_cases he : k = i
    · subst he
      rw [List.getElem?_set_self (by rw [arr_len]; omega), if_pos (Nat.le_refl _)]
    · rw [List.getElem?_set_ne (by omega), arr_get hk]
      by_cases h2 : i + 1 ≤ k
      · rw [if_pos h2, if_pos (by omega)]
      · rw [if_neg h2, if_neg (by omega)]
  · rw [List.getElem?_eq_none (by rw [List.length_set, arr_len]; omega), List.getElem?_eq_none (by rw [arr_len]; omega)]
theorem arr_end {f : Nat → Int} {n : Nat} (h : f n = 0) : arr f n n = List.replicate (n + 1) 0 := by
  apply List.ext_getElem?
  intro k
  by_cases hk : k ≤ n
  · rw [arr_get hk, List.getElem?_replicate]
    by_cases h2 : n ≤ k
    · obtain rfl : k = n := by omega
      rw [if_pos h2, if_pos (by omega), h]
    · rw [if_neg h2, if_pos (by omega)]
  · rw [List.getElem?_eq_none (by rw [arr_len]; omega), List.getElem?_eq_none (by simp; omega)]
theorem set_over (L : List Int) {i : Nat} (x : Int) (h : i < L.length) : overO (encI L) (0 + i * 1) [.int .i64 x] = some (encI (L.set i x)) := by
  obtain ⟨y, hy, hd⟩ := get_drop h
  have e : L = L.take i ++ y :: L.drop (i + 1) := by rw [← hd, List.take_append_drop]
  have hlen : (L.take i).length = i := by rw [List.length_take]; omega
  rw [overO_of (by rw [encI_len]; simp; omega)]
  have h2 := over_I (L.take i) (L.drop (i + 1)) y x
  rw [hlen, ← e] at h2
  rw [h2]
  congr 2
  have e3 : L.set i x = L.take i ++ x :: L.drop (i + 1) := by
    rw [List.set_eq_take_append_cons_drop, if_pos h]
  exact e3.symm

def fc (l : List Int) (pen : Int) (k : Nat) : Int := (tailAt l pen k).2
def fk (l : List Int) (pen : Int) (k : Nat) : Int := (tailAt l pen k).1.length
def fn (l : List Int) (pen : Int) (k : Nat) : Int := if k < l.length then (nextAt l pen k : Int) else 0
/-- The divisions of what follows gates j, .., n. -/
def tl (l : List Int) (pen : Int) (j : Nat) : List Dn := if j ≤ l.length then tails l pen (l.length - j) else []
theorem tl_cons {l : List Int} {pen : Int} {j : Nat} (h : j ≤ l.length) : tl l pen j = tailAt l pen j :: tl l pen (j + 1) := by
  unfold tl
  rw [if_pos h]
  by_cases h2 : j = l.length
  · subst h2
    rw [if_neg (by omega), Nat.sub_self, tailAt_end]
    rfl
  · rw [if_pos (by omega)]
    unfold tailAt
    rw [show l.length - j = (l.length - (j + 1)) + 1 by omega]
    rfl

theorem seg_inner (l : List Int) (hl : l.length ≤ 1000) (hv : okP l) (pen : Int) (hp : 0 ≤ pen ∧ pen ≤ 1000000) (i : Nat) (hi : i < l.length) : ∀ j, j ≤ l.length + 1 → ∀ jb, i < jb → jb < j →
    Rglidepathref08_Segments_2 (Tglidepathref08_Segments_2a l.length (encI l) pen l.length (l.length + 1) (l.length + 1) (l.length + 1) i true j
      (encI ((arr (fc l pen) l.length (i + 1)).set i (tcand l pen i jb (tailAt l pen jb)).2)) (encI ((arr (fk l pen) l.length (i + 1)).set i (tcand l pen i jb (tailAt l pen jb)).1.length)) (encI ((arr (fn l pen) l.length (i + 1)).set i jb))) =
    exO (Xglidepathref08_Segments_2a (l.length, encI l, pen, l.length, l.length + 1, l.length + 1, l.length + 1, i,
      encI ((arr (fc l pen) l.length (i + 1)).set i (pickT l pen i (tl l pen j) j (tcand l pen i jb (tailAt l pen jb), jb)).1.2), encI ((arr (fk l pen) l.length (i + 1)).set i (pickT l pen i (tl l pen j) j (tcand l pen i jb (tailAt l pen jb), jb)).1.1.length), encI ((arr (fn l pen) l.length (i + 1)).set i (pickT l pen i (tl l pen j) j (tcand l pen i jb (tailAt l pen jb), jb)).2))) := by
  refine up_ind (P := fun j => ∀ jb, i < jb → jb < j →
    Rglidepathref08_Segments_2 (Tglidepathref08_Segments_2a l.length (encI l) pen l.length (l.length + 1) (l.length + 1) (l.length + 1) i true j
      (encI ((arr (fc l pen) l.length (i + 1)).set i (tcand l pen i jb (tailAt l pen jb)).2)) (encI ((arr (fk l pen) l.length (i + 1)).set i (tcand l pen i jb (tailAt l pen jb)).1.length)) (encI ((arr (fn l pen) l.length (i + 1)).set i jb))) =
    exO (Xglidepathref08_Segments_2a (l.length, encI l, pen, l.length, l.length + 1, l.length + 1, l.length + 1, i,
      encI ((arr (fc l pen) l.length (i + 1)).set i (pickT l pen i (tl l pen j) j (tcand l pen i jb (tailAt l pen jb), jb)).1.2), encI ((arr (fk l pen) l.length (i + 1)).set i (pickT l pen i (tl l pen j) j (tcand l pen i jb (tailAt l pen jb), jb)).1.1.length), encI ((arr (fn l pen) l.length (i + 1)).set i (pickT l pen i (tl l pen j) j (tcand l pen i jb (tailAt l pen jb), jb)).2)))) _ ?_ ?_
  · intro jb _ _
    have ht : tl l pen (l.length + 1) = [] := by unfold tl; rw [if_neg (by omega)]
    rw [ht]
    refine Rglidepathref08_Segments_2a_of _ _ _ _ _ _ _ _ _ _ _ _ _ ?_
    unfold Bglidepathref08_Segments_2a
    rw [bif_neg (by omega)]
    rfl
  · intro j hj ih jb h0 h1
    have hjn : j ≤ l.length := by omega
    have hc := refCost_is (i := i) (k := j) hl hv (by omega) hjn
    have hcb := cand_ok (i := i) (k := j) hl hv hp (by omega) hjn (b := 0) (by omega)
    obtain ⟨t1, t2, t3⟩ := tail_bd hl hv hp (l.length - j) j (by omega)
    obtain ⟨u1, u2, u3⟩ := tail_bd hl hv hp (l.length - jb) jb (by omega)
    have hcb2 := cand_ok (i := i) (k := jb) hl hv hp (by omega) (by omega) (b := 0) (by omega)
    have w1 : w64 ((j : Int) - 1) = (j : Int) - 1 := w64_in (by omega)
    have w2 : w64 (costM (segL l i j) + pen) = costM (segL l i j) + pen := w64_in (by omega)
    have w3 : w64 (costM (segL l i j) + pen + fc l pen j) = (tcand l pen i j (tailAt l pen j)).2 := by unfold fc tcand; rw [w64_in (by omega)]
    have w4 : w64 (fk l pen j + 1) = ((tcand l pen i j (tailAt l pen j)).1.length : Int) := by
      unfold fk tcand
      rw [w64_in (by omega), List.length_cons]
      omega
    have wk : w64 ((j : Int) + 1) = ((j + 1 : Nat) : Int) := by rw [w64_in (by omega)]; omega
    have hb1 : (decide (((0 : Int) ≤ (j : Int)) ∧ ((j : Int) < ((l.length + 1 : Nat) : Int)))) = true := decide_eq_true ⟨by omega, by omega⟩
    have hb2 : (decide (((0 : Int) ≤ (i : Int)) ∧ ((i : Int) < ((l.length + 1 : Nat) : Int)))) = true := decide_eq_true ⟨by omega, by omega⟩
    have gj : ∀ (f : Nat → Int) (x : Int), ((arr f l.length (i + 1)).set i x)[j]? = some (f j) := fun f x => by
      rw [List.getElem?_set_ne (by omega), arr_get hjn, if_pos (by omega)]
    have gi : ∀ (f : Nat → Int) (x : Int), ((arr f l.length (i + 1)).set i x)[i]? = some x := fun f x => by
      rw [List.getElem?_set_self (by rw [arr_len]; omega)]
    have so : ∀ (f : Nat → Int) (x y : Int), overO (encI ((arr f l.length (i + 1)).set i x)) (0 + i * 1) [.int .i64 y] = some (encI ((arr f l.length (i + 1)).set i y)) := fun f x y => by
      rw [set_over _ y (by rw [List.length_set, arr_len]; omega), List.set_set]
    have hbody : Bglidepathref08_Segments_2a (Fn env) Rglidepathref08_Segments_2 exO Lglidepathref08_Segments_0 Lglidepathref08_Segments_2 Lglidepathref08_Segments_4 l.length (encI l) pen l.length (l.length + 1) (l.length + 1) (l.length + 1) i true j
      (encI ((arr (fc l pen) l.length (i + 1)).set i (tcand l pen i jb (tailAt l pen jb)).2)) (encI ((arr (fk l pen) l.length (i + 1)).set i (tcand l pen i jb (tailAt l pen jb)).1.length)) (encI ((arr (fn l pen) l.length (i + 1)).set i jb)) =
        (if better (tcand l pen i j (tailAt l pen j)) (tcand l pen i jb (tailAt l pen jb)) then
          Rglidepathref08_Segments_2 (Tglidepathref08_Segments_2a l.length (encI l) pen l.length (l.length + 1) (l.length + 1) (l.length + 1) i true (j + 1 : Nat)
            (encI ((arr (fc l pen) l.length (i + 1)).set i (tcand l pen i j (tailAt l pen j)).2)) (encI ((arr (fk l pen) l.length (i + 1)).set i (tcand l pen i j (tailAt l pen j)).1.length)) (encI ((arr (fn l pen) l.length (i + 1)).set i j)))
        else Rglidepathref08_Segments_2 (Tglidepathref08_Segments_2a l.length (encI l) pen l.length (l.length + 1) (l.length + 1) (l.length + 1) i true (j + 1 : Nat)
            (encI ((arr (fc l pen) l.length (i + 1)).set i (tcand l pen i jb (tailAt l pen jb)).2)) (encI ((arr (fk l pen) l.length (i + 1)).set i (tcand l pen i jb (tailAt l pen jb)).1.length)) (encI ((arr (fn l pen) l.length (i + 1)).set i jb)))) := by
      unfold Bglidepathref08_Segments_2a
      rw [bif_pos (by omega)]
      simp only [w1, hc, bindO_val, hb1, hb2, cond_true, Int.toNat_natCast, Nat.zero_add, Nat.mul_one, encI_get, gj, gi, Option.map_some, intC_int, w2, w3, w4, wk, bif_dec, bif_eq]
      have so2 : ∀ (f : Nat → Int) (x y : Int), overO (encI ((arr f l.length (i + 1)).set i x)) i [.int .i64 y] = some (encI ((arr f l.length (i + 1)).set i y)) := fun f x y => by
        have := so f x y
        rw [Nat.zero_add, Nat.mul_one] at this
        exact this
      simp only [so2, bindO_val]
      by_cases hbt : better (tcand l pen i j (tailAt l pen j)) (tcand l pen i jb (tailAt l pen jb))
      · rw [if_pos (c := better (tcand l pen i j (tailAt l pen j)) (tcand l pen i jb (tailAt l pen jb))) hbt]
        rcases hbt with e1 | ⟨e2, e3⟩
        · rw [if_pos e1]
        · rw [if_neg (by omega), if_pos e2, if_pos (by omega)]
      · rw [if_neg (c := better (tcand l pen i j (tailAt l pen j)) (tcand l pen i jb (tailAt l pen jb))) hbt]
        rw [if_neg fun h => hbt (.inl h)]
        by_cases e2 : (tcand l pen i j (tailAt l pen j)).2 = (tcand l pen i jb (tailAt l pen jb)).2
        · rw [if_pos e2, if_neg fun e3 => hbt (.inr ⟨e2, by omega⟩)]
        · rw [if_neg e2]
    rw [tl_cons hjn]
    show _ = exO (Xglidepathref08_Segments_2a (l.length, encI l, pen, l.length, l.length + 1, l.length + 1, l.length + 1, i,
      encI ((arr (fc l pen) l.length (i + 1)).set i (pickT l pen i (tl l pen (j + 1)) (j + 1) (if better (tcand l pen i j (tailAt l pen j)) (tcand l pen i jb (tailAt l pen jb)) then (tcand l pen i j (tailAt l pen j), j) else (tcand l pen i jb (tailAt l pen jb), jb))).1.2), encI ((arr (fk l pen) l.length (i + 1)).set i (pickT l pen i (tl l pen (j + 1)) (j + 1) (if better (tcand l pen i j (tailAt l pen j)) (tcand l pen i jb (tailAt l pen jb)) then (tcand l pen i j (tailAt l pen j), j) else (tcand l pen i jb (tailAt l pen jb), jb))).1.1.length), encI ((arr (fn l pen) l.length (i + 1)).set i (pickT l pen i (tl l pen (j + 1)) (j + 1) (if better (tcand l pen i j (tailAt l pen j)) (tcand l pen i jb (tailAt l pen jb)) then (tcand l pen i j (tailAt l pen j), j) else (tcand l pen i jb (tailAt l pen jb), jb))).2)))
    by_cases hbt : better (tcand l pen i j (tailAt l pen j)) (tcand l pen i jb (tailAt l pen jb))
    · rw [if_pos hbt] at hbody
      rw [if_pos hbt]
      exact Rglidepathref08_Segments_2a_of _ _ _ _ _ _ _ _ _ _ _ _ _ (hbody.trans (ih j (by omega) (by omega)))
    · rw [if_neg hbt] at hbody
      rw [if_neg hbt]
      exact Rglidepathref08_Segments_2a_of _ _ _ _ _ _ _ _ _ _ _ _ _ (hbody.trans (ih jb h0 (by omega)))
end Gv

/- The reference's segments, and CloudSegments' callees. -/
namespace Gv
open Go
set_option maxRecDepth 100000

/-- One gate's round. -/
theorem seg_round (l : List Int) (hl : l.length ≤ 1000) (hv : okP l) (pen : Int) (hp : 0 ≤ pen ∧ pen ≤ 1000000) (i : Nat) (hi : i < l.length) :
    Rglidepathref08_Segments_2 (Tglidepathref08_Segments_2a l.length (encI l) pen l.length (l.length + 1) (l.length + 1) (l.length + 1) i false (i + 1 : Nat)
      (encI (arr (fc l pen) l.length (i + 1))) (encI (arr (fk l pen) l.length (i + 1))) (encI (arr (fn l pen) l.length (i + 1)))) =
    exO (Xglidepathref08_Segments_2a (l.length, encI l, pen, l.length, l.length + 1, l.length + 1, l.length + 1, i,
      encI (arr (fc l pen) l.length i), encI (arr (fk l pen) l.length i), encI (arr (fn l pen) l.length i))) := by
  have hjn : i + 1 ≤ l.length := by omega
  have hc := refCost_is (i := i) (k := i + 1) hl hv (by omega) hjn
  have hcb := cand_ok (i := i) (k := i + 1) hl hv hp (by omega) hjn (b := 0) (by omega)
  obtain ⟨t1, t2, t3⟩ := tail_bd hl hv hp (l.length - (i + 1)) (i + 1) (by omega)
  have w1 : w64 (((i + 1 : Nat) : Int) - 1) = ((i + 1 : Nat) : Int) - 1 := w64_in (by omega)
  have w2 : w64 (costM (segL l i (i + 1)) + pen) = costM (segL l i (i + 1)) + pen := w64_in (by omega)
  have w3 : w64 (costM (segL l i (i + 1)) + pen + fc l pen (i + 1)) = (tcand l pen i (i + 1) (tailAt l pen (i + 1))).2 := by unfold fc tcand; rw [w64_in (by omega)]
  have w4 : w64 (fk l pen (i + 1) + 1) = ((tcand l pen i (i + 1) (tailAt l pen (i + 1))).1.length : Int) := by
    unfold fk tcand
    rw [w64_in (by omega), List.length_cons]
    omega
  have wk : w64 (((i + 1 : Nat) : Int) + 1) = ((i + 2 : Nat) : Int) := by rw [w64_in (by omega)]; omega
  have hb1 : (decide (((0 : Int) ≤ ((i + 1 : Nat) : Int)) ∧ (((i + 1 : Nat) : Int) < ((l.length + 1 : Nat) : Int)))) = true := decide_eq_true ⟨by omega, by omega⟩
  have hb2 : (decide (((0 : Int) ≤ (i : Int)) ∧ ((i : Int) < ((l.length + 1 : Nat) : Int)))) = true := decide_eq_true ⟨by omega, by omega⟩
  have gj : ∀ (f : Nat → Int), (arr f l.length (i + 1))[i + 1]? = some (f (i + 1)) := fun f => by
    rw [arr_get hjn, if_pos (by omega)]
  have so : ∀ (f : Nat → Int) (y : Int), overO (encI (arr f l.length (i + 1))) i [.int .i64 y] = some (encI ((arr f l.length (i + 1)).set i y)) := fun f y => by
    have := set_over (arr f l.length (i + 1)) (i := i) y (by rw [arr_len]; omega)
    rw [Nat.zero_add, Nat.mul_one] at this
    exact this
  have hst : stepT l pen i (tails l pen (l.length - (i + 1))) = pickT l pen i (tl l pen (i + 2)) (i + 2) (tcand l pen i (i + 1) (tailAt l pen (i + 1)), i + 1) := by
    have := tl_cons (pen := pen) hjn
    unfold tl at this
    rw [if_pos hjn] at this
    rw [this]
    rfl
  have hq := seg_inner l hl hv pen hp i hi (i + 2) (by omega) (i + 1) (by omega) (by omega)
  rw [← hst, ← tailAt_step l pen hi] at hq
  have e1 : (arr (fc l pen) l.length (i + 1)).set i (tailAt l pen i).2 = arr (fc l pen) l.length i := arr_step (fc l pen) (by omega)
  have e2 : (arr (fk l pen) l.length (i + 1)).set i ((tailAt l pen i).1.length : Int) = arr (fk l pen) l.length i := arr_step (fk l pen) (by omega)
  have e3 : (arr (fn l pen) l.length (i + 1)).set i (((stepT l pen i (tails l pen (l.length - (i + 1)))).2 : Nat) : Int) = arr (fn l pen) l.length i := by
    have := arr_step (fn l pen) (n := l.length) (i := i) (by omega)
    rw [← this]
    congr 1
    unfold fn nextAt
    rw [if_pos hi]
  rw [e1, e2, e3] at hq
  refine Rglidepathref08_Segments_2a_of _ _ _ _ _ _ _ _ _ _ _ _ _ ?_
  unfold Bglidepathref08_Segments_2a
  rw [bif_pos (by omega)]
  simp only [w1, hc, bindO_val, hb1, hb2, cond_true, cond_false, Int.toNat_natCast, Nat.zero_add, Nat.mul_one, encI_get, gj, Option.map_some, intC_int, w2, w3, w4, so, wk]
  exact hq
theorem seg_outer (l : List Int) (hl : l.length ≤ 1000) (hv : okP l) (pen : Int) (hp : 0 ≤ pen ∧ pen ≤ 1000000) : ∀ i, i ≤ l.length →
    Rglidepathref08_Segments_0 (Tglidepathref08_Segments_0a l.length (encI l) pen l.length (l.length + 1) (l.length + 1) (l.length + 1) ((i : Int) - 1)
      (encI (arr (fc l pen) l.length i)) (encI (arr (fk l pen) l.length i)) (encI (arr (fn l pen) l.length i))) =
    exO (Xglidepathref08_Segments_0a (l.length, l.length + 1, l.length + 1, encI (arr (fc l pen) l.length 0), encI (arr (fk l pen) l.length 0), encI (arr (fn l pen) l.length 0)))
  | 0, _ => by
    refine Rglidepathref08_Segments_0a_of _ _ _ _ _ _ _ _ _ _ _ ?_
    unfold Bglidepathref08_Segments_0a
    rw [bif_neg (by omega)]
    rfl
  | i + 1, h => by
    have hL := Lglidepathref08_Segments_2a_of (seg_round l hl hv pen hp i (by omega))
    have e : ((i + 1 : Nat) : Int) - 1 = (i : Int) := by omega
    have w1 : w64 ((i : Int) + 1) = ((i + 1 : Nat) : Int) := by rw [w64_in (by omega)]; omega
    have w2 : w64 ((i : Int) - 1) = (i : Int) - 1 := w64_in (by omega)
    refine Rglidepathref08_Segments_0a_of _ _ _ _ _ _ _ _ _ _ _ ?_
    unfold Bglidepathref08_Segments_0a
    rw [e, bif_pos (by omega), w1]
    simp only [hL, bindO_val, w2]
    exact seg_outer l hl hv pen hp i (by omega)
theorem walk (l : List Int) (hl : l.length ≤ 1000) (pen : Int) (c6 : List PV) : ∀ (m j : Nat), j + m = l.length → ∀ acc : List Int, acc.length + m ≤ 100000 →
    Rglidepathref08_Segments_4 (Tglidepathref08_Segments_4b l.length (l.length + 1) (l.length + 1) acc.length (encI acc) j c6 (encI (arr (fn l pen) l.length 0)) acc.length) =
    exO (Xglidepathref08_Segments_4b (l.length + 1, (acc ++ (tailAt l pen j).1).length, encI (acc ++ (tailAt l pen j).1), c6, encI (arr (fn l pen) l.length 0), (acc ++ (tailAt l pen j).1).length))
  | 0, j, h, acc, _ => by
    obtain rfl : j = l.length := by omega
    rw [tailAt_end, List.append_nil]
    refine Rglidepathref08_Segments_4b_of _ _ _ _ _ _ _ _ _ ?_
    unfold Bglidepathref08_Segments_4b
    rw [bif_neg (by omega)]
    rfl
  | m + 1, j, h, acc, ha => by
    obtain ⟨_, h1, h2, h3, _⟩ := tailAt_ok l pen (m + 1) j h (by omega)
    have hb2 : (decide (((0 : Int) ≤ (j : Int)) ∧ ((j : Int) < ((l.length + 1 : Nat) : Int)))) = true := decide_eq_true ⟨by omega, by omega⟩
    have gn : (arr (fn l pen) l.length 0)[j]? = some (nextAt l pen j : Int) := by
      rw [arr_get (by omega), if_pos (Nat.zero_le _)]
      unfold fn
      rw [if_pos (by omega)]
    have ih := walk l hl pen c6 (l.length - nextAt l pen j) (nextAt l pen j) (by omega) (acc ++ [(j : Int)]) (by rw [List.length_append, List.length_cons, List.length_nil]; omega)
    rw [List.append_assoc] at ih
    have e : (acc ++ ([(j : Int)] ++ (tailAt l pen (nextAt l pen j)).1)) = acc ++ (tailAt l pen j).1 := by
      conv => rhs; rw [h3]
      rfl
    rw [e, List.length_append, List.length_cons, List.length_nil] at ih
    refine Rglidepathref08_Segments_4b_of _ _ _ _ _ _ _ _ _ ?_
    unfold Bglidepathref08_Segments_4b
    rw [bif_pos (by omega), bif_pos (by unfold big; first | exact ⟨rfl, by omega⟩ | exact ⟨trivial, by omega⟩)]
    simp only [hb2, cond_true, Int.toNat_natCast, Nat.zero_add, Nat.mul_one, encI_get, gn, Option.map_some, intC_int, bindO_val]
    rw [encI_snoc]
    exact ih
termination_by m => m
theorem refSegments_is {l : List Int} (h1 : 1 ≤ l.length) (hl : l.length ≤ 1000) (hv : okP l) {pen : Int} (hp : 0 ≤ pen ∧ pen ≤ 1000000) :
    Fglidepathref08_Segments [.list l.length (encI l), .int .i64 pen] = some (((tailAt l pen 0).1.length, encI (tailAt l pen 0).1), (tailAt l pen 0).2) := by
  refine Fglidepathref08_Segments_of _ _ _ ?_
  unfold tglidepathref08_Segments
  have w1 : w64 ((l.length : Int) + 1) = ((l.length + 1 : Nat) : Int) := by rw [w64_in (by omega)]; omega
  have w2 : w64 ((l.length : Int) - 1) = (l.length : Int) - 1 := w64_in (by omega)
  have hb : (decide ((((l.length + 1 : Nat) : Int) = ((l.length + 1 : Nat) : Int)) ∧ (((0 : Int) ≤ ((l.length + 1 : Nat) : Int)) ∧ (((l.length + 1 : Nat) : Int) ≤ (big : Int))))) = true := decide_eq_true ⟨rfl, by omega, by unfold big; omega⟩
  have z : ∀ f : Nat → Int, f l.length = 0 → rep [PV.int .i64 (0 : Int)] (l.length + 1) = encI (arr f l.length l.length) := fun f hf => by rw [arr_end hf, rep_I]
  have z1 := z (fc l pen) (by unfold fc; rw [tailAt_end])
  have z2 := z (fk l pen) (by unfold fk; rw [tailAt_end]; rfl)
  have z3 := z (fn l pen) (by unfold fn; rw [if_neg (by omega)])
  have hq := seg_outer l hl hv pen hp l.length (Nat.le_refl _)
  rw [← z1, ← z2, ← z3] at hq
  have hL := Lglidepathref08_Segments_0a_of hq
  obtain ⟨_, a1, a2, a3, _⟩ := tailAt_ok l pen l.length 0 (by omega) (by omega)
  have gn : (encI (arr (fn l pen) l.length 0))[0]? = some (.int .i64 (nextAt l pen 0 : Int)) := by
    rw [encI_get, arr_get (by omega), if_pos (Nat.le_refl _)]
    unfold fn
    rw [if_pos (by omega)]
    rfl
  have gc : (encI (arr (fc l pen) l.length 0))[0]? = some (.int .i64 (tailAt l pen 0).2) := by
    rw [encI_get, arr_get (by omega), if_pos (Nat.le_refl _)]
    rfl
  have hpos : (decide (((0 : Int) ≤ (0 : Int)) ∧ ((0 : Int) < ((l.length + 1 : Nat) : Int)))) = true := decide_eq_true ⟨by omega, by omega⟩
  have hR : Rglidepathref08_Segments_4 (Tglidepathref08_Segments_4a l.length (l.length + 1) (l.length + 1) (encI (arr (fc l pen) l.length 0)) (encI (arr (fk l pen) l.length 0)) (encI (arr (fn l pen) l.length 0))) =
      exO (Xglidepathref08_Segments_4b (l.length + 1, (tailAt l pen 0).1.length, encI (tailAt l pen 0).1, encI (arr (fc l pen) l.length 0), encI (arr (fn l pen) l.length 0), (tailAt l pen 0).1.length)) := by
    refine Rglidepathref08_Segments_4a_of _ _ _ _ _ _ ?_
    unfold Bglidepathref08_Segments_4a
    rw [bif_pos (by omega)]
    simp only [hpos, cond_true, gn, intC_int, bindO_val]
    have hw := walk l hl pen (encI (arr (fc l pen) l.length 0)) (l.length - nextAt l pen 0) (nextAt l pen 0) (by omega) [((0 : Nat) : Int)] (by simp; omega)
    have e : ([((0 : Nat) : Int)] ++ (tailAt l pen (nextAt l pen 0)).1) = (tailAt l pen 0).1 := by
      conv => rhs; rw [a3]
      rfl
    rw [e] at hw
    exact hw
  have hL4 := Lglidepathref08_Segments_4b_of hR
  rw [w1, w2, hb]
  simp only [cond_true, Int.toNat_natCast, hL, bindO_val, hL4, Sum.elim_inr, hpos, gc, intC_int]

theorem ints_loop (l : List Int) (hl : l.length ≤ 100000) : ∀ i, i ≤ l.length →
    Rglidepathbase_Ints_0 (Tglidepathbase_Ints_0a l.length (encI l) l.length (encI l) i) = exO (Xglidepathbase_Ints_0b ()) := by
  refine up_ind _ ?_ ?_
  · refine Rglidepathbase_Ints_0a_of _ _ _ _ _ ?_
    unfold Bglidepathbase_Ints_0a
    rw [bif_neg (by omega)]
    rfl
  · intro i hi ih
    obtain ⟨x, hx, hd⟩ := get_drop hi
    have wk : w64 ((i : Int) + 1) = ((i + 1 : Nat) : Int) := by rw [w64_in (by omega)]; omega
    have hb1 : (decide (((0 : Int) ≤ (i : Int)) ∧ ((i : Int) < (l.length : Int)))) = true := decide_eq_true ⟨by omega, by omega⟩
    refine Rglidepathbase_Ints_0a_of _ _ _ _ _ ?_
    unfold Bglidepathbase_Ints_0a
    rw [bif_pos (by omega)]
    simp only [hb1, cond_true, Int.toNat_natCast, Nat.mul_one, encI_get, hx, Option.map_some, intC_int, bindO_val, wk, bne_self_eq_false, cond_false]
    exact ih
theorem ints_is (l : List Int) (hl : l.length ≤ 100000) : Fglidepathbase_Ints [.list l.length (encI l), .list l.length (encI l)] = some true := by
  refine Fglidepathbase_Ints_of _ _ _ _ ?_
  unfold tglidepathbase_Ints
  have hL := Lglidepathbase_Ints_0b_of (y := ()) (ints_loop l hl 0 (by omega))
  have hL : Lglidepathbase_Ints_0 (Tglidepathbase_Ints_0a l.length (encI l) l.length (encI l) 0) = _ := hL
  simp only [bne_self_eq_false, cond_false, hL, bindO_val, Sum.elim_inr]

def missE (x : Int) (n : Nat) : Int := if x < 0 ∨ (n : Int) ≤ x then 6 else 0
theorem missE_is (x : Int) (n : Nat) : Fcloud_missingError [.int .i64 x, .int .i64 n] = some (missE x n) := by
  refine Fcloud_missingError_of _ _ ?_
  unfold tcloud_missingError missE
  simp only [errorIf_is, bindO_val, bif_dec]
  by_cases h1 : x < 0
  · rw [if_pos h1, if_pos (c := x < 0 ∨ (n : Int) ≤ x) (.inl h1)]
    rfl
  · rw [if_neg h1]
    by_cases h2 : x ≥ (n : Int)
    · rw [if_pos h2, if_pos (c := x < 0 ∨ (n : Int) ≤ x) (.inr h2)]
      rfl
    · rw [if_neg h2, if_neg (c := x < 0 ∨ (n : Int) ≤ x) (by omega)]
      rfl
def scE (l : List Int) (a b : Int) : Int := first4 (profE l) (missE a l.length) (missE b l.length) (if a > b then 9 else 0)
def scR (l : List Int) (a b : Int) : Int × Int := if scE l a b ≠ 0 then (0, scE l a b) else (costM (segL l a.toNat (b.toNat + 1)), 0)
theorem scE_ok {l : List Int} {a b : Int} (h : scE l a b = 0) : profE l = 0 ∧ (0 ≤ a ∧ a < l.length) ∧ (0 ≤ b ∧ b < l.length) ∧ a ≤ b := by
  obtain ⟨h1, h2, h3, h4⟩ := first4_nil h
  unfold missE at h2 h3
  refine ⟨h1, ?_, ?_, ?_⟩
  · by_cases h : a < 0 ∨ (l.length : Int) ≤ a
    · rw [if_pos h] at h2
      cases h2
    · omega
  · by_cases h : b < 0 ∨ (l.length : Int) ≤ b
    · rw [if_pos h] at h3
      cases h3
    · omega
  · by_cases h : a > b
    · rw [if_pos h] at h4
      cases h4
    · omega
theorem segCostR_is (l : List Int) (hl : l.length ≤ 1000) (a b : Int) : Fcloud_SegmentCost [.list l.length (encI l), .agg [.int .i64 a, .int .i64 b]] = some (scR l a b) := by
  refine Fcloud_SegmentCost_of _ _ _ _ ?_
  unfold tcloud_SegmentCost
  have c55 := profileError_is l (by omega)
  have key : ∀ e : Int, e = scE l a b → (if e = 0 then (bindO (Fn env 66 (RSh.one (CK.int IntKind.i64)) [(PV.list l.length (encI l)), (PV.int IntKind.i64 a), (PV.int IntKind.i64 (w64 (b + (1 : Int))))]) fun (y5 : (Int)) => some (y5, (0 : Int))) else some ((0 : Int), e)) = some (scR l a b) := by
    intro e he
    subst he
    unfold scR
    by_cases h : scE l a b = 0
    · obtain ⟨h0, h1, h2, h3⟩ := scE_ok h
      obtain ⟨_, _, hv⟩ := prof_ok h0
      have hc := cost_is (i := a.toNat) (k := b.toNat + 1) hl hv (by omega) (by omega)
      have wb : w64 (b + 1) = ((b.toNat + 1 : Nat) : Int) := by rw [w64_in (by omega)]; omega
      rw [show ((a.toNat : Nat) : Int) = a by omega] at hc
      rw [if_pos h, if_neg (c := scE l a b ≠ 0) (by simp [h]), wb]
      simp only [hc, bindO_val]
    · rw [if_neg h, if_pos (c := scE l a b ≠ 0) h]
  simp only [c55, missE_is, bindO_val, errorIf_is, firstError4_is, bif_ne, bif_dec]
  by_cases h : a > b
  · rw [if_pos h]
    refine key _ ?_
    unfold scE
    rw [if_pos h]
    simp
  · rw [if_neg h]
    refine key _ ?_
    unfold scE
    rw [if_neg h]
    simp
def seE (l : List Int) (a b : Int) : Int := first3 (missE a l.length) (missE b l.length) (if a > b then 9 else 0)
theorem refSegErr_is (l : List Int) (h1 : 1 ≤ l.length) (hl : l.length ≤ 1000) (a b : Int) : Fglidepathref08_SegmentErr [.list l.length (encI l), .agg [.int .i64 a, .int .i64 b]] = some (seE l a b) := by
  refine Fglidepathref08_SegmentErr_of _ _ _ _ ?_
  unfold tglidepathref08_SegmentErr seE first3 missE
  have w1 : w64 ((l.length : Int) - 1) = (l.length : Int) - 1 := w64_in (by omega)
  simp only [w1, within_is, bindO_val, bif_dec]
  by_cases ha : 0 ≤ a ∧ a ≤ (l.length : Int) - 1
  · rw [if_pos ha, if_neg (c := a < 0 ∨ (l.length : Int) ≤ a) (by omega), if_neg (c := (0 : Int) ≠ 0) (by simp)]
    by_cases hb : 0 ≤ b ∧ b ≤ (l.length : Int) - 1
    · rw [if_pos hb, if_neg (c := b < 0 ∨ (l.length : Int) ≤ b) (by omega), if_neg (c := (0 : Int) ≠ 0) (by simp)]
      by_cases h : a > b
      · rw [if_pos h, if_pos h]
      · rw [if_neg h, if_neg h]
    · rw [if_neg hb, if_pos (c := b < 0 ∨ (l.length : Int) ≤ b) (by omega), if_pos (c := (6 : Int) ≠ 0) (by decide)]
  · rw [if_neg ha, if_pos (c := a < 0 ∨ (l.length : Int) ≤ a) (by omega), if_pos (c := (6 : Int) ≠ 0) (by decide)]
theorem scE_eq (l : List Int) (a b : Int) : scE l a b = if profE l = 0 then seE l a b else profE l := by
  unfold scE seE first4 first3
  by_cases h : profE l = 0
  · rw [if_neg (by simp [h]), if_pos h]
  · rw [if_pos h, if_neg h]

theorem segmentsE_is {l : List Int} (hl : l.length < 4294967296) {pen : Int} (h : both (profE l) (rangeE pen 0 1000000) ≠ 0) :
    Fcloud_SegmentsOf [.list l.length (encI l), .int .i64 pen] = some ((0, []), (0, both (profE l) (rangeE pen 0 1000000))) := by
  refine Fcloud_SegmentsOf_of _ _ _ ?_
  unfold tcloud_SegmentsOf
  have c55 := profileError_is l hl
  simp only [c55, penaltyError_is, firstError2_is, bindO_val, bif_ne]
  rw [if_neg h]
theorem potentialsE_is {l : List Int} (hl : l.length < 4294967296) {pen : Int} (h : both (profE l) (rangeE pen 0 1000000) ≠ 0) :
    Fcloud_PotentialsOf [.list l.length (encI l), .int .i64 pen] = some ((0, []), both (profE l) (rangeE pen 0 1000000)) := by
  refine Fcloud_PotentialsOf_of _ _ _ ?_
  unfold tcloud_PotentialsOf
  have c55 := profileError_is l hl
  simp only [c55, penaltyError_is, firstError2_is, bindO_val, bif_ne]
  rw [if_neg h]
end Gv
