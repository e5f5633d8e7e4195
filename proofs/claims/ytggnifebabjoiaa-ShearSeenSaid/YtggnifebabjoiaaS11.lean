/- Stretches of positions: one by one, and by gates. -/
import Derived.Test.YtggnifebabjoiaaS9
namespace Gv
open Go
set_option maxRecDepth 100000
def addP : List ZZ → Int → List ZZ
  | [], a => [(a, a)]
  | [z], a => if z.2 = a - 1 then [(z.1, a)] else [z, (a, a)]
  | z :: w :: l, a => z :: addP (w :: l) a
theorem addP_snoc : ∀ (pre : List ZZ) (z : ZZ) (a : Int), addP (pre ++ [z]) a = if z.2 = a - 1 then pre ++ [(z.1, a)] else pre ++ [z] ++ [(a, a)]
  | [], z, a => by simp only [List.nil_append, addP]; split <;> rfl
  | [w], z, a => by simp only [List.cons_append, List.nil_append, addP]; split <;> rfl
  | w :: v :: pre, z, a => by
    have := addP_snoc (v :: pre) z a
    simp only [List.cons_append, addP] at *
    rw [this]
    split <;> rfl
theorem snocG {l : List ZZ} (h : l ≠ []) : ∃ pre z, l = pre ++ [z] := ⟨l.dropLast, l.getLast h, (List.dropLast_concat_getLast h).symm⟩
def refF (p : Int → Bool) : Nat → Int → List ZZ → List ZZ
  | 0, _, out => out
  | n + 1, a, out => refF p n (a + 1) (if p a = true then addP out a else out)
def nf (hi a : Int) : Nat := (hi + 1 - a).toNat
def Sep (out : List ZZ) (a : Int) : Prop := ∀ pre z, out = pre ++ [z] → z.2 < a - 1
theorem ref_skip (p : Int → Bool) (hi : Int) (out : List ZZ) : ∀ (k : Nat) (a : Int), (∀ x, a ≤ x → x < a + k → x ≤ hi → p x = false) → refF p (nf hi a) a out = refF p (nf hi (a + k)) (a + k) out
  | 0, a, _ => by simp
  | k + 1, a, h => by
    by_cases hc : a ≤ hi
    · have e1 : nf hi a = nf hi (a + 1) + 1 := by unfold nf; omega
      rw [e1]
      simp only [refF, h a (by omega) (by omega) hc]
      rw [if_neg (by simp), ref_skip p hi out k (a + 1) (fun x h1 h2 h3 => h x (by omega) (by omega) h3)]
      rw [show a + 1 + (k : Int) = a + ((k + 1 : Nat) : Int) by omega]
    · have e1 : nf hi a = 0 := by unfold nf; omega
      have e2 : nf hi (a + ((k + 1 : Nat) : Int)) = 0 := by unfold nf; omega
      rw [e1, e2]
      rfl
theorem ref_grow (p : Int → Bool) (hi a0 : Int) (out : List ZZ) : ∀ (k : Nat) (a : Int), (∀ x, a ≤ x → x < a + k → p x = true) → a + k ≤ hi + 1 → refF p (nf hi a) a (out ++ [(a0, a - 1)]) = refF p (nf hi (a + k)) (a + k) (out ++ [(a0, a + k - 1)])
  | 0, a, _, _ => by simp
  | k + 1, a, h, hb => by
    have e1 : nf hi a = nf hi (a + 1) + 1 := by unfold nf; omega
    rw [e1]
    simp only [refF, h a (by omega) (by omega), if_true]
    rw [addP_snoc, if_pos rfl]
    have := ref_grow p hi a0 out k (a + 1) (fun x h1 h2 => h x (by omega) (by omega)) (by omega)
    rw [show a + 1 - 1 = a by omega] at this
    rw [this, show a + 1 + (k : Int) = a + ((k + 1 : Nat) : Int) by omega]
theorem ref_run (p : Int → Bool) (hi : Int) {out : List ZZ} {a m : Int} (hs : Sep out a) (h1 : a ≤ m) (h2 : m ≤ hi) (h : ∀ x, a ≤ x → x ≤ m → p x = true) :
    refF p (nf hi a) a out = refF p (nf hi (m + 1)) (m + 1) (out ++ [(a, m)]) := by
  have e1 : nf hi a = nf hi (a + 1) + 1 := by unfold nf; omega
  rw [e1]
  simp only [refF, h a (by omega) (by omega), if_true]
  have e2 : addP out a = out ++ [(a, a)] := by
    by_cases ho : out = []
    · subst ho; rfl
    · obtain ⟨pre, z, rfl⟩ := snocG ho
      have := hs pre z rfl
      rw [addP_snoc, if_neg (by omega)]
  rw [e2]
  have := ref_grow p hi a out (m - a).toNat (a + 1) (fun x h3 h4 => h x (by omega) (by omega)) (by omega)
  rw [show a + 1 - 1 = a by omega, show a + 1 + (((m - a).toNat : Nat) : Int) = m + 1 by omega, show m + 1 - 1 = m by omega] at this
  exact this
def mnI (a b : Int) : Int := if b < a then b else a
def mxI (a b : Int) : Int := if b > a then b else a
def stepB (g hi : Int) (q : Int × List ZZ) (z : Z3) : Int × List ZZ := (mxI q.1 (z.1 + g + 1), if q.1 > mnI hi (z.1 - g - 1) then q.2 else q.2 ++ [(q.1, mnI hi (z.1 - g - 1))])
def finB (hi : Int) (q : Int × List ZZ) : List ZZ := if q.1 > hi then q.2 else q.2 ++ [(q.1, hi)]
def far (g : Int) (l : List Z3) (x : Int) : Prop := ∀ z ∈ l, g < z.1 - x ∨ g < x - z.1
theorem gates_same (p : Int → Bool) {g hi : Int} (hg : 0 ≤ g) : ∀ (l : List Z3) (b next : Int) (out : List ZZ), AscG l b → (∀ x, next ≤ x → (p x = true ↔ far g l x)) → Sep out next →
    refF p (nf hi next) next out = finB hi (l.foldl (stepB g hi) (next, out))
  | [], _, next, out, _, hp, hs => by
    rw [List.foldl_nil]
    unfold finB
    dsimp only
    by_cases h : next > hi
    · rw [if_pos h, show nf hi next = 0 by unfold nf; omega]
      rfl
    · rw [if_neg h, ref_run p hi hs (show next ≤ hi by omega) (Int.le_refl hi) (fun x h1 _ => (hp x h1).2 (fun z hz => by simp at hz)), show nf hi (hi + 1) = 0 by unfold nf; omega]
      rfl
  | z :: l, b, next, out, ha, hp, hs => by
    obtain ⟨a1, a2, a3⟩ := ha
    have up : ∀ (l : List Z3) (b : Int), AscG l b → ∀ w ∈ l, b < w.1 := by
      intro l
      induction l with
      | nil => intro b _ w hw; simp at hw
      | cons a l ih =>
        intro b h w hw
        obtain ⟨h1, h2, h3⟩ := h
        rcases List.mem_cons.1 hw with rfl | hw
        · exact h1
        · have := ih a.1 h3 w hw; omega
    have hup := up l z.1 a3
    rw [List.foldl_cons]
    have hm : mnI hi (z.1 - g - 1) ≤ hi ∧ mnI hi (z.1 - g - 1) ≤ z.1 - g - 1 ∧ (mnI hi (z.1 - g - 1) = hi ∨ mnI hi (z.1 - g - 1) = z.1 - g - 1) := by unfold mnI; split <;> omega
    have hx : next ≤ mxI next (z.1 + g + 1) ∧ z.1 + g + 1 ≤ mxI next (z.1 + g + 1) ∧ (mxI next (z.1 + g + 1) = next ∨ mxI next (z.1 + g + 1) = z.1 + g + 1) := by unfold mxI; split <;> omega
    have hp' : ∀ x, mxI next (z.1 + g + 1) ≤ x → (p x = true ↔ far g l x) := fun x h => by
      rw [hp x (by omega)]
      constructor
      · intro h w hw; exact h w (by simp [hw])
      · intro h w hw
        rcases List.mem_cons.1 hw with rfl | hw
        · exact .inr (by omega)
        · exact h w hw
    have near : ∀ x, next ≤ x → z.1 - g ≤ x → x ≤ z.1 + g → p x = false := fun x h1 h2 h3 => by
      cases hpx : p x with
      | false => rfl
      | true =>
        have := (hp x h1).1 hpx z (by simp)
        omega
    rw [show stepB g hi (next, out) z = (mxI next (z.1 + g + 1), if next > mnI hi (z.1 - g - 1) then out else out ++ [(next, mnI hi (z.1 - g - 1))]) from rfl]
    generalize mnI hi (z.1 - g - 1) = m at *
    generalize mxI next (z.1 + g + 1) = n' at *
    by_cases hc : next > m
    · rw [if_pos hc]
      have hs' : Sep out n' := fun pre w e => by have := hs pre w e; omega
      rw [← gates_same p hg l z.1 n' out a3 hp' hs']
      have := ref_skip p hi out (n' - next).toNat next (fun x h1 h2 h3 => near x h1 (by omega) (by omega))
      rw [show next + (((n' - next).toNat : Nat) : Int) = n' by omega] at this
      exact this
    · rw [if_neg hc]
      have hs' : Sep (out ++ [(next, m)]) n' := fun pre w e => by
        have := List.append_inj_right' e rfl
        simp at this
        rw [← this]
        dsimp only
        omega
      rw [← gates_same p hg l z.1 n' (out ++ [(next, m)]) a3 hp' hs']
      have run := ref_run p hi hs (show next ≤ m by omega) hm.1 (fun x h1 h2 => (hp x h1).2 (fun w hw => by
        rcases List.mem_cons.1 hw with rfl | hw
        · exact .inl (by omega)
        · have := hup w hw; exact .inl (by omega)))
      rw [run]
      have := ref_skip p hi (out ++ [(next, m)]) (n' - (m + 1)).toNat (m + 1) (fun x h1 h2 h3 => near x (by omega) (by omega) (by omega))
      rw [show m + 1 + (((n' - (m + 1)).toNat : Nat) : Int) = n' by omega] at this
      exact this
def inG (l : List ZZ) (x : Int) : Prop := ∃ r ∈ l, r.1 ≤ x ∧ x ≤ r.2
theorem inG_snoc (l : List ZZ) (w : ZZ) (x : Int) : inG (l ++ [w]) x ↔ inG l x ∨ (w.1 ≤ x ∧ x ≤ w.2) := by
  unfold inG
  constructor
  · rintro ⟨r, hr, h⟩
    rcases List.mem_append.1 hr with hr | hr
    · exact .inl ⟨r, hr, h⟩
    · rw [List.mem_singleton] at hr
      subst hr
      exact .inr h
  · rintro (⟨r, hr, h⟩ | h)
    · exact ⟨r, by simp [hr], h⟩
    · exact ⟨w, by simp, h⟩
theorem addP_in {l : List ZZ} (h : ∀ r ∈ l, r.1 ≤ r.2) (a x : Int) : (inG (addP l a) x ↔ inG l x ∨ x = a) ∧ ∀ r ∈ addP l a, r.1 ≤ r.2 := by
  by_cases hl : l = []
  · subst hl
    refine ⟨?_, fun r hr => by simp [addP] at hr; subst hr; exact Int.le_refl a⟩
    have := inG_snoc [] (a, a) x
    simp only [List.nil_append] at this
    show inG [(a, a)] x ↔ _
    rw [this]
    constructor
    · rintro (h | h)
      · exact .inl h
      · exact .inr (by omega)
    · rintro (h | h)
      · exact .inl h
      · exact .inr (by omega)
  · obtain ⟨pre, z, rfl⟩ := snocG hl
    have hz := h z (by simp)
    rw [addP_snoc]
    split
    · rename_i he
      constructor
      · rw [inG_snoc, inG_snoc]
        dsimp only
        constructor
        · rintro (h | h)
          · exact .inl (.inl h)
          · by_cases hx : x = a
            · exact .inr hx
            · exact .inl (.inr (by omega))
        · rintro ((h | h) | h)
          · exact .inl h
          · exact .inr (by omega)
          · exact .inr (by omega)
      · intro r hr
        rcases List.mem_append.1 hr with hr | hr
        · exact h r (by simp [hr])
        · rw [List.mem_singleton] at hr
          subst hr
          dsimp only
          omega
    · constructor
      · rw [inG_snoc]
        dsimp only
        constructor
        · rintro (h | h)
          · exact .inl h
          · exact .inr (by omega)
        · rintro (h | h)
          · exact .inl h
          · exact .inr (by omega)
      · intro r hr
        rcases List.mem_append.1 hr with hr | hr
        · exact h r hr
        · rw [List.mem_singleton] at hr
          subst hr
          exact Int.le_refl a
theorem ref_in (p : Int → Bool) : ∀ (n : Nat) (a : Int) (out : List ZZ), (∀ r ∈ out, r.1 ≤ r.2) → (∀ x, inG (refF p n a out) x ↔ inG out x ∨ (a ≤ x ∧ x < a + n ∧ p x = true)) ∧ ∀ r ∈ refF p n a out, r.1 ≤ r.2
  | 0, a, out, h => ⟨fun x => by simp only [refF]; constructor
                                 · exact .inl
                                 · rintro (h | h)
                                   · exact h
                                   · omega, h⟩
  | n + 1, a, out, h => by
    simp only [refF]
    by_cases hp : p a = true
    · rw [if_pos hp]
      obtain ⟨h1, h2⟩ := ref_in p n (a + 1) (addP out a) (addP_in h a 0).2
      refine ⟨fun x => ?_, h2⟩
      rw [h1, (addP_in h a x).1]
      constructor
      · rintro ((h | h) | h)
        · exact .inl h
        · exact .inr ⟨by omega, by omega, by rw [h]; exact hp⟩
        · exact .inr ⟨by omega, by omega, h.2.2⟩
      · rintro (h | h)
        · exact .inl (.inl h)
        · by_cases hx : x = a
          · exact .inl (.inr hx)
          · exact .inr ⟨by omega, by omega, h.2.2⟩
    · rw [if_neg hp]
      obtain ⟨h1, h2⟩ := ref_in p n (a + 1) out h
      refine ⟨fun x => ?_, h2⟩
      rw [h1]
      constructor
      · rintro (h | h)
        · exact .inl h
        · exact .inr ⟨by omega, by omega, h.2.2⟩
      · rintro (h | h)
        · exact .inl h
        · by_cases hx : x = a
          · subst hx; exact absurd h.2.2 hp
          · exact .inr ⟨by omega, by omega, h.2.2⟩
end Gv
