import Derived.Test.YtggnifebabjoiaaS18

/- What is certain of losses: the greatest pair, profiles with other ranges, ramps. -/
namespace Gv
open Go
set_option maxRecDepth 100000
theorem rowP_iff (l : List Z3) (len : Int) (i : Nat) : ∀ (m k : Nat) (p : Nat × Nat), p ∈ rowP l len i m k ↔ p.1 = i ∧ k ≤ p.2 ∧ p.2 < k + m ∧ (gtA l p.2).1 - (gtA l i).1 ≤ len
  | 0, k, p => by simp [rowP]; omega
  | m + 1, k, p => by
    simp only [rowP]
    have ih := rowP_iff l len i m (k + 1) p
    by_cases hc : (gtA l k).1 - (gtA l i).1 ≤ len
    · rw [if_pos hc, List.mem_cons, ih]
      constructor
      · rintro (rfl | ⟨h1, h2, h3, h4⟩)
        · exact ⟨rfl, Nat.le_refl _, by omega, hc⟩
        · exact ⟨h1, by omega, by omega, h4⟩
      · rintro ⟨h1, h2, h3, h4⟩
        by_cases hk : p.2 = k
        · exact .inl (by rw [← h1, ← hk])
        · exact .inr ⟨h1, by omega, by omega, h4⟩
    · rw [if_neg hc, ih]
      constructor
      · rintro ⟨h1, h2, h3, h4⟩
        exact ⟨h1, by omega, by omega, h4⟩
      · rintro ⟨h1, h2, h3, h4⟩
        refine ⟨h1, ?_, by omega, h4⟩
        by_cases hk : p.2 = k
        · rw [hk] at h4; exact absurd h4 hc
        · omega
theorem prsP_iff (l : List Z3) (len : Int) : ∀ (m i : Nat), i + m = l.length → ∀ p : Nat × Nat, p ∈ prsP l len m i ↔ i ≤ p.1 ∧ p.1 < p.2 ∧ p.2 < l.length ∧ (gtA l p.2).1 - (gtA l p.1).1 ≤ len
  | 0, i, h, p => by simp [prsP]; omega
  | m + 1, i, h, p => by
    simp only [prsP, List.mem_append, rowP_iff, prsP_iff l len m (i + 1) (by omega) p]
    constructor
    · rintro (⟨h1, h2, h3, h4⟩ | ⟨h1, h2, h3, h4⟩)
      · rw [h1]; exact ⟨Nat.le_refl _, by omega, by omega, h4⟩
      · exact ⟨by omega, h2, h3, h4⟩
    · rintro ⟨h1, h2, h3, h4⟩
      by_cases hc : p.1 = i
      · exact .inl ⟨hc, by omega, by omega, by rw [← hc]; exact h4⟩
      · exact .inr ⟨by omega, h2, h3, h4⟩
def valP (l : List Z3) (gain : Bool) (p : Nat × Nat) : Bst := (true, (p.1 : Int), (p.2 : Int), (chV gain (gtA l p.1) (gtA l p.2)).1, (chV gain (gtA l p.1) (gtA l p.2)).2)
theorem gS_fold (l : List Z3) (gain up : Bool) : ∀ (P : List (Nat × Nat)) (s : Bst),
    (s.1 = true ∨ P ≠ [] → (P.foldl (gS l gain up) s).1 = true) ∧ (P.foldl (gS l gain up) s = s ∨ ∃ p ∈ P, P.foldl (gS l gain up) s = valP l gain p) ∧
    (s.1 = true → keyV up s.2.2.2 ≤ keyV up (P.foldl (gS l gain up) s).2.2.2) ∧ ∀ q ∈ P, keyV up (chV gain (gtA l q.1) (gtA l q.2)) ≤ keyV up (P.foldl (gS l gain up) s).2.2.2
  | [], s => ⟨fun h => h.resolve_right (by simp), .inl rfl, fun _ => Int.le_refl _, by simp⟩
  | p :: P, s => by
    obtain ⟨h1, h2, h3, h4⟩ := gS_fold l gain up P (gS l gain up s p)
    rw [List.foldl_cons]
    have ht : (gS l gain up s p).1 = true := by
      unfold gS
      split
      · rfl
      · rename_i h
        cases hb : s.1 with
        | true => rfl
        | false => exact absurd (.inl hb) h
    have h3 := h3 ht
    have hv : gS l gain up s p = s ∨ gS l gain up s p = valP l gain p := by
      unfold gS
      split
      · exact .inr rfl
      · exact .inl rfl
    have hp : keyV up (chV gain (gtA l p.1) (gtA l p.2)) ≤ keyV up (gS l gain up s p).2.2.2 := by
      unfold gS
      split
      · exact Int.le_refl _
      · rename_i h
        have : ¬ keyV up s.2.2.2 < keyV up (chV gain (gtA l p.1) (gtA l p.2)) := fun hc => h (.inr hc)
        omega
    refine ⟨fun _ => h1 (.inl ht), ?_, fun hs => ?_, fun q hq => ?_⟩
    · rcases h2 with h2 | ⟨q, hq, h2⟩
      · rcases hv with hv | hv
        · exact .inl (h2.trans hv)
        · exact .inr ⟨p, by simp, h2.trans hv⟩
      · exact .inr ⟨q, by simp [hq], h2⟩
    · have : keyV up s.2.2.2 ≤ keyV up (gS l gain up s p).2.2.2 := by
        unfold gS
        split
        · rename_i h
          rcases h with h | h
          · rw [hs] at h; cases h
          · exact Int.le_of_lt h
        · exact Int.le_refl _
      omega
    · rcases List.mem_cons.1 hq with rfl | hq
      · omega
      · exact h4 q hq
def Near (l : List Z3) (len : Int) (i k : Nat) : Prop := i < k ∧ k < l.length ∧ (gtA l k).1 - (gtA l i).1 ≤ len
theorem near_mem {l : List Z3} {len : Int} {p : Nat × Nat} : p ∈ prsP l len l.length 0 ↔ Near l len p.1 p.2 := by
  rw [prsP_iff l len l.length 0 (by omega)]
  unfold Near
  omega
theorem gV_none {l : List Z3} {len : Int} {gain up : Bool} (h : (gV l len gain up).1 = false) : ∀ i k, ¬ Near l len i k := by
  intro i k hn
  have := (gS_fold l gain up (prsP l len l.length 0) (false, 0, 0, 0, 0)).1 (.inr (by
    intro e
    have hm : (i, k) ∈ prsP l len l.length 0 := near_mem.2 hn
    rw [e] at hm
    cases hm))
  rw [show (gV l len gain up).1 = true from this] at h
  cases h
theorem gV_some {l : List Z3} {len : Int} {gain up : Bool} (h : (gV l len gain up).1 = true) : ∃ i k, Near l len i k ∧ gV l len gain up = valP l gain (i, k) ∧ ∀ i' k', Near l len i' k' → keyV up (chV gain (gtA l i') (gtA l k')) ≤ keyV up (gV l len gain up).2.2.2 := by
  obtain ⟨_, h2, _, h4⟩ := gS_fold l gain up (prsP l len l.length 0) (false, 0, 0, 0, 0)
  have h4' : ∀ i' k', Near l len i' k' → keyV up (chV gain (gtA l i') (gtA l k')) ≤ keyV up (gV l len gain up).2.2.2 := fun i' k' hn => h4 (i', k') (near_mem.2 hn)
  rcases h2 with h2 | ⟨p, hp, h2⟩
  · rw [show gV l len gain up = (false, 0, 0, 0, 0) from h2] at h
    cases h
  · exact ⟨p.1, p.2, near_mem.1 hp, h2, h4'⟩
theorem gV_iff {l l' : List Z3} {len : Int} {gain up gain' up' : Bool} (h : ∀ i k, Near l len i k → Near l' len i k) (hf : (gV l len gain up).1 = true) : (gV l' len gain' up').1 = true := by
  obtain ⟨i, k, hn, _⟩ := gV_some hf
  cases hb : (gV l' len gain' up').1 with
  | true => rfl
  | false => exact absurd (h i k hn) (gV_none hb i k)
def SameAt (l l' : List Z3) : Prop := l.length = l'.length ∧ ∀ k, (gtA l' k).1 = (gtA l k).1
theorem near_same {l l' : List Z3} (h : SameAt l l') {len : Int} {i k : Nat} : Near l' len i k ↔ Near l len i k := by
  unfold Near
  rw [h.2, h.2, ← h.1]
theorem rowP_same {l l' : List Z3} (h : SameAt l l') (len : Int) (i : Nat) : ∀ m k, rowP l' len i m k = rowP l len i m k
  | 0, _ => rfl
  | m + 1, k => by simp only [rowP, h.2, rowP_same h len i m (k + 1)]
theorem prsP_same {l l' : List Z3} (h : SameAt l l') (len : Int) : ∀ m i, prsP l' len m i = prsP l len m i
  | 0, _ => rfl
  | m + 1, i => by simp only [prsP, rowP_same h, prsP_same h len m (i + 1), ← h.1]
theorem gV_same {l l' : List Z3} (h : SameAt l l') {len : Int} {gain gain' up : Bool} (hc : ∀ i k, chV gain' (gtA l' i) (gtA l' k) = chV gain (gtA l i) (gtA l k)) : gV l' len gain' up = gV l len gain up := by
  unfold gV
  rw [prsP_same h, ← h.1]
  congr 1
  funext s p
  simp only [gS, hc]
def Rmp (l : List Z3) (lim : Int) (i : Nat) (out : List ZZ) : Prop := out.Pairwise (fun z w => z.2 < w.1) ∧
  ∀ z ∈ out, 0 ≤ z.1 ∧ z.1 < z.2 ∧ z.2 < (i : Int) ∧ ∀ j : Nat, z.1 < (j : Int) → (j : Int) ≤ z.2 → lim ≤ (lossV (gtA l (j - 1)) (gtA l j)).1
theorem addR_ok {l : List Z3} {lim : Int} {i : Nat} {out : List ZZ} (hi : 1 ≤ i) (h : Rmp l lim i out) (hl : lim ≤ (lossV (gtA l (i - 1)) (gtA l i)).1) : Rmp l lim (i + 1) (addR out i) := by
  have hnew : ∀ j : Nat, (i : Int) - 1 < (j : Int) → (j : Int) ≤ (i : Int) → lim ≤ (lossV (gtA l (j - 1)) (gtA l j)).1 := fun j h1 h2 => by
    have : j = i := by omega
    rw [this]; exact hl
  by_cases hO : out = []
  · subst hO
    refine ⟨List.pairwise_singleton _ _, fun z hz => ?_⟩
    have : z = ((i : Int) - 1, (i : Int)) := by simpa [addR] using hz
    subst this
    exact ⟨by simp only; omega, by simp only; omega, by simp only; omega, fun j h1 h2 => hnew j h1 h2⟩
  · obtain ⟨pre, z, rfl⟩ : ∃ pre z, out = pre ++ [z] := ⟨out.dropLast, out.getLast hO, (List.dropLast_concat_getLast hO).symm⟩
    obtain ⟨h1, h2⟩ := h
    have hp := List.pairwise_append.1 h1
    have hz := h2 z (by simp)
    rw [addR_snoc]
    split
    · rename_i he
      refine ⟨List.pairwise_append.2 ⟨hp.1, List.pairwise_singleton _ _, fun a ha b hb => ?_⟩, fun w hw => ?_⟩
      · have : b = (z.1, (i : Int)) := by simpa using hb
        subst this
        exact hp.2.2 a ha z (by simp)
      · rcases List.mem_append.1 hw with hw | hw
        · have := h2 w (by simp [hw])
          exact ⟨this.1, this.2.1, by omega, this.2.2.2⟩
        · have : w = (z.1, (i : Int)) := by simpa using hw
          subst this
          refine ⟨hz.1, by simp only; omega, by simp only; omega, fun j k1 k2 => ?_⟩
          by_cases hj : (j : Int) ≤ z.2
          · exact hz.2.2.2 j k1 hj
          · exact hnew j (by omega) k2
    · rename_i he
      refine ⟨List.pairwise_append.2 ⟨h1, List.pairwise_singleton _ _, fun a ha b hb => ?_⟩, fun w hw => ?_⟩
      · have : b = ((i : Int) - 1, (i : Int)) := by simpa using hb
        subst this
        show a.2 < (i : Int) - 1
        rcases List.mem_append.1 ha with ha | ha
        · have := hp.2.2 a ha z (by simp)
          omega
        · have : a = z := by simpa using ha
          subst this
          omega
      · rcases List.mem_append.1 hw with hw | hw
        · have := h2 w hw
          exact ⟨this.1, this.2.1, by omega, this.2.2.2⟩
        · have : w = ((i : Int) - 1, (i : Int)) := by simpa using hw
          subst this
          exact ⟨by simp only; omega, by simp only; omega, by simp only; omega, fun j k1 k2 => hnew j k1 k2⟩
theorem rmF_ok (l : List Z3) (lim : Int) : ∀ (m i : Nat) (out : List ZZ), 1 ≤ i → Rmp l lim i out → Rmp l lim (i + m) (rmF l lim m i out)
  | 0, _, _, _, h => h
  | m + 1, i, out, hi, h => by
    simp only [rmF]
    have : i + (m + 1) = i + 1 + m := by omega
    rw [this]
    refine rmF_ok l lim m (i + 1) _ (by omega) ?_
    split
    · exact ⟨h.1, fun z hz => by
        have := h.2 z hz
        exact ⟨this.1, this.2.1, by omega, this.2.2.2⟩⟩
    · rename_i hc
      exact addR_ok hi h (by omega)
theorem rmV_ok (l : List Z3) (lim : Int) : Rmp l lim l.length (rmV l lim) ∧ (rmV l lim).length ≤ l.length := by
  refine ⟨?_, ?_⟩
  · by_cases hl : l.length = 0
    · have : l = [] := List.length_eq_zero_iff.1 hl
      subst this
      exact ⟨.nil, by simp [rmV, rmF]⟩
    · have := rmF_ok l lim (l.length - 1) 1 [] (Nat.le_refl 1) ⟨.nil, by simp⟩
      rw [show 1 + (l.length - 1) = l.length by omega] at this
      exact this
  · have := rmF_len l lim (l.length - 1) 1 []
    unfold rmV
    simp only [List.length_nil] at this
    omega
theorem fall_sum (tr : Nat → Int) (lim : Int) (a : Nat) : ∀ n : Nat, (∀ j, a < j → j ≤ a + n → lim ≤ tr (j - 1) - tr j) → lim * n ≤ tr a - tr (a + n)
  | 0, _ => by simp
  | n + 1, h => by
    have ih := fall_sum tr lim a n fun j h1 h2 => h j h1 (by omega)
    have h1 := h (a + n + 1) (by omega) (by omega)
    have e : lim * ((n + 1 : Nat) : Int) = lim * (n : Int) + lim := by
      rw [Int.natCast_add, Int.mul_add]
      simp
    rw [e]
    simp only [Nat.add_sub_cancel] at h1
    have e2 : a + (n + 1) = a + n + 1 := by omega
    rw [e2]
    omega
end Gv

/- Certified losses: true headwinds, narrower and wider profiles, the opposite one. -/
namespace Gv
open Go
set_option maxRecDepth 100000
theorem gtF_none : ∀ {l : List Z3} {b : Int} {i : Nat}, AscG l b → gtF l b i = none
  | [], _, _, _ => rfl
  | e :: l, b, i, h => by
    obtain ⟨h1, h2, h3⟩ := h
    simp only [gtF]
    rw [if_neg (by simpa using h2), if_neg (by omega)]
    exact gtF_none h3
theorem gtsE_asc {l : List Z3} (h : AscG l (-1)) (hl : l.length ≤ 20) : gtsE l = 0 := by
  unfold gtsE gtsV
  rw [if_neg (by omega), gtF_none h]
  rfl
theorem gateE_mk {a x y : Int} (h1 : 0 ≤ a ∧ a ≤ 50000) (h2 : -10000 ≤ x) (h3 : x ≤ y) (h4 : y ≤ 10000) : gateE (a, x, y) = 0 := by
  show both (rangeE a 0 50000) (endE (-10000) 10000 x y) = 0
  rw [rangeE_in h1, both_zero rfl, endE_of, if_pos (by omega), if_neg (by omega)]
theorem ascG_map {f : Z3 → Z3} (h1 : ∀ z, (f z).1 = z.1) (h2 : ∀ z, gateE z = 0 → gateE (f z) = 0) : ∀ {l : List Z3} {b : Int}, AscG l b → AscG (l.map f) b
  | [], _, _ => trivial
  | z :: l, b, h => by
    obtain ⟨k1, k2, k3⟩ := h
    exact ⟨by rw [h1]; exact k1, h2 z k2, by rw [h1]; exact ascG_map h1 h2 k3⟩
theorem ascG_set : ∀ {l : List Z3} {b : Int} {i : Nat} {e : Z3}, AscG l b → l[i]? = some e → ∀ {w : Z3}, w.1 = e.1 → gateE w = 0 → AscG (l.set i w) b
  | [], _, _, _, _, he, _, _, _ => by simp at he
  | z :: l, b, 0, e, h, he, w, h1, h2 => by
    have : z = e := by simpa using he
    subst this
    obtain ⟨k1, k2, k3⟩ := h
    exact ⟨by rw [h1]; exact k1, h2, by rw [h1]; exact k3⟩
  | z :: l, b, i + 1, e, h, he, w, h1, h2 => by
    obtain ⟨k1, k2, k3⟩ := h
    exact ⟨k1, k2, ascG_set k3 (by simpa using he) h1 h2⟩
theorem gtA_map {f : Z3 → Z3} (l : List Z3) (h0 : f (0, 0, 0) = (0, 0, 0)) (i : Nat) : gtA (l.map f) i = f (gtA l i) := by
  unfold gtA
  rw [List.getElem?_map]
  cases l[i]? with
  | none => exact h0.symm
  | some z => rfl
theorem gtA_map1 {f : Z3 → Z3} (l : List Z3) (h1 : ∀ z, (f z).1 = z.1) (i : Nat) : (gtA (l.map f) i).1 = (gtA l i).1 := by
  unfold gtA
  rw [List.getElem?_map]
  cases l[i]? with
  | none => rfl
  | some z => exact h1 z
theorem gtA_mapIn {f : Z3 → Z3} {l : List Z3} {i : Nat} (hi : i < l.length) : gtA (l.map f) i = f (gtA l i) := by
  unfold gtA
  rw [List.getElem?_map, List.getElem?_eq_getElem hi]
  rfl
theorem gtA_set (l : List Z3) (i : Nat) (w : Z3) (hi : i < l.length) (k : Nat) : gtA (l.set i w) k = if k = i then w else gtA l k := by
  unfold gtA
  rw [List.getElem?_set]
  by_cases h : k = i
  · subst h
    rw [if_pos rfl, if_pos rfl, if_pos hi]
    rfl
  · rw [if_neg (fun e => h e.symm), if_neg h]
def oppG (z : Z3) : Z3 := (z.1, -z.2.2, -z.2.1)
def wideG (z : Z3) : Z3 := (z.1, (if z.2.1 - 3 > -10000 then z.2.1 - 3 else -10000), (if z.2.2 + 3 < 10000 then z.2.2 + 3 else 10000))
theorem opp_gate (z : Z3) (h : gateE z = 0) : gateE (oppG z) = 0 := by
  obtain ⟨a, b, c⟩ := z
  have := gateE_ok h
  simp only at this
  show gateE (a, -c, -b) = 0
  exact gateE_mk (by omega) (by omega) (by omega) (by omega)
theorem wide_gate (z : Z3) (h : gateE z = 0) : gateE (wideG z) = 0 := by
  obtain ⟨a, b, c⟩ := z
  have := gateE_ok h
  simp only at this
  unfold wideG
  refine gateE_mk (by omega) ?_ ?_ ?_ <;> simp only <;> split <;> (try split) <;> omega
theorem opp_same (l : List Z3) (len : Int) (up : Bool) : gV (l.map oppG) len true up = gV l len false up := by
  refine gV_same (l' := l.map oppG) ⟨by simp, fun k => gtA_map1 (f := oppG) l (fun _ => rfl) k⟩ fun i k => ?_
  rw [gtA_map l rfl, gtA_map l rfl]
  generalize gtA l i = a
  generalize gtA l k = b
  simp only [chV, if_true, Bool.false_eq_true, if_false, oppV, lossV, oppG]
  refine Prod.ext ?_ ?_ <;> simp only <;> omega
section
variable {l : List Z3} {len : Int} (ha : AscG l (-1))
include ha
theorem gate_at {i : Nat} (hi : i < l.length) : gateE (gtA l i) = 0 := by
  have e1 := List.getElem?_eq_getElem hi
  rw [gtA_of e1]
  exact (asc_low ha e1).2
theorem wide_less (hc : (gV l len false false).1 = true) : (gV (l.map wideG) len false false).1 = true ∧ (gV (l.map wideG) len false false).2.2.2.1 ≤ (gV l len false false).2.2.2.1 := by
  have hs : SameAt l (l.map wideG) := ⟨by simp, fun k => gtA_map1 (f := wideG) l (fun _ => rfl) k⟩
  have hw : (gV (l.map wideG) len false false).1 = true := gV_iff (fun i k h => (near_same hs).2 h) hc
  refine ⟨hw, ?_⟩
  obtain ⟨i, k, hn, hv, hm⟩ := gV_some hw
  obtain ⟨_, _, _, _, hm'⟩ := gV_some hc
  have hn' := (near_same hs).1 hn
  have h1 := hm' i k hn'
  have hi : i < l.length := Nat.lt_trans hn'.1 hn'.2.1
  have g1 := gateE_ok (gate_at ha hi)
  have g2 := gateE_ok (gate_at ha hn'.2.1)
  rw [hv]
  show (lossV (gtA (l.map wideG) i) (gtA (l.map wideG) k)).1 ≤ _
  rw [gtA_mapIn hi, gtA_mapIn hn'.2.1]
  have h1 : (lossV (gtA l i) (gtA l k)).1 ≤ (gV l len false false).2.2.2.1 := h1
  refine Int.le_trans ?_ h1
  simp only [lossV, wideG]
  split <;> split <;> omega
omit ha in
theorem narrow_more {i k : Nat} (hn : Near l len i k) (hv : gV l len false false = valP l false (i, k)) {x : Int} (hx : (gtA l i).2.1 ≤ x ∧ x ≤ (gtA l i).2.2) :
    (gV (l.set i ((gtA l i).1, x, x)) len false false).1 = true ∧ (gV l len false false).2.2.2.1 ≤ (gV (l.set i ((gtA l i).1, x, x)) len false false).2.2.2.1 := by
  have hi : i < l.length := Nat.lt_trans hn.1 hn.2.1
  have hs : SameAt l (l.set i ((gtA l i).1, x, x)) := ⟨by simp, fun j => by
    rw [gtA_set l i _ hi]
    split
    · rename_i h; rw [h]
    · rfl⟩
  have hc : (gV l len false false).1 = true := by rw [hv]; rfl
  have hw : (gV (l.set i ((gtA l i).1, x, x)) len false false).1 = true := gV_iff (fun i k h => (near_same hs).2 h) hc
  refine ⟨hw, ?_⟩
  obtain ⟨_, _, _, _, hm⟩ := gV_some hw
  have h1 := hm i k ((near_same hs).2 hn)
  have h1 : (lossV (gtA (l.set i ((gtA l i).1, x, x)) i) (gtA (l.set i ((gtA l i).1, x, x)) k)).1 ≤ (gV (l.set i ((gtA l i).1, x, x)) len false false).2.2.2.1 := h1
  refine Int.le_trans ?_ h1
  rw [gtA_set l i _ hi, gtA_set l i _ hi, if_pos rfl, if_neg (by have := hn.1; omega), hv]
  show (lossV (gtA l i) (gtA l k)).1 ≤ _
  simp only [lossV]
  omega
theorem narrow_asc {i : Nat} (hi : i < l.length) {x : Int} (hx : (gtA l i).2.1 ≤ x ∧ x ≤ (gtA l i).2.2) : AscG (l.set i ((gtA l i).1, x, x)) (-1) := by
  have g := gateE_ok (gate_at ha hi)
  have e1 := List.getElem?_eq_getElem hi
  exact ascG_set ha e1 (by rw [gtA_of e1]) (gateE_mk (by omega) (by omega) (Int.le_refl _) (by omega))
omit ha in
theorem truth_in {i k : Nat} (hn : Near l len i k) {tr : Nat → Int} (ht : ∀ j, j < l.length → (gtA l j).2.1 ≤ tr j ∧ tr j ≤ (gtA l j).2.2) : (lossV (gtA l i) (gtA l k)).1 ≤ tr i - tr k ∧ tr i - tr k ≤ (lossV (gtA l i) (gtA l k)).2 := by
  have h1 := ht i (Nat.lt_trans hn.1 hn.2.1)
  have h2 := ht k hn.2.1
  simp only [lossV]
  omega
omit ha in
theorem possible_most (hc : (gV l len false false).1 = true) : (gV l len false true).1 = true ∧ (∀ i k, Near l len i k → (lossV (gtA l i) (gtA l k)).2 ≤ (gV l len false true).2.2.2.2) := by
  have hw : (gV l len false true).1 = true := gV_iff (fun i k h => h) hc
  obtain ⟨_, _, _, _, hm⟩ := gV_some hw
  exact ⟨hw, fun i k hn => hm i k hn⟩
end
theorem ramp_falls {l : List Z3} {lim : Int} {z : ZZ} (hz : z ∈ rmV l lim) {tr : Nat → Int} (ht : ∀ j, j < l.length → (gtA l j).2.1 ≤ tr j ∧ tr j ≤ (gtA l j).2.2) :
    0 ≤ z.1 ∧ z.1 < z.2 ∧ z.2 < (l.length : Int) ∧ lim * (z.2 - z.1) ≤ tr z.1.toNat - tr z.2.toNat := by
  obtain ⟨h1, h2, h3, h4⟩ := (rmV_ok l lim).1.2 z hz
  refine ⟨h1, h2, h3, ?_⟩
  have hf := fall_sum tr lim z.1.toNat (z.2 - z.1).toNat fun j k1 k2 => by
    have := h4 j (by omega) (by omega)
    have a1 := ht (j - 1) (by omega)
    have a2 := ht j (by omega)
    simp only [lossV] at this
    omega
  have e1 : z.1.toNat + (z.2 - z.1).toNat = z.2.toNat := by omega
  have e2 : (((z.2 - z.1).toNat : Nat) : Int) = z.2 - z.1 := by omega
  rw [e1, e2] at hf
  exact hf
end Gv

/- True headwinds, and profiles that are changed gate by gate. -/
namespace Gv
open Go
set_option maxRecDepth 100000
theorem over_at2 (A B : List Z3) (e : Z3) (x y : Int) : over (encT (A ++ e :: B)) (A.length * 3 + 1) [.int .i64 x, .int .i64 y] = encT (A ++ (e.1, x, y) :: B) := by
  unfold over
  have e1 : encT (A ++ e :: B) = (encT A ++ [PV.int .i64 e.1]) ++ (.int .i64 e.2.1 :: .int .i64 e.2.2 :: encT B) := by simp [encT, enc3]
  have hl : (encT A ++ [PV.int .i64 e.1]).length = A.length * 3 + 1 := by simp [encT_len]
  rw [e1, List.take_left' hl]
  have e2 : ((encT A ++ [PV.int .i64 e.1]) ++ (.int .i64 e.2.1 :: .int .i64 e.2.2 :: encT B)).drop (A.length * 3 + 1 + [PV.int .i64 x, PV.int .i64 y].length) = encT B := by
    rw [show (encT A ++ [PV.int .i64 e.1]) ++ (.int .i64 e.2.1 :: .int .i64 e.2.2 :: encT B) = (encT A ++ [PV.int .i64 e.1, .int .i64 e.2.1, .int .i64 e.2.2]) ++ encT B by simp]
    exact List.drop_left' (by simp [encT_len])
  rw [e2]
  simp [encT, enc3]
theorem overO_at2 (A B : List Z3) (e : Z3) (x y : Int) : overO (encT (A ++ e :: B)) (A.length * 3 + 1) [.int .i64 x, .int .i64 y] = some (encT (A ++ (e.1, x, y) :: B)) := by
  rw [overO_of (by rw [encT_len]; simp; omega), over_at2]
theorem overO_set {l : List Z3} {i : Nat} (hi : i < l.length) (x y : Int) : overO (encT l) (i * 3 + 1) [.int .i64 x, .int .i64 y] = some (encT (l.set i ((gtA l i).1, x, y))) := by
  obtain ⟨e, he, hd⟩ := get_drop hi
  have h := overO_at2 (l.take i) (l.drop (i + 1)) e x y
  have hl : (l.take i).length = i := by simp; omega
  rw [hl, ← hd, List.take_append_drop] at h
  rw [h, gtA_of he, List.set_eq_take_append_cons_drop, if_pos hi]
def mixT (f : Z3 → Z3) (l : List Z3) (i : Nat) : List Z3 := (l.take i).map f ++ l.drop i
theorem mixT_zero (f : Z3 → Z3) (l : List Z3) : mixT f l 0 = l := by simp [mixT]
theorem mixT_all (f : Z3 → Z3) (l : List Z3) : mixT f l l.length = l.map f := by simp [mixT]
theorem mixT_step {f : Z3 → Z3} (hf : ∀ z, (f z).1 = z.1) {l : List Z3} {i : Nat} (hi : i < l.length) : overO (encT (mixT f l i)) (i * 3 + 1) [.int .i64 (f (gtA l i)).2.1, .int .i64 (f (gtA l i)).2.2] = some (encT (mixT f l (i + 1))) := by
  obtain ⟨e, he, hd⟩ := get_drop hi
  have h := overO_at2 ((l.take i).map f) (l.drop (i + 1)) e (f (gtA l i)).2.1 (f (gtA l i)).2.2
  have hl : ((l.take i).map f).length = i := by simp; omega
  rw [hl, ← hd] at h
  have e1 : mixT f l i = (l.take i).map f ++ l.drop i := rfl
  rw [e1, h, gtA_of he]
  have e2 : mixT f l (i + 1) = (l.take i).map f ++ f e :: l.drop (i + 1) := by
    unfold mixT
    rw [List.take_add_one, he]
    simp
  rw [e2]
  have : (e.1, (f e).2.1, (f e).2.2) = f e := by rw [← hf e]
  rw [this]
def trV (l : List Z3) (ps : List Int) (i : Nat) : Int := (gtA l i).2.1 + if i < ps.length then (ps[i]?.getD 0) % ((gtA l i).2.2 - (gtA l i).2.1 + 1) else 0
theorem trV_in {l : List Z3} (ha : AscG l (-1)) (ps : List Int) : ∀ j, j < l.length → (gtA l j).2.1 ≤ trV l ps j ∧ trV l ps j ≤ (gtA l j).2.2 := by
  intro j hj
  have g := gateE_ok (gate_at ha hj)
  unfold trV
  split
  · have h1 := Int.emod_nonneg (ps[j]?.getD 0) (show (gtA l j).2.2 - (gtA l j).2.1 + 1 ≠ 0 by omega)
    have h2 := Int.emod_lt_of_pos (ps[j]?.getD 0) (show 0 < (gtA l j).2.2 - (gtA l j).2.1 + 1 by omega)
    omega
  · omega
def trL (l : List Z3) (ps : List Int) (i : Nat) : List Int := (List.range i).map (trV l ps)
theorem trL_succ (l : List Z3) (ps : List Int) (i : Nat) : trL l ps (i + 1) = trL l ps i ++ [trV l ps i] := by simp [trL, List.range_succ]
theorem trL_get (l : List Z3) (ps : List Int) {n j : Nat} (hj : j < n) : (trL l ps n)[j]? = some (trV l ps j) := by simp [trL, hj]
end Gv
