/- Ranges of asked gates: plain facts. -/
import Derived.Test.YtkbahledgljaoaaGvYm
namespace Gv
abbrev Rg := Int × Int
def stepR (gap : Int) (acc : List Rg) (g : Int) : List Rg := match acc.getLast? with
  | some r => if g - r.2 - 1 ≤ gap then acc.dropLast ++ [(r.1, g)] else acc ++ [(g, g)]
  | none => [(g, g)]
def rngs (gap : Int) (p : Nat → Bool) : Nat → List Rg
  | 0 => []
  | n + 1 => if p n = true then stepR gap (rngs gap p n) n else rngs gap p n
theorem stepR_nil (gap g : Int) : stepR gap [] g = [(g, g)] := rfl
theorem stepR_in {gap : Int} {acc : List Rg} {r : Rg} {g : Int} (h : g - r.2 - 1 ≤ gap) : stepR gap (acc ++ [r]) g = acc ++ [(r.1, g)] := by
  simp [stepR, h]
theorem stepR_out {gap : Int} {acc : List Rg} {r : Rg} {g : Int} (h : ¬ g - r.2 - 1 ≤ gap) : stepR gap (acc ++ [r]) g = acc ++ [r] ++ [(g, g)] := by
  simp [stepR, h]
structure RG (gap : Int) (p : Nat → Bool) (n : Nat) (l : List Rg) : Prop where
  ends : ∀ r ∈ l, 0 ≤ r.1 ∧ r.1 ≤ r.2 ∧ r.2 < n ∧ p r.1.toNat = true ∧ p r.2.toNat = true
  sep : ∀ i r s, l[i]? = some r → l[i + 1]? = some s → r.2 + gap < s.1 - 1
  run : ∀ r ∈ l, ∀ k : Int, r.1 ≤ k → k ≤ r.2 → ∃ j : Int, r.1 ≤ j ∧ j ≤ k ∧ k - j ≤ gap ∧ p j.toNat = true
  all : ∀ g : Nat, g < n → p g = true → ∃ r ∈ l, r.1 ≤ g ∧ (g : Int) ≤ r.2
theorem list_last {α : Type} (l : List α) : l = [] ∨ ∃ a x, l = a ++ [x] := by
  rcases List.eq_nil_or_concat l with h | ⟨a, x, h⟩
  · exact .inl h
  · exact .inr ⟨a, x, by simpa using h⟩
theorem rngs_spec (gap : Int) (hg : 0 ≤ gap) (p : Nat → Bool) : ∀ n, RG gap p n (rngs gap p n)
  | 0 => ⟨by simp [rngs], by simp [rngs], by simp [rngs], by simp⟩
  | n + 1 => by
    have ih := rngs_spec gap hg p n
    by_cases hp : p n = true
    · have hq : rngs gap p (n + 1) = stepR gap (rngs gap p n) n := by simp [rngs, hp]
      rw [hq]
      rcases list_last (rngs gap p n) with h0 | ⟨a, r, h0⟩
      · rw [h0] at ih ⊢
        rw [stepR_nil]
        refine ⟨fun r hr => ?_, fun i r s h1 h2 => by simp at h2, fun r hr k h1 h2 => ?_, fun g hgn hpg => ?_⟩
        · simp at hr; subst hr
          refine ⟨by simp, by simp, by simp; omega, ?_, ?_⟩ <;> simpa using hp
        · simp at hr; subst hr
          exact ⟨n, by simp, by simp at h1; omega, by simp at h1 h2; omega, by simpa using hp⟩
        · by_cases hgn' : g < n
          · obtain ⟨r, hr, _⟩ := ih.all g hgn' hpg
            cases hr
          · have : g = n := by omega
            subst this
            exact ⟨_, List.mem_singleton.2 rfl, by simp, by simp⟩
      · rw [h0] at ih ⊢
        have hr := ih.ends r (by simp)
        by_cases hc : (n : Int) - r.2 - 1 ≤ gap
        · rw [stepR_in hc]
          refine ⟨fun s hs => ?_, fun i s t h1 h2 => ?_, fun s hs k h1 h2 => ?_, fun g hgn hpg => ?_⟩
          · rcases List.mem_append.1 hs with hs | hs
            · have := ih.ends s (by simp [hs])
              refine ⟨this.1, this.2.1, by omega, this.2.2.2⟩
            · simp at hs; subst hs
              exact ⟨hr.1, by simp; omega, by simp; omega, hr.2.2.2.1, by simpa using hp⟩
          · by_cases hi : i + 1 < a.length
            · rw [List.getElem?_append_left (by omega)] at h1
              rw [List.getElem?_append_left hi] at h2
              exact ih.sep i s t (by rw [List.getElem?_append_left (by omega)]; exact h1) (by rw [List.getElem?_append_left hi]; exact h2)
            · have hlt := (List.getElem?_eq_some_iff.1 h2).1
              simp at hlt
              have hia : i + 1 = a.length := by omega
              rw [List.getElem?_append_left (by omega)] at h1
              rw [hia] at h2
              simp at h2
              subst h2
              have := ih.sep i s r (by rw [List.getElem?_append_left (by omega)]; exact h1) (by rw [hia]; simp)
              simpa using this
          · rcases List.mem_append.1 hs with hs | hs
            · exact ih.run s (by simp [hs]) k h1 h2
            · simp at hs; subst hs
              simp at h1 h2
              by_cases hk : k ≤ r.2
              · exact ih.run r (by simp) k h1 hk
              · by_cases hkn : k = n
                · subst hkn
                  exact ⟨n, by simp; omega, by omega, by omega, by simpa using hp⟩
                · exact ⟨r.2, by simp; omega, by omega, by omega, hr.2.2.2.2⟩
          · by_cases hgn' : g < n
            · obtain ⟨s, hs, h1, h2⟩ := ih.all g hgn' hpg
              rcases List.mem_append.1 hs with hs | hs
              · exact ⟨s, by simp [hs], h1, h2⟩
              · simp at hs; subst hs
                exact ⟨(s.1, (n : Int)), List.mem_append_right _ (List.mem_singleton.2 rfl), h1, by show (g : Int) ≤ n; omega⟩
            · have : g = n := by omega
              subst this
              exact ⟨(r.1, (g : Int)), List.mem_append_right _ (List.mem_singleton.2 rfl), by show r.1 ≤ (g : Int); omega, by show (g : Int) ≤ g; omega⟩
        · rw [stepR_out hc]
          refine ⟨fun s hs => ?_, fun i s t h1 h2 => ?_, fun s hs k h1 h2 => ?_, fun g hgn hpg => ?_⟩
          · rcases List.mem_append.1 hs with hs | hs
            · have := ih.ends s hs
              exact ⟨this.1, this.2.1, by omega, this.2.2.2⟩
            · simp at hs; subst hs
              refine ⟨by simp, by simp, by simp; omega, ?_, ?_⟩ <;> simpa using hp
          · by_cases hi : i + 1 < (a ++ [r]).length
            · rw [List.getElem?_append_left (by omega)] at h1
              rw [List.getElem?_append_left hi] at h2
              exact ih.sep i s t h1 h2
            · have hlt := (List.getElem?_eq_some_iff.1 h2).1
              simp at hlt hi
              have hia : i = a.length := by omega
              rw [List.getElem?_append_left (by simp; omega), hia] at h1
              simp at h1
              subst h1
              rw [hia, List.getElem?_append_right (by simp)] at h2
              simp at h2
              subst h2
              simp; omega
          · rcases List.mem_append.1 hs with hs | hs
            · exact ih.run s hs k h1 h2
            · simp at hs; subst hs
              exact ⟨n, by simp, by simp at h1; omega, by simp at h1 h2; omega, by simpa using hp⟩
          · by_cases hgn' : g < n
            · obtain ⟨s, hs, h1, h2⟩ := ih.all g hgn' hpg
              exact ⟨s, by simp at hs ⊢; rcases hs with hs | hs <;> simp [hs], h1, h2⟩
            · have : g = n := by omega
              subst this
              exact ⟨_, List.mem_append_right _ (List.mem_singleton.2 rfl), by simp, by simp⟩
    · have hq : rngs gap p (n + 1) = rngs gap p n := by simp [rngs, hp]
      rw [hq]
      refine ⟨fun r hr => ?_, ih.sep, ih.run, fun g hgn hpg => ?_⟩
      · have := ih.ends r hr
        exact ⟨this.1, this.2.1, by omega, this.2.2.2⟩
      · exact ih.all g (by
          rcases Nat.lt_or_ge g n with h | h
          · exact h
          · have : g = n := by omega
            subst this
            exact absurd hpg hp) hpg
theorem RG.asc {gap : Int} {p : Nat → Bool} {n : Nat} {l : List Rg} (h : RG gap p n l) (hg : 0 ≤ gap) : ∀ (d i : Nat) (r s : Rg), l[i]? = some r → l[i + 1 + d]? = some s → r.2 + gap + 1 < s.1
  | 0, i, r, s, h1, h2 => by have := h.sep i r s h1 h2; omega
  | d + 1, i, r, s, h1, h2 => by
    have hlt := (List.getElem?_eq_some_iff.1 h2).1
    have hm : l[i + 1 + d]? = some (l[i + 1 + d]'(by omega)) := List.getElem?_eq_getElem _
    have k1 := RG.asc h hg d i r _ h1 hm
    have k2 := h.sep (i + 1 + d) _ s hm h2
    have := (h.ends _ (List.mem_of_getElem? hm)).2.1
    omega
theorem rngs_mono {gap : Int} (hg : 0 ≤ gap) {p q : Nat → Bool} (hpq : ∀ i, p i = true → q i = true) (n : Nat) : ∀ r ∈ rngs gap p n, ∃ s ∈ rngs gap q n, s.1 ≤ r.1 ∧ r.2 ≤ s.2 := by
  intro r hr
  have hP := rngs_spec gap hg p n
  have hQ := rngs_spec gap hg q n
  obtain ⟨h1, h2, h3, h4, h5⟩ := hP.ends r hr
  obtain ⟨s, hs, k1, k2⟩ := hQ.all r.1.toNat (by omega) (hpq _ h4)
  refine ⟨s, hs, by omega, ?_⟩
  obtain ⟨i, hi⟩ := List.getElem?_of_mem hs
  have key : ∀ (m : Nat) (k : Int), k = r.1 + m → k ≤ r.2 → q k.toNat = true → k ≤ s.2 := by
    intro m
    induction m using Nat.strongRecOn with
    | _ m ih =>
      intro k hk hkr hqk
      rcases Int.lt_or_le s.2 k with hlt | hle
      · exfalso
        by_cases hm : m = 0
        · subst hm; omega
        · obtain ⟨j, j1, j2, j3, j4⟩ := hP.run r hr (k - 1) (by omega) (by omega)
          have hjs := ih (j - r.1).toNat (by omega) j (by omega) (by omega) (hpq _ j4)
          obtain ⟨t, ht, t1, t2⟩ := hQ.all k.toNat (by omega) hqk
          obtain ⟨u, hu⟩ := List.getElem?_of_mem ht
          have hne : i < u := by
            rcases Nat.lt_trichotomy i u with h | h | h
            · exact h
            · subst h; rw [hi] at hu; cases hu; omega
            · have := hQ.asc hg (i - u - 1) u t s hu (by rw [show u + 1 + (i - u - 1) = i by omega]; exact hi)
              have := (hQ.ends t ht).2.1
              have := (hQ.ends s hs).2.1
              omega
          have := hQ.asc hg (u - i - 1) i s t hi (by rw [show i + 1 + (u - i - 1) = u by omega]; exact hu)
          have hends := hQ.ends t ht
          omega
      · exact hle
  exact key (r.2 - r.1).toNat r.2 (by omega) (by omega) (hpq _ h5)
end Gv
