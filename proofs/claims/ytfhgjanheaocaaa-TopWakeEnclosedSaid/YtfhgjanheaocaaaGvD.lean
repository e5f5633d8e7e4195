/- A frame's own blocks in memory, and what each change of memory does to them. -/
import Derived.Test.YtfhgjanheaocaaaGvC
namespace Gv
open Go Go.RowKit
def Blk.own : Blk → Bool
  | .cells _ _ | .buf _ | .vec _ _ _ _ => true
  | _ => false
def live (m : List Blk) (b : Nat) : Prop := ∃ blk, m[b]? = some blk ∧ blk.own = true
def BR (X : Nat → Prop) (g : G) (m : List Blk) (St : Nat → Nat → Prop) (w : World) (b : Nat) : Blk → Prop
  | .none => True
  | .cells wr cs => ¬ X (g.ρ b) ∧ ∃ cur e, w.heap[g.ρ b]? = some (.cells cur e (0, 0)) ∧ VRs g m St w cs cur.toList ∧ (wr = true → ∀ j, ¬ St (g.ρ b) j) ∧ ∀ x ∈ cur.toList, x.oneCell' = true
  | .buf n => ¬ X (g.ρ b) ∧ ∃ cur e, w.heap[g.ρ b]? = some (.cells cur e (0, 0)) ∧ cur.size = g.κ b * g.σ b ∧ n ≤ g.κ b ∧ g.κ b ≤ maxLen ∧ ∀ j, n * g.σ b ≤ j → ¬ St (g.ρ b) j
  | .log sh k n cs => b = 0 ∧ g.lg = some (sh, k) ∧ n = g.ι ∧ cs.length = n * shSize sh
  | .vec wr n sz cs => ¬ X (g.ρ b) ∧ ∃ (cur : Array Value) (e : TypeId) (us rest : List Value), w.heap[g.ρ b]? = some (.cells cur e (0, 0)) ∧ cur.toList = us ++ rest ∧ PRs St w cs us ∧ us.length = n * sz ∧ (∀ x ∈ us, x.oneCell' = true) ∧
      sz = g.σ b ∧ cur.size = g.κ b * sz ∧ n ≤ g.κ b ∧ g.κ b ≤ maxLen ∧ (wr = true → ∀ j, ¬ St (g.ρ b) j)
abbrev JT := (Nat → Prop) → (Nat → Nat → Prop) → World → Prop
def Abides (J : JT) : Prop := ∀ (X : Nat → Prop) (St St' : Nat → Nat → Prop) (w w' : World) (row : Option Nat), J X St w → w.grownBy w' row → (∀ q, row = some q → ¬ X q) → Evo St w St' w' →
  (∀ b o, St' b o → b < w'.heap.size) → (∀ b o, St' b o → St b o ∨ ¬ X b) → J X St' w'
structure MemOK (X : Nat → Prop) (J : Nat → JT) (g : G) (St : Nat → Nat → Prop) (m : List Blk) (w : World) : Prop where
  inv : J g.ι X St w
  ab : ∀ i, Abides (J i)
  b0 : ∀ q, X q → q < w.heap.size
  stLt : ∀ b o, St b o → b < w.heap.size
  fix : ∀ q o, g.φ q = some o → w.heap[q]? = some o ∧ ¬ X q ∧ (∀ j, ¬ St q j) ∧ ∀ b, live m b → g.ρ b ≠ q
  mem : ∀ b blk, m[b]? = some blk → BR X g m St w b blk
  inj : ∀ b b', live m b → live m b' → g.ρ b = g.ρ b' → b = b'
theorem grownBy_below {w w' : World} (h : Below w.heap.size w w') : w.grownBy w' none := ⟨h.os, h.tape, h.output, h.size, fun i hi _ => h.block i hi⟩
variable {X : Nat → Prop} {J : Nat → JT} {g : G} {St : Nat → Nat → Prop} {m : List Blk} {w : World}
theorem heap_lt {w : World} {q : Nat} {o : Obj} (h : w.heap[q]? = some o) : q < w.heap.size := (Array.getElem?_eq_some_iff.1 h).1
theorem MemOK.lt (h : MemOK X J g St m w) {b : Nat} (hb : live m b) : g.ρ b < w.heap.size := by
  obtain ⟨blk, hb, ho⟩ := hb
  have hbr := h.mem b _ hb
  cases blk <;> try (cases ho; done)
  · obtain ⟨_, cur, e, h1, _⟩ := hbr
    exact heap_lt h1
  · obtain ⟨_, cur, e, h1, _⟩ := hbr
    exact heap_lt h1
  · obtain ⟨_, cur, e, us, rest, h1, _⟩ := hbr
    exact heap_lt h1
theorem MemOK.notX (h : MemOK X J g St m w) {b : Nat} (hb : live m b) : ¬ X (g.ρ b) := by
  obtain ⟨blk, hb, ho⟩ := hb
  have hbr := h.mem b _ hb
  cases blk <;> first | (cases ho; done) | exact hbr.1
theorem evo_below {St St' : Nat → Nat → Prop} {w w' : World} (hl : ∀ b o, St b o → b < w.heap.size) (hb : Below w.heap.size w w') (hs : ∀ b o, St b o → St' b o) : Evo St w St' w' :=
  fun b o h => ⟨hs b o h, World.cell?_of_block (hb.block b (hl b o h))⟩
theorem MemOK.grow (h : MemOK X J g St m w) {St' : Nat → Nat → Prop} {w' : World} (hb : Below w.heap.size w w') (hs : ∀ b o, St b o → St' b o)
    (hl : ∀ b o, St' b o → b < w'.heap.size) (hn : ∀ b o, St' b o → St b o ∨ w.heap.size ≤ b) : MemOK X J g St' m w' ∧ Evo St w St' w' := by
  have e : Evo St w St' w' := evo_below h.stLt hb hs
  refine ⟨⟨h.ab _ X St St' w w' none h.inv (grownBy_below hb) (by simp) e hl (fun b o hs' => ?_), h.ab, fun q hq => Nat.lt_of_lt_of_le (h.b0 q hq) hb.size, hl, fun q o hq => ?_, fun b blk hm => ?_, h.inj⟩, e⟩
  · rcases hn b o hs' with h1 | h1
    · exact .inl h1
    · exact .inr fun hx => by have := h.b0 b hx; omega
  · obtain ⟨f1, f2, f3, f4⟩ := h.fix q o hq
    have hlt := heap_lt f1
    refine ⟨(hb.block q hlt).trans f1, f2, fun j hj => ?_, f4⟩
    rcases hn q j hj with k | k
    · exact f3 j k
    · omega
  · have hbr := h.mem b blk hm
    cases blk with
    | none => trivial
    | cells wr cs =>
      obtain ⟨h1, cur, el, h2, h3, h4, hone⟩ := hbr
      refine ⟨h1, cur, el, (hb.block _ (heap_lt h2)).trans h2, VRs.mono e (MExt.refl g m) _ _ h3, fun hw j hj => ?_, hone⟩
      rcases hn _ _ hj with k | k
      · exact h4 hw j k
      · have := heap_lt h2
        omega
    | buf n =>
      obtain ⟨h1, cur, el, h2, h3, h4, h5, h6⟩ := hbr
      refine ⟨h1, cur, el, (hb.block _ (heap_lt h2)).trans h2, h3, h4, h5, fun j hj hjs => ?_⟩
      rcases hn _ _ hjs with k | k
      · exact h6 j hj k
      · have := heap_lt h2
        omega
    | log sh k n cs => exact hbr
    | vec wr n sz cs =>
      obtain ⟨h1, cur, el, us, rest, h2, h3, h4, h5, h6, h7, h8, h9, h10, h11⟩ := hbr
      refine ⟨h1, cur, el, us, rest, (hb.block _ (heap_lt h2)).trans h2, h3, PRs.mono e _ _ h4, h5, h6, h7, h8, h9, h10, fun hw j hj => ?_⟩
      rcases hn _ _ hj with k | k
      · exact h11 hw j k
      · have := heap_lt h2
        omega
def G.set (g : G) (d q k s : Nat) : G := { g with ρ := fun b => if b = d then q else g.ρ b, κ := fun b => if b = d then k else g.κ b, σ := fun b => if b = d then s else g.σ b }
theorem get_set {α : Type} {l : List α} {d b : Nat} {v x : α} (h : (l.set d v)[b]? = some x) : (b = d ∧ x = v) ∨ (b ≠ d ∧ l[b]? = some x) := by
  rw [List.getElem?_set] at h
  by_cases hb : d = b
  · subst hb
    rw [if_pos rfl] at h
    split at h
    · simp at h
      exact .inl ⟨rfl, h.symm⟩
    · cases h
  · rw [if_neg hb] at h
    exact .inr ⟨fun e => hb e.symm, h⟩
theorem set_other {α : Type} {l : List α} {d b : Nat} {v : α} (hb : b ≠ d) : (l.set d v)[b]? = l[b]? := by
  rw [List.getElem?_set, if_neg (fun e => hb e.symm)]
theorem set_same {α : Type} {l : List α} {d : Nat} {v x : α} (h : l[d]? = some x) : (l.set d v)[d]? = some v := by
  rw [List.getElem?_set, if_pos rfl, if_pos (List.getElem?_eq_some_iff.1 h).1]
theorem mext_new {d q k s : Nat} {blk : Blk} (hd : m[d]? = some .none) : MExt g m (g.set d q k s) (m.set d blk) := by
  refine ⟨⟨fun b wr cs h => ?_, fun b n h => ?_, fun b wr n s cs h => ?_, rfl⟩, rfl, rfl⟩
  · have hne : b ≠ d := fun e => by subst e; rw [hd] at h; cases h
    exact ⟨⟨wr, cs, by rw [set_other hne]; exact h⟩, by simp [G.set, hne]⟩
  · have hne : b ≠ d := fun e => by subst e; rw [hd] at h; cases h
    exact ⟨n, by rw [set_other hne]; exact h, Nat.le_refl _, fun _ => by simp [G.set, hne]⟩
  · have hne : b ≠ d := fun e => by subst e; rw [hd] at h; cases h
    exact ⟨wr, n, s, cs, by rw [set_other hne]; exact h, Nat.le_refl _, fun _ => by simp [G.set, hne]⟩
theorem br_mono {g g' : G} {m m' : List Blk} {St : Nat → Nat → Prop} {w : World} {b : Nat} {blk : Blk} (x : MExt g m g' m') (h : BR X g m St w b blk)
    (hr : g'.ρ b = g.ρ b) (hk : g'.κ b = g.κ b) (hs : g'.σ b = g.σ b) (hi : g'.ι = g.ι := by rfl) (hlg : g'.lg = g.lg := by rfl) : BR X g' m' St w b blk := by
  cases blk with
  | none => trivial
  | cells wr cs =>
    obtain ⟨h1, cur, el, h2, h3, h4, hone⟩ := h
    exact ⟨by rw [hr]; exact h1, cur, el, by rw [hr]; exact h2, VRs.mono (Evo.refl _ _) x _ _ h3, fun hw => by rw [hr]; exact h4 hw, hone⟩
  | buf n =>
    obtain ⟨h1, cur, el, h2, h3, h4, h5, h6⟩ := h
    exact ⟨by rw [hr]; exact h1, cur, el, by rw [hr]; exact h2, by rw [hk, hs]; exact h3, by rw [hk]; exact h4, by rw [hk]; exact h5, by rw [hr, hs]; exact h6⟩
  | log sh k n cs =>
    obtain ⟨hz, h0, h1, h2⟩ := h
    exact ⟨hz, by rw [hlg]; exact h0, by rw [hi]; exact h1, h2⟩
  | vec wr n sz cs =>
    obtain ⟨h1, cur, el, us, rest, h2, h3, h4, h5, h6, h7, h8, h9, h10, h11⟩ := h
    exact ⟨by rw [hr]; exact h1, cur, el, us, rest, by rw [hr]; exact h2, h3, h4, h5, h6, by rw [hs]; exact h7, by rw [hk]; exact h8, by rw [hk]; exact h9, by rw [hk]; exact h10, fun hw => by rw [hr]; exact h11 hw⟩
theorem live_set {d b : Nat} {blk : Blk} (h : live (m.set d blk) b) (hne : b ≠ d) : live m b := by
  obtain ⟨x, h, ho⟩ := h
  rw [set_other hne] at h
  exact ⟨x, h, ho⟩
theorem MemOK.new (h : MemOK X J g St m w) {d q k s : Nat} {blk : Blk} (hd : m[d]? = some .none) (hq : ∀ b, live m b → g.ρ b ≠ q) (hfx : ∀ q' o, g.φ q' = some o → q' ≠ q)
    (hbr : BR X (g.set d q k s) (m.set d blk) St w d blk) : MemOK X J (g.set d q k s) St (m.set d blk) w := by
  refine ⟨h.inv, h.ab, h.b0, h.stLt, fun q' o hq' => ?_, fun b x hx => ?_, fun b b' hb hb' he => ?_⟩
  · obtain ⟨f1, f2, f3, f4⟩ := h.fix q' o hq'
    refine ⟨f1, f2, f3, fun b hb => ?_⟩
    by_cases hbd : b = d
    · subst hbd
      simp only [G.set, if_true]
      exact fun e => hfx q' o hq' e.symm
    · simp only [G.set, if_neg hbd]
      exact f4 b (live_set hb hbd)
  · rcases get_set hx with ⟨rfl, rfl⟩ | ⟨hne, hx⟩
    · exact hbr
    · exact br_mono (mext_new hd) (h.mem b x hx) (by simp [G.set, hne]) (by simp [G.set, hne]) (by simp [G.set, hne])
  · by_cases h1 : b = d
    · by_cases h2 : b' = d
      · exact h1.trans h2.symm
      · subst h1
        simp only [G.set, if_true, if_neg h2] at he
        exact absurd he.symm (hq b' (live_set hb' h2))
    · by_cases h2 : b' = d
      · subst h2
        simp only [G.set, if_true, if_neg h1] at he
        exact absurd he (hq b (live_set hb h1))
      · simp only [G.set, if_neg h1, if_neg h2] at he
        exact h.inj b b' (live_set hb h1) (live_set hb' h2) he
theorem grown_cell {w w' : World} {q b o : Nat} (hg : w.grownBy w' (some q)) (hb : b < w.heap.size) (hne : b ≠ q) : w'.cell? ⟨b, o, none⟩ = w.cell? ⟨b, o, none⟩ :=
  World.cell?_of_block (hg.block b hb (fun e => hne (by simpa using e)))
theorem mext_store {b : Nat} {wr wr' : Bool} {cs cs' : List AV} (hb : m[b]? = some (.cells wr cs)) : MExt g m g (m.set b (.cells wr' cs')) := by
  refine ⟨⟨fun b' wr cs h => ?_, fun b' n h => ?_, fun b' wr n s cs h => ?_, rfl⟩, rfl, rfl⟩
  · by_cases hne : b' = b
    · subst hne
      exact ⟨⟨_, _, set_same hb⟩, rfl⟩
    · exact ⟨⟨wr, cs, by rw [set_other hne]; exact h⟩, rfl⟩
  · have hne : b' ≠ b := fun e => by subst e; rw [hb] at h; cases h
    exact ⟨n, by rw [set_other hne]; exact h, Nat.le_refl _, fun _ => ⟨rfl, rfl, rfl⟩⟩
  · have hne : b' ≠ b := fun e => by subst e; rw [hb] at h; cases h
    exact ⟨wr, n, s, cs, by rw [set_other hne]; exact h, Nat.le_refl _, fun _ => ⟨rfl, rfl, rfl⟩⟩
theorem mext_vec {b n : Nat} {wr wr' : Bool} {s s' : Nat} {cs cs' : List PV} (hb : m[b]? = some (.vec wr n s cs)) : MExt g m g (m.set b (.vec wr' n s' cs')) := by
  refine ⟨⟨fun b' wr cs h => ?_, fun b' n h => ?_, fun b' wr i s cs h => ?_, rfl⟩, rfl, rfl⟩
  · have hne : b' ≠ b := fun e => by subst e; rw [hb] at h; cases h
    exact ⟨⟨wr, cs, by rw [set_other hne]; exact h⟩, rfl⟩
  · have hne : b' ≠ b := fun e => by subst e; rw [hb] at h; cases h
    exact ⟨n, by rw [set_other hne]; exact h, Nat.le_refl _, fun _ => ⟨rfl, rfl, rfl⟩⟩
  · by_cases hne : b' = b
    · subst hne
      rw [hb] at h
      simp at h
      obtain ⟨rfl, rfl, rfl, rfl⟩ := h
      exact ⟨_, _, _, _, set_same hb, Nat.le_refl _, fun _ => ⟨rfl, rfl, rfl⟩⟩
    · exact ⟨wr, i, s, cs, by rw [set_other hne]; exact h, Nat.le_refl _, fun _ => ⟨rfl, rfl, rfl⟩⟩
theorem mext_rise {b n n' q k t : Nat} {wr wr' : Bool} {s s' : Nat} {cs cs' : List PV} (hb : m[b]? = some (.vec wr n s cs)) (hn : n < n') : MExt g m (g.set b q k t) (m.set b (.vec wr' n' s' cs')) := by
  refine ⟨⟨fun b' wr cs h => ?_, fun b' n h => ?_, fun b' wr i s cs h => ?_, rfl⟩, rfl, rfl⟩
  · have hne : b' ≠ b := fun e => by subst e; rw [hb] at h; cases h
    exact ⟨⟨wr, cs, by rw [set_other hne]; exact h⟩, by simp [G.set, hne]⟩
  · have hne : b' ≠ b := fun e => by subst e; rw [hb] at h; cases h
    exact ⟨n, by rw [set_other hne]; exact h, Nat.le_refl _, fun _ => by simp [G.set, hne]⟩
  · by_cases hne : b' = b
    · subst hne
      rw [hb] at h
      simp at h
      obtain ⟨rfl, rfl, rfl, rfl⟩ := h
      exact ⟨_, _, _, _, set_same hb, by omega, fun e => by omega⟩
    · exact ⟨wr, i, s, cs, by rw [set_other hne]; exact h, Nat.le_refl _, fun _ => by simp [G.set, hne]⟩
theorem live_own {b b' : Nat} {x y : Blk} (hb : m[b]? = some x) (ho : x.own = true) (h : live (m.set b y) b') : live m b' := by
  by_cases hne : b' = b
  · subst hne
    exact ⟨x, hb, ho⟩
  · exact live_set h hne
theorem live_store {b b' : Nat} {wr wr' : Bool} {cs cs' : List AV} (hb : m[b]? = some (.cells wr cs)) (h : live (m.set b (.cells wr' cs')) b') : live m b' := live_own hb rfl h
theorem MemOK.change (h : MemOK X J g St m w) {St' : Nat → Nat → Prop} {w' : World} {b q k s : Nat} {x y : Blk} (hb : m[b]? = some x) (ho : x.own = true)
    (hg : w.grownBy w' (some (g.ρ b))) (ev : Evo St w St' w') (hl : ∀ b o, St' b o → b < w'.heap.size) (hnew : ∀ b o, St' b o → St b o ∨ b = q)
    (hq : q = g.ρ b ∨ w.heap.size ≤ q) (mx : MExt g m (g.set b q k s) (m.set b y)) (hy : BR X (g.set b q k s) (m.set b y) St' w' b y) :
    MemOK X J (g.set b q k s) St' (m.set b y) w' := by
  have hlb : live m b := ⟨x, hb, ho⟩
  have h1 := h.notX hlb
  have hqB : ¬ X q := by
    rcases hq with rfl | hq
    · exact h1
    · exact fun hx => by have := h.b0 q hx; omega
  have far : ∀ b', b' ≠ b → live m b' → g.ρ b' ≠ g.ρ b ∧ g.ρ b' ≠ q := fun b' hne hlv => by
    have f1 : g.ρ b' ≠ g.ρ b := fun he => hne (h.inj b' b hlv hlb he)
    refine ⟨f1, ?_⟩
    rcases hq with rfl | hq
    · exact f1
    · have := h.lt hlv
      omega
  refine ⟨h.ab _ X St St' w w' _ h.inv hg (fun q hq => by simp at hq; subst hq; exact h1) ev hl (fun b' o hs => ?_), h.ab, fun q hq => Nat.lt_of_lt_of_le (h.b0 q hq) hg.size, hl, fun q' o hq' => ?_, fun b' z hz => ?_, fun b1 b2 k1 k2 he => ?_⟩
  · rcases hnew b' o hs with hs | rfl
    · exact .inl hs
    · exact .inr hqB
  · obtain ⟨f1, f2, f3, f4⟩ := h.fix q' o hq'
    have hlt := heap_lt f1
    have hqq : q' ≠ q := by
      rcases hq with rfl | hq
      · exact fun e => f4 b hlb e.symm
      · omega
    refine ⟨(hg.block q' hlt (fun e => f4 b hlb (by simpa using e.symm))).trans f1, f2, fun j hj => ?_, fun b' hb' => ?_⟩
    · rcases hnew _ _ hj with hj | hj
      · exact f3 j hj
      · exact hqq hj
    · by_cases e : b' = b
      · subst e
        simp only [G.set, if_true]
        exact fun e => hqq e.symm
      · simp only [G.set, if_neg e]
        exact f4 b' (live_set hb' e)
  · rcases get_set hz with ⟨rfl, rfl⟩ | ⟨hne, hz⟩
    · exact hy
    · have hbr := h.mem b' z hz
      have hr : (g.set b q k s).ρ b' = g.ρ b' := by simp [G.set, hne]
      have hk' : (g.set b q k s).κ b' = g.κ b' := by simp [G.set, hne]
      have hs' : (g.set b q k s).σ b' = g.σ b' := by simp [G.set, hne]
      cases z with
      | none => trivial
      | cells wr cs0 =>
        obtain ⟨k1, cur0, el0, k2, k3, k4, hone⟩ := hbr
        obtain ⟨hf1, hf2⟩ := far b' hne ⟨_, hz, rfl⟩
        refine ⟨by rw [hr]; exact k1, cur0, el0, by rw [hr]; exact (hg.block _ (heap_lt k2) (fun e => hf1 (by simpa using e))).trans k2, VRs.mono ev mx _ _ k3, fun hw j hj => ?_, hone⟩
        rw [hr] at hj
        rcases hnew _ _ hj with hj | hj
        · exact k4 hw j hj
        · exact hf2 hj
      | buf n0 =>
        obtain ⟨k1, cur0, el0, k2, k3, k4, k5, k6⟩ := hbr
        obtain ⟨hf1, hf2⟩ := far b' hne ⟨_, hz, rfl⟩
        refine ⟨by rw [hr]; exact k1, cur0, el0, by rw [hr]; exact (hg.block _ (heap_lt k2) (fun e => hf1 (by simpa using e))).trans k2, by rw [hk', hs']; exact k3, by rw [hk']; exact k4, by rw [hk']; exact k5, fun j hj hjs => ?_⟩
        rw [hr] at hjs
        rw [hs'] at hj
        rcases hnew _ _ hjs with hjs | hjs
        · exact k6 j hj hjs
        · exact hf2 hjs
      | log sh k n cs => exact hbr
      | vec wr n sz cs =>
        obtain ⟨k1, cur0, el0, us, rest, k2, k3, k4, k5, k6, k7, k8, k9, k10, k11⟩ := hbr
        obtain ⟨hf1, hf2⟩ := far b' hne ⟨_, hz, rfl⟩
        refine ⟨by rw [hr]; exact k1, cur0, el0, us, rest, by rw [hr]; exact (hg.block _ (heap_lt k2) (fun e => hf1 (by simpa using e))).trans k2, k3, PRs.mono ev _ _ k4, k5, k6, by rw [hs']; exact k7, by rw [hk']; exact k8, by rw [hk']; exact k9, by rw [hk']; exact k10, fun hw j hj => ?_⟩
        rw [hr] at hj
        rcases hnew _ _ hj with hj | hj
        · exact k11 hw j hj
        · exact hf2 hj
  · by_cases e1 : b1 = b
    · by_cases e2 : b2 = b
      · exact e1.trans e2.symm
      · subst e1
        simp only [G.set, if_true, if_neg e2] at he
        exact absurd he.symm (far b2 e2 (live_set k2 e2)).2
    · by_cases e2 : b2 = b
      · subst e2
        simp only [G.set, if_true, if_neg e1] at he
        exact absurd he (far b1 e1 (live_set k1 e1)).2
      · simp only [G.set, if_neg e1, if_neg e2] at he
        exact h.inj b1 b2 (live_set k1 e1) (live_set k2 e2) he
theorem set_self (g : G) (b : Nat) : g.set b (g.ρ b) (g.κ b) (g.σ b) = g := by
  have e : ∀ f : Nat → Nat, (fun x => if x = b then f b else f x) = f := fun f => by
    funext x
    split
    · rename_i h; rw [h]
    · rfl
  simp only [G.set, e]
theorem MemOK.change0 (h : MemOK X J g St m w) {w' : World} {b : Nat} {x y : Blk} (hb : m[b]? = some x) (ho : x.own = true) (hst : ∀ j, ¬ St (g.ρ b) j)
    (hg : w.grownBy w' (some (g.ρ b))) (mx : MExt g m g (m.set b y)) (hy : Evo St w St w' → BR X g (m.set b y) St w' b y) :
    MemOK X J g St (m.set b y) w' ∧ Evo St w St w' := by
  have ev : Evo St w St w' := fun b' o hs => ⟨hs, grown_cell hg (h.stLt b' o hs) (fun e => hst o (e ▸ hs))⟩
  have e := set_self g b
  have := h.change (k := g.κ b) (s := g.σ b) (y := y) hb ho hg ev (fun b' o hs => Nat.lt_of_lt_of_le (h.stLt b' o hs) hg.size) (fun _ _ => .inl) (.inl rfl) (by rw [e]; exact mx) (by rw [e]; exact hy ev)
  rw [e] at this
  exact ⟨this, ev⟩
theorem MemOK.store (h : MemOK X J g St m w) {b : Nat} {cs cs' : List AV} {w' : World} {cur' : Array Value} {e : TypeId} (hb : m[b]? = some (.cells true cs))
    (hg : w.grownBy w' (some (g.ρ b))) (hh : w'.heap[g.ρ b]? = some (.cells cur' e (0, 0))) (hv : VRs g m St w cs' cur'.toList) (hone : ∀ x ∈ cur'.toList, x.oneCell' = true) :
    MemOK X J g St (m.set b (.cells true cs')) w' ∧ Evo St w St w' ∧ MExt g m g (m.set b (.cells true cs')) := by
  obtain ⟨h1, cur, el, h2, h3, h4, _⟩ := h.mem b _ hb
  have hst := h4 rfl
  have mx := mext_store (g := g) (wr' := true) (cs' := cs') hb
  obtain ⟨r1, r2⟩ := h.change0 hb rfl hst hg mx fun ev => ⟨h1, cur', e, hh, VRs.mono ev mx _ _ hv, fun _ => hst, hone⟩
  exact ⟨r1, r2, mx⟩
theorem mext_buf {b n n' q k s : Nat} (hb : m[b]? = some (.buf n)) (hn : n < n') : MExt g m (g.set b q k s) (m.set b (.buf n')) := by
  refine ⟨⟨fun b' wr cs h => ?_, fun b' i h => ?_, fun b' wr i s cs h => ?_, rfl⟩, rfl, rfl⟩
  · have hne : b' ≠ b := fun e => by subst e; rw [hb] at h; cases h
    exact ⟨⟨wr, cs, by rw [set_other hne]; exact h⟩, by simp [G.set, hne]⟩
  · by_cases hne : b' = b
    · subst hne
      rw [hb] at h
      simp at h
      subst h
      exact ⟨n', set_same hb, by omega, fun e => by omega⟩
    · exact ⟨i, by rw [set_other hne]; exact h, Nat.le_refl _, fun _ => by simp [G.set, hne]⟩
  · have hne : b' ≠ b := fun e => by subst e; rw [hb] at h; cases h
    exact ⟨wr, i, s, cs, by rw [set_other hne]; exact h, Nat.le_refl _, fun _ => by simp [G.set, hne]⟩
theorem MemOK.rise (h : MemOK X J g St m w) {St' : Nat → Nat → Prop} {w' : World} {b n n' q k s : Nat} {cur' : Array Value} {e : TypeId} (hb : m[b]? = some (.buf n)) (hn : n < n')
    (hg : w.grownBy w' (some (g.ρ b))) (ev : Evo St w St' w') (hl : ∀ b o, St' b o → b < w'.heap.size) (hnew : ∀ b o, St' b o → St b o ∨ b = q)
    (hq : q = g.ρ b ∨ w.heap.size ≤ q) (hh : w'.heap[q]? = some (.cells cur' e (0, 0))) (hc : cur'.size = k * s) (hnk : n' ≤ k) (hk : k ≤ maxLen) (hfree : ∀ j, n' * s ≤ j → ¬ St' q j) :
    MemOK X J (g.set b q k s) St' (m.set b (.buf n')) w' := by
  have hqB : ¬ X q := by
    rcases hq with rfl | hq
    · exact h.notX ⟨_, hb, rfl⟩
    · exact fun hx => by have := h.b0 q hx; omega
  refine h.change hb rfl hg ev hl hnew hq (mext_buf hb hn) ⟨by simpa [G.set] using hqB, cur', e, by simpa [G.set] using hh, by simpa [G.set] using hc, by simpa [G.set] using hnk, by simpa [G.set] using hk, ?_⟩
  simpa [G.set] using hfree
structure KeepB (g : G) (m : List Blk) (g' : G) (m' : List Blk) (b : Nat) : Prop where
  cells : ∀ wr cs, m[b]? = some (.cells wr cs) → (∃ wr' cs', m'[b]? = some (.cells wr' cs')) ∧ g'.ρ b = g.ρ b
  buf : ∀ n, m[b]? = some (.buf n) → ∃ n', m'[b]? = some (.buf n') ∧ n ≤ n' ∧ (n = n' → g'.ρ b = g.ρ b ∧ g'.κ b = g.κ b ∧ g'.σ b = g.σ b)
  vec : ∀ wr n s cs, m[b]? = some (.vec wr n s cs) → ∃ wr' n' s' cs', m'[b]? = some (.vec wr' n' s' cs') ∧ n ≤ n' ∧ (n = n' → g'.ρ b = g.ρ b ∧ g'.κ b = g.κ b ∧ g'.σ b = g.σ b)
theorem KeepB.refl (g : G) (m : List Blk) (b : Nat) : KeepB g m g m b :=
  ⟨fun wr cs h => ⟨⟨wr, cs, h⟩, rfl⟩, fun n h => ⟨n, h, Nat.le_refl _, fun _ => ⟨rfl, rfl, rfl⟩⟩, fun wr n s cs h => ⟨wr, n, s, cs, h, Nat.le_refl _, fun _ => ⟨rfl, rfl, rfl⟩⟩⟩
theorem KeepB.ext {g0 g g' : G} {m0 m m' : List Blk} {b : Nat} (k : KeepB g0 m0 g m b) (x : MExt g m g' m') : KeepB g0 m0 g' m' b := by
  refine ⟨fun wr cs h => ?_, fun n h => ?_, fun wr n s cs h => ?_⟩
  · obtain ⟨⟨wr', cs', h1⟩, e1⟩ := k.cells wr cs h
    obtain ⟨h2, e2⟩ := x.cells b wr' cs' h1
    exact ⟨h2, e2.trans e1⟩
  · obtain ⟨n', h1, l1, k1⟩ := k.buf n h
    obtain ⟨n'', h2, l2, k2⟩ := x.buf b n' h1
    refine ⟨n'', h2, Nat.le_trans l1 l2, fun e => ?_⟩
    obtain ⟨a1, a2, a3⟩ := k1 (by omega)
    obtain ⟨b1, b2, b3⟩ := k2 (by omega)
    exact ⟨b1.trans a1, b2.trans a2, b3.trans a3⟩
  · obtain ⟨wr', n', s', cs', h1, l1, k1⟩ := k.vec wr n s cs h
    obtain ⟨wr'', n'', s'', cs'', h2, l2, k2⟩ := x.vec b wr' n' s' cs' h1
    refine ⟨wr'', n'', s'', cs'', h2, Nat.le_trans l1 l2, fun e => ?_⟩
    obtain ⟨a1, a2, a3⟩ := k1 (by omega)
    obtain ⟨b1, b2, b3⟩ := k2 (by omega)
    exact ⟨b1.trans a1, b2.trans a2, b3.trans a3⟩
theorem KeepB.same {g0 g g' : G} {m0 m : List Blk} {b : Nat} (k : KeepB g0 m0 g m b) (h1 : g'.ρ = g.ρ) (h2 : g'.κ = g.κ) (h3 : g'.σ = g.σ) : KeepB g0 m0 g' m b :=
  ⟨fun wr cs h => by rw [h1]; exact k.cells wr cs h, fun n h => by rw [h1, h2, h3]; exact k.buf n h, fun wr n s cs h => by rw [h1, h2, h3]; exact k.vec wr n s cs h⟩
end Gv
