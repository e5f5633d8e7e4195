/- Iterators that call themselves: a row that is appended to in each call, and what the yielding does to memory. -/
import Derived.Test.YtkbahledgljaoaaGvU
namespace Gv
open Go Go.RowKit
variable {P : Program}
structure Went (v : Value) (n : Nat) (X : Nat → Prop) (St : Nat → Nat → Prop) (w : World) (X' : Nat → Prop) (St' : Nat → Nat → Prop) (w' : World) : Prop where
  size : w.heap.size ≤ w'.heap.size
  keep : ∀ q, q < w.heap.size → ¬ X q → v.ownBlock ≠ some q → w'.heap[q]? = w.heap[q]?
  row : ∀ q cur, ¬ X q → v.ownBlock = some q → w.heap[q]? = some (.cells cur 3 (0, 0)) → ∃ cur', w'.heap[q]? = some (.cells cur' 3 (0, 0)) ∧ cur'.size = cur.size ∧ cur'.toList.take n = cur.toList.take n
  mono : ∀ q, X q → X' q
  new : ∀ q, X' q → X q ∨ w.heap.size ≤ q
  evo : Evo St w St' w'
  stnew : ∀ b o, St' b o → St b o ∨ X' b ∨ w.heap.size ≤ b
section
variable {v u : Value} {n m : Nat} {X X' X'' : Nat → Prop} {St St' St'' : Nat → Nat → Prop} {w w' w'' : World}
theorem Went.trans (h : Went v n X St w X' St' w') (k : Went v n X' St' w' X'' St'' w'') : Went v n X St w X'' St'' w'' := by
  have nx : ∀ q, q < w.heap.size → ¬ X q → ¬ X' q := fun q hq hx hx' => by
    rcases h.new q hx' with h1 | h1
    · exact hx h1
    · omega
  refine ⟨Nat.le_trans h.size k.size, fun q hq hx hv => (k.keep q (Nat.lt_of_lt_of_le hq h.size) (nx q hq hx) hv).trans (h.keep q hq hx hv), fun q cur hx hv hc => ?_, fun q hx => k.mono q (h.mono q hx), fun q hx => ?_, h.evo.trans k.evo, fun b o hs => ?_⟩
  · obtain ⟨c1, a1, a2, a3⟩ := h.row q cur hx hv hc
    obtain ⟨c2, b1, b2, b3⟩ := k.row q c1 (nx q (heap_lt hc) hx) hv a1
    exact ⟨c2, b1, b2.trans a2, b3.trans a3⟩
  · rcases k.new q hx with h1 | h1
    · exact h.new q h1
    · exact .inr (Nat.le_trans h.size h1)
  · rcases k.stnew b o hs with h1 | h1 | h1
    · rcases h.stnew b o h1 with h2 | h2 | h2
      · exact .inl h2
      · exact .inr (.inl (k.mono b h2))
      · exact .inr (.inr h2)
    · exact .inr (.inl h1)
    · exact .inr (.inr (Nat.le_trans h.size h1))
theorem Went.below (hl : ∀ b o, St b o → b < w.heap.size) (hb : Below w.heap.size w w') : Went v n X St w X St w' :=
  ⟨hb.size, fun q hq _ _ => hb.block q hq, fun q cur _ _ hc => ⟨cur, (hb.block q (heap_lt hc)).trans hc, rfl, rfl⟩, fun _ h => h, fun _ h => .inl h, evo_below hl hb (fun _ _ h => h), fun _ _ h => .inl h⟩
theorem Went.yields (h : Yields X St w X' St' w') : Went v n X St w X' St' w' :=
  ⟨h.size, fun q hq hx _ => h.keep q hq hx, fun q cur hx _ hc => ⟨cur, (h.keep q (heap_lt hc) hx).trans hc, rfl, rfl⟩, h.mono, h.new, h.evo, h.stnew⟩
end
structure Row (by' bx : Nat) (X : Nat → Prop) (St : Nat → Nat → Prop) (w : World) (v : Value) (n : Nat) (xs : List Value) : Prop where
  own : w.ownsRow 0 3 1 v n xs
  nx : ∀ q, v.ownBlock = some q → ¬ X q ∧ (∀ o, ¬ St q o) ∧ q ≠ by' ∧ q ≠ bx
theorem own_lt {w : World} {v : Value} {n : Nat} {xs : List Value} (h : w.ownsRow 0 3 1 v n xs) {q : Nat} (hq : v.ownBlock = some q) : ∃ cap cur, v = .slice (some ⟨q, 0, none⟩) n cap ∧ w.heap[q]? = some (.cells cur 3 (0, 0)) ∧ n ≤ cap ∧ cap ≤ maxLen ∧ cur.size = cap * 1 ∧ cur.toList.take (n * 1) = xs := by
  rcases h.2 with ⟨rfl, _⟩ | ⟨g, cap, cur, rfl, _, h2, h3, h4, h5, h6⟩
  · cases hq
  · simp only [Value.ownBlock, Option.some.injEq] at hq
    subst hq
    exact ⟨cap, cur, rfl, h2, h3, h4, h5, h6⟩
theorem Row.went {by' bx : Nat} {X X' : Nat → Prop} {St St' : Nat → Nat → Prop} {w w' : World} {v u : Value} {n m : Nat} {xs : List Value} (h : Row by' bx X St w u m xs) (k : Went v n X St w X' St' w') (hm : u.ownBlock = v.ownBlock → m ≤ n) : Row by' bx X' St' w' u m xs := by
  refine ⟨⟨h.own.1, ?_⟩, fun q hq => ?_⟩
  · rcases h.own.2 with ⟨rfl, h0⟩ | ⟨g, cap, cur, rfl, h1, h2, h3, h4, h5, h6⟩
    · exact .inl ⟨rfl, h0⟩
    · have hx := (h.nx g rfl).1
      by_cases hv : v.ownBlock = some g
      · obtain ⟨c1, a1, a2, a3⟩ := k.row g cur hx hv h2
        have hmn := hm hv.symm
        refine .inr ⟨g, cap, c1, rfl, h1, a1, h3, h4, a2.trans h5, ?_⟩
        have := congrArg (List.take (m * 1)) a3
        rw [List.take_take, List.take_take, Nat.min_eq_left (by omega)] at this
        exact this.trans h6
      · exact .inr ⟨g, cap, cur, rfl, h1, (k.keep g (heap_lt h2) hx hv).trans h2, h3, h4, h5, h6⟩
  · obtain ⟨h1, h2, h3⟩ := h.nx q hq
    obtain ⟨_, cur, _, hc, _⟩ := own_lt h.own hq
    have hlt := heap_lt hc
    have hx' : ¬ X' q := fun hx => by
      rcases k.new q hx with h4 | h4
      · exact h1 h4
      · omega
    refine ⟨hx', fun o hs => ?_, h3⟩
    rcases k.stnew q o hs with h4 | h4 | h4
    · exact h2 o h4
    · exact hx' h4
    · omega
structure Bed (J : Nat → JT) (ac : Addr) (c : Nat) (by' bx l : Nat) (xv : Value) (i : Nat) (X : Nat → Prop) (St : Nat → Nat → Prop) (w : World) : Prop where
  j : J i X St w
  xlt : ∀ q, X q → q < w.heap.size
  slt : ∀ b o, St b o → b < w.heap.size
  s1 : St ac.block ac.off ∧ ac = ⟨ac.block, ac.off, none⟩
  c1 : w.cell? ac = some (.int .i64 c)
  c2 : w.cell? ⟨by', 0, none⟩ = some (.func (.yield l) #[] #[])
  c3 : w.cell? ⟨bx, 0, none⟩ = some xv
  n2 : ¬ X by'
  n3 : ¬ X bx
section
variable {J : Nat → JT} {ac : Addr} {c by' bx l : Nat} {xv : Value} {i i' : Nat} {X X' : Nat → Prop} {St St' : Nat → Nat → Prop} {w w' : World} {v : Value} {n : Nat}
theorem Bed.went (h : Bed J ac c by' bx l xv i X St w) (k : Went v n X St w X' St' w') (hv : ∀ q, v.ownBlock = some q → q ≠ by' ∧ q ≠ bx) (hj : J i' X' St' w') (hx : ∀ q, X' q → q < w'.heap.size) (hs : ∀ b o, St' b o → b < w'.heap.size) : Bed J ac c by' bx l xv i' X' St' w' := by
  have l2 := World.block_lt_of_cell? _ _ h.c2
  have l3 := World.block_lt_of_cell? _ _ h.c3
  obtain ⟨e1, e2⟩ := k.evo _ _ h.s1.1
  have nx : ∀ q, q < w.heap.size → ¬ X q → ¬ X' q := fun q hq hx hx' => by
    rcases k.new q hx' with h1 | h1
    · exact hx h1
    · omega
  refine ⟨hj, hx, hs, ⟨e1, h.s1.2⟩, ?_, ?_, ?_, nx _ l2 h.n2, nx _ l3 h.n3⟩
  · have := h.c1
    rw [h.s1.2] at this ⊢
    exact e2.trans this
  · exact (World.cell?_of_block (k.keep by' l2 h.n2 fun e => (hv _ e).1 rfl)).trans h.c2
  · exact (World.cell?_of_block (k.keep bx l3 h.n3 fun e => (hv _ e).2 rfl)).trans h.c3
theorem Bed.below (hab : ∀ i, Abides (J i)) (h : Bed J ac c by' bx l xv i X St w) (hb : Below w.heap.size w w') : Bed J ac c by' bx l xv i X St w' :=
  h.went (v := .slice none 0 0) (n := 0) (Went.below h.slt hb) (fun q hq => by cases hq)
    (hab i X St St w w' none h.j (grownBy_below hb) (by simp) (evo_below h.slt hb (fun _ _ h => h)) (fun b o hs => Nat.lt_of_lt_of_le (h.slt b o hs) hb.size) (fun b o hs => .inl hs))
    (fun q hq => Nat.lt_of_lt_of_le (h.xlt q hq) hb.size) (fun b o hs => Nat.lt_of_lt_of_le (h.slt b o hs) hb.size)
theorem Bed.append (hab : ∀ i, Abides (J i)) (h : Bed J ac c by' bx l xv i X St w) {xs : List Value} (hr : Row by' bx X St w v n xs) (hg : w.grownBy w' v.ownBlock) : Bed J ac c by' bx l xv i X St w' := by
  have ev : Evo St w St w' := fun b o hs => ⟨hs, World.cell?_of_block (hg.block b (h.slt b o hs) fun e => (hr.nx b e.symm).2.1 o hs)⟩
  have l2 := World.block_lt_of_cell? _ _ h.c2
  have l3 := World.block_lt_of_cell? _ _ h.c3
  refine ⟨hab i X St St w w' v.ownBlock h.j hg (fun q hq => (hr.nx q hq).1) ev (fun b o hs => Nat.lt_of_lt_of_le (h.slt b o hs) hg.size) (fun b o hs => .inl hs), fun q hq => Nat.lt_of_lt_of_le (h.xlt q hq) hg.size, fun b o hs => Nat.lt_of_lt_of_le (h.slt b o hs) hg.size, h.s1, ?_, ?_, ?_, h.n2, h.n3⟩
  · have := h.c1
    rw [h.s1.2] at this ⊢
    exact (ev _ _ h.s1.1).2.trans this
  · exact (World.cell?_of_block (hg.block by' l2 fun e => (hr.nx _ e.symm).2.2.1 rfl)).trans h.c2
  · exact (World.cell?_of_block (hg.block bx l3 fun e => (hr.nx _ e.symm).2.2.2 rfl)).trans h.c3
end
def ext (c : Nat) : Nat → List Nat → List (List Nat)
  | 0, b => [b]
  | m + 1, b => (List.range c).flatMap fun i => if i ∈ b then [] else ext c m (b ++ [i])
end Gv
