/- Iterators that call themselves: a row that is appended to in each call, and what the yielding does to memory. -/
import Derived.Test.YtfhgjanheaocaaaGvU
namespace Gv
open Go Go.RowKit
variable {P : Program}
def Abides2 (J : JT) : Prop := ∀ (X : Nat → Prop) (St St' : Nat → Nat → Prop) (w w' : World) (row : Option Nat), J X St w → w.grownBy w' row → (∀ q, row = some q → ¬ X q) →
  (∀ q cur, row = some q → w.heap[q]? = some (.cells cur 3 (0, 0)) → ∃ cur', w'.heap[q]? = some (.cells cur' 3 (0, 0)) ∧ cur'.size = cur.size) → Evo St w St' w' →
  (∀ b o, St' b o → b < w'.heap.size) → (∀ b o, St' b o → St b o ∨ ¬ X b) → J X St' w'
theorem Abides.two {J : JT} (h : Abides J) : Abides2 J := fun X St St' w w' row a b c _ d e f => h X St St' w w' row a b c d e f
theorem append_one {w : World} {t ty e : TypeId} {i : TypeInfo} {z : Value} (ht : P.underlying t = some (.slice e)) (hi : P.info? e = some i) (hz : i.zero = some z) (hsize : i.size = 1) (hby : i.bytes = 8) (hzs : z.cells.size = 1)
    {v : Value} {n : Nat} {xs : List Value} (hown : w.ownsRow 0 e 1 v n xs) (hone : ∀ u ∈ xs, u.oneCell' = true) {ad : Addr} {x : Value} (hx : w.cell? ad = some x) (h1 : x.oneCell' = true) (hn : n < 1000) :
    ∃ v' w', (Builtin.append_ #[t, t] ty #[v, .slice (some ad) 1 1]).run P w = .ok v' w' ∧ w'.ownsRow 0 e 1 v' (n + 1) (xs ++ [x]) ∧ w.grownBy w' v.ownBlock ∧
      (∀ q cur, v.ownBlock = some q → w.heap[q]? = some (.cells cur e (0, 0)) → ∃ cur', w'.heap[q]? = some (.cells cur' e (0, 0)) ∧ cur'.size = cur.size ∧ cur'.toList.take n = cur.toList.take n) ∧
      (∀ q, v'.ownBlock = some q → v.ownBlock = some q ∨ w.heap.size ≤ q) ∧ (∀ q, v'.ownBlock = some q → q < w'.heap.size) := by
  obtain ⟨hl, hv⟩ := hown
  have hnews : ∀ j u, [x][j]? = some u → w.cell? (ad.add j) = some u := by
    intro j u hj
    cases j with
    | zero => simp at hj; subst hj; exact hx
    | succ j => simp at hj
  have hnone : ∀ u ∈ [x], u.oneCell' = true := fun u hu => by simp at hu; subst hu; exact h1
  have hxl : [x].length = 1 * i.size := by rw [hsize]; rfl
  have fresh : ∀ (o : Obj), w.grownBy (w.drew.alloc o) v.ownBlock := fun o => by
    have h := ((Below.refl w.heap.size w).drew).alloc (Nat.le_refl _) o
    exact ⟨h.os, h.tape, h.output, h.size, fun k hk _ => h.block k hk⟩
  have kept : ∀ (o : Obj) (q : Nat) (cur : Array Value), w.heap[q]? = some (.cells cur e (0, 0)) → (w.drew.alloc o).heap[q]? = some (.cells cur e (0, 0)) := fun o q cur hq =>
    ((((Below.refl w.heap.size w).drew).alloc (Nat.le_refl _) o).block q (heap_lt hq)).trans hq
  have newlt : ∀ (o : Obj), w.heap.size < (w.drew.alloc o).heap.size := fun o => by
    have := World.size_alloc w.drew o
    rw [show w.drew.heap.size = w.heap.size from rfl] at this
    omega
  rcases hv with ⟨rfl, rfl⟩ | ⟨q, cap, cur, rfl, _, hq, hc1, hc2, hc3, hc4⟩
  · have hrun := run_append_nil (P := P) w t ty e i z ht hi hz ad 1 1 [x] hxl hnews (by omega) (by omega) (by rw [hby]; omega)
    obtain ⟨rest, hrest, hrl⟩ := zero_list z.cells (grownCap w 1 0 e - 1)
    rw [hrest] at hrun
    have hge := grownCap_ge w 1 0 e
    have hcm : grownCap w 1 0 e ≤ maxLen := grownCap_le_maxLen w 1 0 e (by unfold maxLen; omega)
    have hxs : xs = [] := by simpa using hl
    subst hxs
    refine ⟨_, _, hrun, ⟨by simp, .inr ⟨w.heap.size, grownCap w 1 0 e, [x].toArray ++ rest.toArray, rfl, Nat.zero_le _, heap_alloc_new w.drew _, hge, hcm, ?_, ?_⟩⟩, fresh _, fun q cur h => by simp [Value.ownBlock] at h, fun q h => ?_, fun q h => ?_⟩
    · rw [Array.size_append, List.size_toArray, List.size_toArray, hrl, hzs]
      simp only [List.length_cons, List.length_nil]
      omega
    · simp
    · simp only [Value.ownBlock, Option.some.injEq] at h
      exact .inr (by omega)
    · simp only [Value.ownBlock, Option.some.injEq] at h
      have := newlt (.cells ([x].toArray ++ rest.toArray) e)
      omega
  · have hxs : ∀ j u, xs[j]? = some u → w.cell? ((⟨q, 0, none⟩ : Addr).add j) = some u := fun j u hj => by
      rw [addr_add, Nat.zero_add, cell_of_row w q j cur e (0, 0) hq]
      rw [← hc4, List.getElem?_take] at hj
      split at hj
      · simpa using hj
      · cases hj
    have hcl : xs.length = n := by omega
    by_cases hroom : n + 1 ≤ cap
    · have hfit : n * i.size + [x].length ≤ cur.size := by
        rw [hsize]
        simp only [List.length_cons, List.length_nil]
        omega
      have hrun := run_append_in (P := P) (w := w) (ty := ty) ht hi q n cap cur hq ad 1 1 [x] hxl hnews hnone hroom hfit
      have hg : w.grownBy (w.setRow q (over cur.toList (n * i.size) [x]).toArray) (some q) :=
        ⟨rfl, rfl, rfl, by simp [World.setRow], fun k _ hk => setRow_other w q k _ (fun e => hk (by rw [e]))⟩
      have hh := setRow_heap w q cur (over cur.toList (n * i.size) [x]).toArray e (0, 0) hq
      have hov : over cur.toList (n * i.size) [x] = xs ++ [x] ++ cur.toList.drop (n + 1) := by
        unfold Gv.over
        rw [hsize, Nat.mul_one]
        rw [Nat.mul_one] at hc4
        rw [hc4]
        simp
      refine ⟨_, _, hrun, ⟨by simp [hl], .inr ⟨q, cap, _, rfl, Nat.zero_le _, hh, hroom, hc2, ?_, ?_⟩⟩, hg, fun q' cur2 h1 h2 => ?_, fun q' h => .inl h, fun q' h => ?_⟩
      · rw [hov]
        simp only [List.size_toArray, List.length_append, List.length_drop, List.length_cons, List.length_nil, Array.length_toList]
        omega
      · rw [hov]
        simp only [List.toList_toArray]
        rw [List.take_append_of_le_length (by simp; omega), List.take_of_length_le (by simp; omega)]
      · simp only [Value.ownBlock, Option.some.injEq] at h1
        subst h1
        rw [hq] at h2
        simp only [Option.some.injEq, Obj.cells.injEq, true_and, and_true] at h2
        subst h2
        refine ⟨_, hh, ?_, ?_⟩
        · rw [hov]
          simp only [List.size_toArray, List.length_append, List.length_drop, List.length_cons, List.length_nil, Array.length_toList]
          omega
        · rw [hov]
          rw [Nat.mul_one] at hc4
          simp only [List.toList_toArray]
          rw [hc4, List.append_assoc, List.take_append_of_le_length (by omega), List.take_of_length_le (by omega)]
      · simp only [Value.ownBlock, Option.some.injEq] at h
        subst h
        exact heap_lt hh
    · have hrun := run_append_grow (P := P) w t ty e i z ht hi hz ⟨q, 0, none⟩ n cap xs (by rw [hsize]; omega) hxs ad 1 1 [x] hxl hnews (by omega) (by omega) (growslice_fits (by omega) (by rw [hby]; omega))
      obtain ⟨rest, hrest, hrl⟩ := zero_list z.cells (grownCap w (n + 1) cap e - (n + 1))
      rw [hrest] at hrun
      have hge := grownCap_ge w (n + 1) cap e
      have hcm : grownCap w (n + 1) cap e ≤ maxLen := grownCap_le_maxLen w (n + 1) cap e (by unfold maxLen; omega)
      refine ⟨_, _, hrun, ⟨by simp [hl], .inr ⟨w.heap.size, grownCap w (n + 1) cap e, xs.toArray ++ [x].toArray ++ rest.toArray, rfl, Nat.zero_le _, heap_alloc_new w.drew _, hge, hcm, ?_, ?_⟩⟩, fresh _, fun q' cur2 h1 h2 => ⟨cur2, kept _ _ _ h2, rfl, rfl⟩, fun q' h => ?_, fun q' h => ?_⟩
      · rw [Array.size_append, Array.size_append, List.size_toArray, List.size_toArray, List.size_toArray, hrl, hzs]
        simp only [List.length_cons, List.length_nil]
        omega
      · simp only [Array.toList_append, List.toList_toArray]
        rw [List.take_append_of_le_length (by simp; omega), List.take_of_length_le (by simp; omega)]
      · simp only [Value.ownBlock, Option.some.injEq] at h
        exact .inr (by omega)
      · simp only [Value.ownBlock, Option.some.injEq] at h
        have := newlt (.cells (xs.toArray ++ [x].toArray ++ rest.toArray) e)
        omega
structure Went (v : Value) (n : Nat) (X : Nat → Prop) (St : Nat → Nat → Prop) (w : World) (X' : Nat → Prop) (St' : Nat → Nat → Prop) (w' : World) : Prop where
  size : w.heap.size ≤ w'.heap.size
  keep : ∀ q, q < w.heap.size → ¬ X q → v.ownBlock ≠ some q → w'.heap[q]? = w.heap[q]?
  row : ∀ q cur, ¬ X q → v.ownBlock = some q → w.heap[q]? = some (.cells cur 3 (0, 0)) → ∃ cur', w'.heap[q]? = some (.cells cur' 3 (0, 0)) ∧ cur'.size = cur.size ∧ cur'.toList.take n = cur.toList.take n
  mono : ∀ q, X q → X' q
  new : ∀ q, X' q → X q ∨ w.heap.size ≤ q
  evo : Evo St w St' w'
  stnew : ∀ b o, St' b o → St b o ∨ X' b ∨ w.heap.size ≤ b
section
variable {v u : Value} {n m : Nat} {X X' X'' : Nat → Prop} {St St' St'' : Nat → Nat → Prop} {w w' w'' : World}
theorem Went.trans (h : Went v n X St w X' St' w') (k : Went v n X' St' w' X'' St'' w'') : Went v n X St w X'' St'' w'' := by
  have nx : ∀ q, q < w.heap.size → ¬ X q → ¬ X' q := fun q hq hx hx' => by
    rcases h.new q hx' with h1 | h1
    · exact hx h1
    · omega
  refine ⟨Nat.le_trans h.size k.size, fun q hq hx hv => (k.keep q (Nat.lt_of_lt_of_le hq h.size) (nx q hq hx) hv).trans (h.keep q hq hx hv), fun q cur hx hv hc => ?_, fun q hx => k.mono q (h.mono q hx), fun q hx => ?_, h.evo.trans k.evo, fun b o hs => ?_⟩
  · obtain ⟨c1, a1, a2, a3⟩ := h.row q cur hx hv hc
    obtain ⟨c2, b1, b2, b3⟩ := k.row q c1 (nx q (heap_lt hc) hx) hv a1
    exact ⟨c2, b1, b2.trans a2, b3.trans a3⟩
  · rcases k.new q hx with h1 | h1
    · exact h.new q h1
    · exact .inr (Nat.le_trans h.size h1)
  · rcases k.stnew b o hs with h1 | h1 | h1
    · rcases h.stnew b o h1 with h2 | h2 | h2
      · exact .inl h2
      · exact .inr (.inl (k.mono b h2))
      · exact .inr (.inr h2)
    · exact .inr (.inl h1)
    · exact .inr (.inr (Nat.le_trans h.size h1))
theorem Went.below (hl : ∀ b o, St b o → b < w.heap.size) (hb : Below w.heap.size w w') : Went v n X St w X St w' :=
  ⟨hb.size, fun q hq _ _ => hb.block q hq, fun q cur _ _ hc => ⟨cur, (hb.block q (heap_lt hc)).trans hc, rfl, rfl⟩, fun _ h => h, fun _ h => .inl h, evo_below hl hb (fun _ _ h => h), fun _ _ h => .inl h⟩
theorem Went.yields (h : Yields X St w X' St' w') : Went v n X St w X' St' w' :=
  ⟨h.size, fun q hq hx _ => h.keep q hq hx, fun q cur hx _ hc => ⟨cur, (h.keep q (heap_lt hc) hx).trans hc, rfl, rfl⟩, h.mono, h.new, h.evo, h.stnew⟩
theorem Went.inner (hg : w.grownBy w' v.ownBlock) (hr : ∀ q cur, v.ownBlock = some q → w.heap[q]? = some (.cells cur 3 (0, 0)) → ∃ cur', w'.heap[q]? = some (.cells cur' 3 (0, 0)) ∧ cur'.size = cur.size ∧ cur'.toList.take n = cur.toList.take n)
    (hu : ∀ q, u.ownBlock = some q → v.ownBlock = some q ∨ w.heap.size ≤ q) (hst : ∀ q, v.ownBlock = some q → ∀ o, ¬ St q o) (hlt : ∀ b o, St b o → b < w.heap.size)
    (h : Went u (n + 1) X St w' X' St' w'') : Went v n X St w X' St' w'' := by
  refine ⟨Nat.le_trans hg.size h.size, fun q hq hx hv => ?_, fun q cur hx hv hc => ?_, h.mono, fun q hx => (h.new q hx).imp id (fun k => Nat.le_trans hg.size k), fun b o hs => ?_, fun b o hs => (h.stnew b o hs).imp id (Or.imp id (fun k => Nat.le_trans hg.size k))⟩
  · refine (h.keep q (Nat.lt_of_lt_of_le hq hg.size) hx fun e => ?_).trans (hg.block q hq (fun e => hv e.symm))
    rcases hu q e with h1 | h1
    · exact hv h1
    · omega
  · obtain ⟨c1, a1, a2, a3⟩ := hr q cur hv hc
    by_cases he : u.ownBlock = some q
    · obtain ⟨c2, b1, b2, b3⟩ := h.row q c1 hx he a1
      refine ⟨c2, b1, b2.trans a2, ?_⟩
      have := congrArg (List.take n) b3
      rw [List.take_take, List.take_take, Nat.min_eq_left (by omega)] at this
      exact this.trans a3
    · exact ⟨c1, (h.keep q (heap_lt a1) hx he).trans a1, a2, a3⟩
  · obtain ⟨e1, e2⟩ := h.evo b o hs
    refine ⟨e1, e2.trans (World.cell?_of_block (hg.block b (hlt b o hs) fun e => ?_))⟩
    exact hst b e.symm o hs
end
structure Row (by' bx : Nat) (X : Nat → Prop) (St : Nat → Nat → Prop) (w : World) (v : Value) (n : Nat) (xs : List Value) : Prop where
  own : w.ownsRow 0 3 1 v n xs
  nx : ∀ q, v.ownBlock = some q → ¬ X q ∧ (∀ o, ¬ St q o) ∧ q ≠ by' ∧ q ≠ bx
theorem own_lt {w : World} {v : Value} {n : Nat} {xs : List Value} (h : w.ownsRow 0 3 1 v n xs) {q : Nat} (hq : v.ownBlock = some q) : ∃ cap cur, v = .slice (some ⟨q, 0, none⟩) n cap ∧ w.heap[q]? = some (.cells cur 3 (0, 0)) ∧ n ≤ cap ∧ cap ≤ maxLen ∧ cur.size = cap * 1 ∧ cur.toList.take (n * 1) = xs := by
  rcases h.2 with ⟨rfl, _⟩ | ⟨g, cap, cur, rfl, _, h2, h3, h4, h5, h6⟩
  · cases hq
  · simp only [Value.ownBlock, Option.some.injEq] at hq
    subst hq
    exact ⟨cap, cur, rfl, h2, h3, h4, h5, h6⟩
theorem Row.form {by' bx : Nat} {X : Nat → Prop} {St : Nat → Nat → Prop} {w : World} {v : Value} {n : Nat} {xs : List Value} (h : Row by' bx X St w v n xs) : ∃ a cap, v = .slice a n cap := by
  rcases h.own.2 with ⟨rfl, rfl⟩ | ⟨g, cap, cur, rfl, _⟩
  · exact ⟨_, _, rfl⟩
  · exact ⟨_, _, rfl⟩
theorem Row.went {by' bx : Nat} {X X' : Nat → Prop} {St St' : Nat → Nat → Prop} {w w' : World} {v u : Value} {n m : Nat} {xs : List Value} (h : Row by' bx X St w u m xs) (k : Went v n X St w X' St' w') (hm : u.ownBlock = v.ownBlock → m ≤ n) : Row by' bx X' St' w' u m xs := by
  refine ⟨⟨h.own.1, ?_⟩, fun q hq => ?_⟩
  · rcases h.own.2 with ⟨rfl, h0⟩ | ⟨g, cap, cur, rfl, h1, h2, h3, h4, h5, h6⟩
    · exact .inl ⟨rfl, h0⟩
    · have hx := (h.nx g rfl).1
      by_cases hv : v.ownBlock = some g
      · obtain ⟨c1, a1, a2, a3⟩ := k.row g cur hx hv h2
        have hmn := hm hv.symm
        refine .inr ⟨g, cap, c1, rfl, h1, a1, h3, h4, a2.trans h5, ?_⟩
        have := congrArg (List.take (m * 1)) a3
        rw [List.take_take, List.take_take, Nat.min_eq_left (by omega)] at this
        exact this.trans h6
      · exact .inr ⟨g, cap, cur, rfl, h1, (k.keep g (heap_lt h2) hx hv).trans h2, h3, h4, h5, h6⟩
  · obtain ⟨h1, h2, h3⟩ := h.nx q hq
    obtain ⟨_, cur, _, hc, _⟩ := own_lt h.own hq
    have hlt := heap_lt hc
    have hx' : ¬ X' q := fun hx => by
      rcases k.new q hx with h4 | h4
      · exact h1 h4
      · omega
    refine ⟨hx', fun o hs => ?_, h3⟩
    rcases k.stnew q o hs with h4 | h4 | h4
    · exact h2 o h4
    · exact hx' h4
    · omega
structure Bed (J : Nat → JT) (ac : Addr) (c : Nat) (by' bx l : Nat) (xv : Value) (i : Nat) (X : Nat → Prop) (St : Nat → Nat → Prop) (w : World) : Prop where
  j : J i X St w
  xlt : ∀ q, X q → q < w.heap.size
  slt : ∀ b o, St b o → b < w.heap.size
  s1 : St ac.block ac.off ∧ ac = ⟨ac.block, ac.off, none⟩
  c1 : w.cell? ac = some (.int .i64 c)
  c2 : w.cell? ⟨by', 0, none⟩ = some (.func (.yield l) #[] #[])
  c3 : w.cell? ⟨bx, 0, none⟩ = some xv
  n2 : ¬ X by'
  n3 : ¬ X bx
section
variable {J : Nat → JT} {ac : Addr} {c by' bx l : Nat} {xv : Value} {i i' : Nat} {X X' : Nat → Prop} {St St' : Nat → Nat → Prop} {w w' : World} {v : Value} {n : Nat}
theorem Bed.went (h : Bed J ac c by' bx l xv i X St w) (k : Went v n X St w X' St' w') (hv : ∀ q, v.ownBlock = some q → q ≠ by' ∧ q ≠ bx) (hj : J i' X' St' w') (hx : ∀ q, X' q → q < w'.heap.size) (hs : ∀ b o, St' b o → b < w'.heap.size) : Bed J ac c by' bx l xv i' X' St' w' := by
  have l2 := World.block_lt_of_cell? _ _ h.c2
  have l3 := World.block_lt_of_cell? _ _ h.c3
  obtain ⟨e1, e2⟩ := k.evo _ _ h.s1.1
  have nx : ∀ q, q < w.heap.size → ¬ X q → ¬ X' q := fun q hq hx hx' => by
    rcases k.new q hx' with h1 | h1
    · exact hx h1
    · omega
  refine ⟨hj, hx, hs, ⟨e1, h.s1.2⟩, ?_, ?_, ?_, nx _ l2 h.n2, nx _ l3 h.n3⟩
  · have := h.c1
    rw [h.s1.2] at this ⊢
    exact e2.trans this
  · exact (World.cell?_of_block (k.keep by' l2 h.n2 fun e => (hv _ e).1 rfl)).trans h.c2
  · exact (World.cell?_of_block (k.keep bx l3 h.n3 fun e => (hv _ e).2 rfl)).trans h.c3
theorem Bed.below (hab : ∀ i, Abides2 (J i)) (h : Bed J ac c by' bx l xv i X St w) (hb : Below w.heap.size w w') : Bed J ac c by' bx l xv i X St w' :=
  h.went (v := .slice none 0 0) (n := 0) (Went.below h.slt hb) (fun q hq => by cases hq)
    (hab i X St St w w' none h.j (grownBy_below hb) (by simp) (by simp) (evo_below h.slt hb (fun _ _ h => h)) (fun b o hs => Nat.lt_of_lt_of_le (h.slt b o hs) hb.size) (fun b o hs => .inl hs))
    (fun q hq => Nat.lt_of_lt_of_le (h.xlt q hq) hb.size) (fun b o hs => Nat.lt_of_lt_of_le (h.slt b o hs) hb.size)
theorem Bed.append (hab : ∀ i, Abides2 (J i)) (h : Bed J ac c by' bx l xv i X St w) {xs : List Value} (hr : Row by' bx X St w v n xs) (hg : w.grownBy w' v.ownBlock) (hk : ∀ q cur, v.ownBlock = some q → w.heap[q]? = some (.cells cur 3 (0, 0)) → ∃ cur', w'.heap[q]? = some (.cells cur' 3 (0, 0)) ∧ cur'.size = cur.size) : Bed J ac c by' bx l xv i X St w' := by
  have ev : Evo St w St w' := fun b o hs => ⟨hs, World.cell?_of_block (hg.block b (h.slt b o hs) fun e => (hr.nx b e.symm).2.1 o hs)⟩
  have l2 := World.block_lt_of_cell? _ _ h.c2
  have l3 := World.block_lt_of_cell? _ _ h.c3
  refine ⟨hab i X St St w w' v.ownBlock h.j hg (fun q hq => (hr.nx q hq).1) hk ev (fun b o hs => Nat.lt_of_lt_of_le (h.slt b o hs) hg.size) (fun b o hs => .inl hs), fun q hq => Nat.lt_of_lt_of_le (h.xlt q hq) hg.size, fun b o hs => Nat.lt_of_lt_of_le (h.slt b o hs) hg.size, h.s1, ?_, ?_, ?_, h.n2, h.n3⟩
  · have := h.c1
    rw [h.s1.2] at this ⊢
    exact (ev _ _ h.s1.1).2.trans this
  · exact (World.cell?_of_block (hg.block by' l2 fun e => (hr.nx _ e.symm).2.2.1 rfl)).trans h.c2
  · exact (World.cell?_of_block (hg.block bx l3 fun e => (hr.nx _ e.symm).2.2.2 rfl)).trans h.c3
end
def ext (c : Nat) : Nat → List Nat → List (List Nat)
  | 0, b => [b]
  | m + 1, b => (List.range c).flatMap fun i => if i ∈ b then [] else ext c m (b ++ [i])
theorem range_at {c k : Nat} (h : k < c) : ∃ r, List.range c = List.range k ++ k :: r := by
  refine ⟨(List.range c).drop (k + 1), ?_⟩
  have h1 := List.take_append_drop k (List.range c)
  rw [List.take_range, Nat.min_eq_left (by omega), List.drop_eq_getElem_cons (by simpa using h), List.getElem_range] at h1
  exact h1.symm
theorem fm_get {β : Type} {f : Nat → List β} {c k j : Nat} {r : β} (h : k < c) (hr : (f k)[j]? = some r) : ((List.range c).flatMap f)[((List.range k).flatMap f).length + j]? = some r := by
  obtain ⟨rest, e⟩ := range_at h
  rw [e, List.flatMap_append, List.flatMap_cons, List.getElem?_append_right (by omega), Nat.add_sub_cancel_left, List.getElem?_append_left (List.getElem?_eq_some_iff.1 hr).1]
  exact hr
theorem fm_succ {β : Type} (f : Nat → List β) (k : Nat) : ((List.range (k + 1)).flatMap f).length = ((List.range k).flatMap f).length + (f k).length := by
  rw [List.range_succ, List.flatMap_append, List.length_append]
  simp
theorem fm_le {β : Type} (f : Nat → List β) {c k : Nat} (h : k < c) : ((List.range k).flatMap f).length + (f k).length ≤ ((List.range c).flatMap f).length := by
  obtain ⟨rest, e⟩ := range_at h
  rw [e, List.flatMap_append, List.flatMap_cons, List.length_append, List.length_append]
  omega
def encN (l : List Nat) : List PV := l.map fun (x : Nat) => PV.int .i64 (x : Int)
def valN (l : List Nat) : List Value := l.map fun (x : Nat) => Value.int .i64 (x : Int)
theorem prs_vals (St : Nat → Nat → Prop) (w : World) : ∀ (l : List Nat), PRs St w (encN l) (valN l)
  | [] => rfl
  | x :: l => ⟨_, _, rfl, rfl, prs_vals St w l⟩
def rowP (b : List Nat) : PV := .list b.length (encN b)
theorem row_pr {St : Nat → Nat → Prop} {w : World} {B : Nat} {v : Value} {b : List Nat} (h : w.ownsRow B 3 1 v b.length (valN b)) (hs : ∀ q o, v.ownBlock = some q → o < b.length → St q o) : PR St w (rowP b) v := by
  rcases h.2 with ⟨rfl, h0⟩ | ⟨g, cap, cur, rfl, h1, h2, h3, h4, h5, h6⟩
  · refine ⟨none, 0, valN b, ?_, prs_vals St w b, by omega, .inl ⟨h0, ?_⟩⟩
    · rw [h0]
    · have := List.length_eq_zero_iff.1 h0
      subst this
      rfl
  · refine ⟨_, cap, valN b, rfl, prs_vals St w b, h3, .inr ⟨_, rfl, fun j x hj => ?_⟩⟩
    have hjl := (List.getElem?_eq_some_iff.1 hj).1
    have hjb : j < b.length := by simpa [valN] using hjl
    refine ⟨hs g _ rfl (by simpa using hjb), ?_, ?_⟩
    · rw [addr_add, Nat.zero_add, cell_of_row w g j cur 3 (0, 0) h2]
      rw [← h6, List.getElem?_take] at hj
      split at hj
      · simpa using hj
      · cases hj
    · have := List.mem_of_getElem? hj
      simp only [valN, List.mem_map] at this
      obtain ⟨y, _, rfl⟩ := this
      rfl
end Gv
