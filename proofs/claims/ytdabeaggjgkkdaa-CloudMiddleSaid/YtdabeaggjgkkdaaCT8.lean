import Derived.Test.YtdabeaggjgkkdaaCT5
import Derived.StillTailTactics

/- Layers in order of their bases: the comparison, and the sort. -/


namespace Gv
open Go Go.Proofs Go.RowKit Go.Shelf Go.Sort Go.ChangeShapes Go.WideShapes
set_option maxRecDepth 100000

/-- A layer: base, top, eighths. -/
abbrev Lay3 := Int × Int × Int
def valL (z : Lay3) : List Value := [.int .i64 z.1, .int .i64 z.2.1, .int .i64 z.2.2]
def cmpI (x y : Int) : Int := if x < y then -1 else if x > y then 1 else 0

set_option maxHeartbeats 1000000 in
theorem closure78 (x y : Lay3) (W : World) : Calls Try.prog 78 #[.agg (valL x).toArray, .agg (valL y).toArray] W fun e w' => e = .returned (.int .i64 (cmpI x.1 y.1)) ∧ ∃ q os', w' = grow (W.drewN q) os' := by
  simp only [valL]
  go_enter Try.func78, Try.ntmps78
  go_wp2
  all_goals go_ret
  all_goals (first | refine ⟨?_, 0, _, by rw [alloc_eq_grow, alloc_eq_grow, grow_grow]; rfl⟩ | skip)
  all_goals (first | (show Ending.returned (.int .i64 _) = _) | skip)
  all_goals (first | (simp [cmpI, *]; done) | (rw [cmpI, if_neg (by omega), if_neg (by omega)]))
end Gv

/- Layers: their error. -/
namespace Gv
open Go Go.Proofs Go.RowKit Go.Shelf Go.Sort Go.ChangeShapes Go.WideShapes
set_option maxRecDepth 100000

def firstE : List Int → Int
  | [] => 0
  | e :: l => if e ≠ 0 then e else firstE l
theorem firstE_drop : ∀ {l : List Int} {k : Nat}, (∀ j x, j < k → l[j]? = some x → x = 0) → firstE (l.drop k) = firstE l
  | _, 0, _ => rfl
  | [], k + 1, _ => rfl
  | e :: l, k + 1, h => by
    have h0 : e = 0 := h 0 e (by omega) rfl
    rw [List.drop_succ_cons, firstE_drop (l := l) (k := k) (fun j x hj hx => h (j + 1) x (by omega) hx)]
    simp [firstE, h0]
theorem firstE_at {l : List Int} {k : Nat} {e : Int} (h : ∀ j x, j < k → l[j]? = some x → x = 0) (hk : l[k]? = some e) (he : e ≠ 0) : firstE l = e := by
  rw [← firstE_drop h, List.drop_eq_getElem_cons (List.getElem?_eq_some_iff.1 hk).1, (List.getElem?_eq_some_iff.1 hk).2]
  simp [firstE, he]

set_option maxHeartbeats 1000000 in
theorem first54 (b o cap : Nat) (l : List Int) (w : World) (hn : l.length ≤ 1000) (hc : ∀ j x, l[j]? = some x → w.cell? ⟨b, o + j, none⟩ = some (.int .i64 x)) :
    Calls Try.prog 54 #[.slice (some ⟨b, o, none⟩) l.length cap] w fun e w' => e = .returned (.int .i64 (firstE l)) ∧ w' = w := by
  obtain ⟨n, hnl⟩ : ∃ n, n = l.length := ⟨_, rfl⟩
  have X : Aside (n = l.length) := hnl
  rw [← hnl] at hn ⊢
  clear hnl
  have HC : Hid (∀ j x, l[j]? = some x → w.cell? ⟨b, o + j, none⟩ = some (.int .i64 x)) := hc
  clear hc
  obtain ⟨r, hr⟩ : ∃ r, r = firstE l := ⟨_, rfl⟩
  have HR : Aside (r = firstE l) := hr
  rw [← hr]
  clear hr
  go_enter Try.func54, Try.ntmps54
  go_wp2
  go_loopw [7] (fun i wr => ∃ k : Nat, k ≤ n ∧ i = .int .i64 k ∧ wr = w ∧ Aside (∀ j x, j < k → l[j]? = some x → x = 0)) (fun i _ => n - (RowKit.intOf i).toNat)
  case atStart => exact ⟨0, Nat.zero_le _, rfl, rfl, fun j _ hj => absurd hj (Nat.not_lt_zero j)⟩
  case round =>
    obtain ⟨k, hk, rfl, rfl, hz⟩ := hrel
    by_cases hlt : k < n
    · obtain ⟨z, hzk⟩ : ∃ z, l[k]? = some z := ⟨l[k]'(by rw [← X.out]; exact hlt), List.getElem?_eq_getElem _⟩
      have c0 := HC.out k z hzk
      have HZ : Hid (l[k]? = some z) := hzk
      clear hzk
      by_cases h0 : z = 0
      · subst h0
        go_wp2
        refine ⟨⟨k + 1, by omega, by simp, trivial, fun j x hj hx => ?_⟩, by simp [RowKit.intOf]; omega⟩
        by_cases hjk : j = k
        · subst hjk
          rw [HZ.out] at hx
          exact (Option.some.inj hx).symm
        · exact hz.out j x (by omega) hx
      · go_wp2
        go_ret
        rw [HR.out, firstE_at hz.out HZ.out h0]
        exact ⟨rfl, rfl⟩
    · obtain rfl : k = n := by omega
      go_wp2
      go_ret
      rw [HR.out, ← firstE_drop hz.out, X.out, List.drop_length]
      exact ⟨rfl, rfl⟩

def rngE (x lo hi : Int) : Int := if x < lo ∨ hi < x then 2 else 0
set_option maxHeartbeats 1000000 in
theorem rng56 (x lo hi : Int) (w : World) : Calls Try.prog 56 #[.int .i64 x, .int .i64 lo, .int .i64 hi] w fun e w' => e = .returned (.int .i64 (rngE x lo hi)) ∧ w' = w := by
  go_enter Try.func56, Try.ntmps56
  go_wp2
  all_goals go_ret
  all_goals refine ⟨?_, rfl⟩
  all_goals first | (simp [rngE, *]; done) | trace_state

theorem err62 (b : Bool) (e : Int) (w : World) : Calls Try.prog 62 #[.bool b, .int .i64 e] w fun r w' => r = .returned (.int .i64 (if b then e else 0)) ∧ w' = w := by
  cases b <;> go_enter Try.func62, Try.ntmps62 <;> go_wp2 <;> go_ret <;> exact ⟨rfl, rfl⟩

def layE (z : Lay3) : Int := firstE [rngE z.1 0 20000, rngE z.2.1 0 20000, rngE z.2.2 0 8, if z.1 ≥ z.2.1 then 9 else 0]
set_option maxHeartbeats 1000000 in
theorem clos74 (v : Value) (z : Lay3) (w : World) : Calls Try.prog 74 #[v, .agg (valL z).toArray] w fun r w' => r = .returned (.int .i64 (layE z)) ∧ Below w.heap.size w w' := by
  obtain ⟨x, y, u⟩ := z
  simp only [valL]
  have h1 := fun W => rng56 x 0 20000 W
  have h2 := fun W => rng56 y 0 20000 W
  have h3 := fun W => rng56 u 0 8 W
  have hb : ∀ W, Calls Try.prog 62 #[.bool (decide (x ≥ y)), .int .i64 9] W fun r w' => r = .returned (.int .i64 (if x ≥ y then 9 else 0)) ∧ w' = W := fun W => (err62 (decide (x ≥ y)) 9 W).mono fun _ _ ⟨h, h'⟩ => ⟨by rw [h]; by_cases hxy : x ≥ y <;> simp [hxy], h'⟩
  have hl : layE (x, y, u) = firstE [rngE x 0 20000, rngE y 0 20000, rngE u 0 8, if x ≥ y then 9 else 0] := rfl
  rw [hl]
  generalize rngE x 0 20000 = a at h1 ⊢
  generalize rngE y 0 20000 = b at h2 ⊢
  generalize rngE u 0 8 = c at h3 ⊢
  generalize (if x ≥ y then (9 : Int) else 0) = d at hb ⊢
  go_enter Try.func74, Try.ntmps74
  go_wp2
  obtain ⟨W1, hW1⟩ : ∃ W1, W1 = w.alloc (.cells #[.int .i64 x, .int .i64 y, .int .i64 u] 111) := ⟨_, rfl⟩
  obtain ⟨q, hq⟩ : ∃ q, q = w.heap.size := ⟨_, rfl⟩
  have hb1 : Aside (q = w.heap.size ∧ Below w.heap.size w W1) := ⟨hq, by rw [hW1]; exact (Below.refl _ w).alloc (Nat.le_refl _) _⟩
  have hnew : W1.heap[q]? = some (.cells #[.int .i64 x, .int .i64 y, .int .i64 u] 111 (0, 0)) := by rw [hW1, hq]; exact heap_alloc_new w _
  have c0 : W1.cell? ⟨q, 0, none⟩ = some (.int .i64 x) := by have := cell_of_row W1 q 0 _ 111 (0, 0) hnew; simpa using this
  have c1 : W1.cell? ⟨q, 1, none⟩ = some (.int .i64 y) := by have := cell_of_row W1 q 1 _ 111 (0, 0) hnew; simpa using this
  have c2 : W1.cell? ⟨q, 2, none⟩ = some (.int .i64 u) := by have := cell_of_row W1 q 2 _ 111 (0, 0) hnew; simpa using this
  rw [← hW1, ← hq]
  clear hW1 hq
  refine wp_region_still_tail 15 (by kernel_rfl) (by kernel_rfl) ?_
  simp only [List.take_succ_cons, List.take_zero, List.drop_succ_cons, List.drop_zero]
  still_step
  still_step
  still_call (h1 _)
  still_step
  still_step
  still_call (h2 _)
  still_step
  still_step
  still_call (h3 _)
  still_step
  still_step
  still_step
  still_step
  still_step
  still_call (hb _)
  refine wpStill_nil ?_
  obtain ⟨w2, hw2⟩ : ∃ w2, w2 = W1.drew := ⟨_, rfl⟩
  have hb2 : Aside (q = w.heap.size ∧ Below w.heap.size w w2) := ⟨hb1.out.1, by rw [hw2]; exact hb1.out.2.drew⟩
  change wpList _ _ _ _ _ W1.drew
  rw [← hw2]
  clear hw2 hb1 c0 c1 c2 hnew h1 h2 h3 hb hl
  have h4 := first54 w2.heap.size 0 4 [a, b, c, d] (w2.alloc (.cells #[.int .i64 a, .int .i64 b, .int .i64 c, .int .i64 d] 35)) (by simp) (fun j x hj => by
    have := four_new w2 (.int .i64 a) (.int .i64 b) (.int .i64 c) (.int .i64 d) 35 j (.int .i64 x) (by
      rcases j with _ | _ | _ | _ | j <;> simp at hj ⊢ <;> exact hj)
    simpa [addr_add] using this)
  obtain ⟨r, hr⟩ : ∃ r, r = firstE [a, b, c, d] := ⟨_, rfl⟩
  rw [← hr] at h4
  have HR : Aside (r = firstE [a, b, c, d]) := hr
  clear hr
  go_wp2_with (go_at_call 54; refine h4.mono ?_; rintro e w3 ⟨rfl, rfl⟩)
  go_ret
  exact ⟨by rw [HR.out]; rfl, hb2.out.2.alloc hb2.out.2.size _⟩
end Gv

/- Layers: the error of a list of them. -/
namespace Gv
open Go Go.Proofs Go.RowKit Go.Shelf Go.Sort Go.ChangeShapes Go.WideShapes
set_option maxRecDepth 100000

/-- The cells of a list of layers. -/
def LayAt (w : World) (b off : Nat) (l : List Lay3) : Prop := ∀ j z, l[j]? = some z → w.cell? ⟨b, off + j * 3, none⟩ = some (.int .i64 z.1) ∧ w.cell? ⟨b, off + j * 3 + 1, none⟩ = some (.int .i64 z.2.1) ∧ w.cell? ⟨b, off + j * 3 + 2, none⟩ = some (.int .i64 z.2.2)

set_option maxHeartbeats 1000000 in
theorem item101 (b off cap : Nat) (l : List Lay3) (w : World) (hn : l.length ≤ 1000) (hcap : l.length ≤ cap) (hc : LayAt w b off l) :
    Calls Try.prog 101 #[.slice (some ⟨b, off, none⟩) l.length cap, .func (.func 74) #[] #[]] w fun e w' => (∃ i : Int, e = .returned (.tuple #[.int .i64 i, .int .i64 (firstE (l.map layE))])) ∧ Below w.heap.size w w' := by
  obtain ⟨n, hnl⟩ : ∃ n, n = l.length := ⟨_, rfl⟩
  have X : Aside (n = l.length) := hnl
  rw [← hnl] at hn hcap ⊢
  clear hnl
  have HC : Hid (LayAt w b off l) := hc
  clear hc
  obtain ⟨r, hr⟩ : ∃ r, r = firstE (l.map layE) := ⟨_, rfl⟩
  have HR : Aside (r = firstE (l.map layE)) := hr
  rw [← hr]
  clear hr
  go_enter Try.func101, Try.ntmps101
  go_wp2
  go_loopw [11] (fun i wr => ∃ k : Nat, k ≤ n ∧ i = .int .i64 k ∧ Below w.heap.size w wr ∧ Aside (∀ j x, j < k → (l.map layE)[j]? = some x → x = 0)) (fun i _ => n - (RowKit.intOf i).toNat)
  case atStart => exact ⟨0, Nat.zero_le _, rfl, Below.refl _ _, fun j _ hj => absurd hj (Nat.not_lt_zero j)⟩
  case round =>
    obtain ⟨k, hk, rfl, hnx, hz⟩ := hrel
    have hsize := hnx.size
    by_cases hlt : k < n
    · obtain ⟨z, hzk⟩ : ∃ z, l[k]? = some z := ⟨l[k]'(by rw [← X.out]; exact hlt), List.getElem?_eq_getElem _⟩
      obtain ⟨c0, c1, c2⟩ := HC.out k z hzk
      have hbl := World.block_lt_of_cell? w _ c0
      have cellr : ∀ a : Addr, a.block = b → wr.cell? a = w.cell? a := fun a ha => World.cell?_of_block (hnx.block a.block (by rw [ha]; exact hbl))
      rw [← cellr _ rfl] at c0 c1 c2
      have HZ : Hid ((l.map layE)[k]? = some (layE z)) := by show _ = _; rw [List.getElem?_map, hzk]; rfl
      clear cellr hzk
      have HN : Aside (Below w.heap.size w wr) := hnx
      have h74 := fun (v : Value) (W : World) => clos74 v z W
      simp only [valL] at h74
      generalize layE z = q at h74 HZ
      have hkc : k ≤ cap := by omega
      by_cases h0 : q = 0
      · subst h0
        go_wp2
        obtain ⟨W1, hW1⟩ : ∃ W1, W1 = wr.alloc (.cells #[.int .i64 z.1, .int .i64 z.2.1, .int .i64 z.2.2] 111) := ⟨_, rfl⟩
        obtain ⟨g, hg⟩ : ∃ g, g = wr.heap.size := ⟨_, rfl⟩
        have hb1 : Aside (Below w.heap.size w W1) := by show Below _ _ _; rw [hW1]; exact hnx.alloc hsize _
        have hnew : W1.heap[g]? = some (.cells #[.int .i64 z.1, .int .i64 z.2.1, .int .i64 z.2.2] 111 (0, 0)) := by rw [hW1, hg]; exact heap_alloc_new wr _
        have d0 : W1.cell? ⟨g, 0, none⟩ = some (.int .i64 z.1) := by have := cell_of_row W1 g 0 _ 111 (0, 0) hnew; simpa using this
        have d1 : W1.cell? ⟨g, 1, none⟩ = some (.int .i64 z.2.1) := by have := cell_of_row W1 g 1 _ 111 (0, 0) hnew; simpa using this
        have d2 : W1.cell? ⟨g, 2, none⟩ = some (.int .i64 z.2.2) := by have := cell_of_row W1 g 2 _ 111 (0, 0) hnew; simpa using this
        rw [← hW1, ← hg]
        clear hW1 hg hnew c0 c1 c2
        refine wp_region_still_tail 5 (by kernel_rfl) (by kernel_rfl) ?_
        simp only [List.take_succ_cons, List.take_zero, List.drop_succ_cons, List.drop_zero]
        still_step
        still_step
        still_step
        still_step
        still_step
        refine wpStill_nil ?_
        obtain ⟨w2, hw2⟩ : ∃ w2, w2 = W1.drew := ⟨_, rfl⟩
        have hb2 : Aside (Below w.heap.size w w2) := by show Below _ _ _; rw [hw2]; exact hb1.out.drew
        change wpList _ _ _ _ _ W1.drew
        rw [← hw2]
        clear hw2 hb1 d0 d1 d2
        go_wp2_with (go_at_call 74; refine (h74 _ _).mono ?_; rintro e w3 ⟨rfl, hb3⟩)
        refine ⟨⟨k + 1, by omega, by simp, ?_, fun j x hj hx => ?_⟩, by simp [RowKit.intOf]; omega⟩
        · exact hb2.out.trans (hb3.mono hb2.out.size)
        · by_cases hjk : j = k
          · subst hjk
            rw [HZ.out] at hx
            exact (Option.some.inj hx).symm
          · exact hz.out j x (by omega) hx
      · go_wp2
        obtain ⟨W1, hW1⟩ : ∃ W1, W1 = wr.alloc (.cells #[.int .i64 z.1, .int .i64 z.2.1, .int .i64 z.2.2] 111) := ⟨_, rfl⟩
        obtain ⟨g, hg⟩ : ∃ g, g = wr.heap.size := ⟨_, rfl⟩
        have hb1 : Aside (Below w.heap.size w W1) := by show Below _ _ _; rw [hW1]; exact hnx.alloc hsize _
        have hnew : W1.heap[g]? = some (.cells #[.int .i64 z.1, .int .i64 z.2.1, .int .i64 z.2.2] 111 (0, 0)) := by rw [hW1, hg]; exact heap_alloc_new wr _
        have d0 : W1.cell? ⟨g, 0, none⟩ = some (.int .i64 z.1) := by have := cell_of_row W1 g 0 _ 111 (0, 0) hnew; simpa using this
        have d1 : W1.cell? ⟨g, 1, none⟩ = some (.int .i64 z.2.1) := by have := cell_of_row W1 g 1 _ 111 (0, 0) hnew; simpa using this
        have d2 : W1.cell? ⟨g, 2, none⟩ = some (.int .i64 z.2.2) := by have := cell_of_row W1 g 2 _ 111 (0, 0) hnew; simpa using this
        rw [← hW1, ← hg]
        clear hW1 hg hnew c0 c1 c2
        refine wp_region_still_tail 5 (by kernel_rfl) (by kernel_rfl) ?_
        simp only [List.take_succ_cons, List.take_zero, List.drop_succ_cons, List.drop_zero]
        still_step
        still_step
        still_step
        still_step
        still_step
        refine wpStill_nil ?_
        obtain ⟨w2, hw2⟩ : ∃ w2, w2 = W1.drew := ⟨_, rfl⟩
        have hb2 : Aside (Below w.heap.size w w2) := by show Below _ _ _; rw [hw2]; exact hb1.out.drew
        change wpList _ _ _ _ _ W1.drew
        rw [← hw2]
        clear hw2 hb1 d0 d1 d2
        go_wp2_with (go_at_call 74; refine (h74 _ _).mono ?_; rintro e w3 ⟨rfl, hb3⟩)
        go_ret2
        rw [HR.out, firstE_at hz.out HZ.out h0]
        exact ⟨⟨_, rfl⟩, hb2.out.trans (hb3.mono hb2.out.size)⟩
    · obtain rfl : k = n := by omega
      go_wp2
      go_ret2
      have h0 : r = 0 := by
        rw [HR.out, ← firstE_drop hz.out, X.out, show l.length = (l.map layE).length by simp, List.drop_length]
        rfl
      subst h0
      exact ⟨⟨0, rfl⟩, hnx⟩

def laysE (l : List Lay3) : Int := if l.length > 10 then 8 else firstE (l.map layE)
set_option maxHeartbeats 1000000 in
theorem list73 (b off cap : Nat) (l : List Lay3) (w : World) (hn : l.length ≤ 1000) (hcap : l.length ≤ cap) (hc : LayAt w b off l) :
    Calls Try.prog 73 #[.slice (some ⟨b, off, none⟩) l.length cap, .int .i64 10, .func (.func 74) #[] #[]] w fun e w' => (∃ i : Int, e = .returned (.tuple #[.int .i64 i, .int .i64 (laysE l)])) ∧ Below w.heap.size w w' := by
  have h101 := item101 b off cap l w hn hcap hc
  clear hc
  unfold laysE
  obtain ⟨n, hnl⟩ : ∃ n, n = l.length := ⟨_, rfl⟩
  rw [← hnl] at hn hcap h101 ⊢
  clear hnl
  generalize firstE (l.map layE) = r at h101 ⊢
  by_cases h10 : n > 10
  · rw [if_pos h10]
    go_enter Try.func73, Try.ntmps73
    go_wp2
    go_ret2
    exact ⟨⟨_, rfl⟩, Below.refl _ _⟩
  · rw [if_neg h10]
    go_enter Try.func73, Try.ntmps73
    go_wp2_with (go_at_call 101; refine h101.mono ?_; rintro e w2 ⟨⟨i, rfl⟩, hb⟩)
    go_ret2
    exact ⟨⟨_, rfl⟩, hb⟩

set_option maxHeartbeats 1000000 in
theorem check33 (b off cap : Nat) (l : List Lay3) (w : World) (hn : l.length ≤ 1000) (hcap : l.length ≤ cap) (hc : LayAt w b off l) :
    Calls Try.prog 33 #[.slice (some ⟨b, off, none⟩) l.length cap] w fun e w' => (∃ i : Int, e = .returned (.tuple #[.int .i64 i, .int .i64 (laysE l)])) ∧ Below w.heap.size w w' := by
  have h73 := list73 b off cap l w hn hcap hc
  clear hc
  generalize laysE l = r at h73 ⊢
  go_enter Try.func33, Try.ntmps33
  go_wp2_with (go_at_call 73; refine h73.mono ?_; rintro e w2 ⟨⟨i, rfl⟩, hb⟩)
  go_ret2
  exact ⟨⟨_, rfl⟩, hb⟩

set_option maxHeartbeats 1000000 in
theorem lays75 (b off cap : Nat) (l : List Lay3) (w : World) (hn : l.length ≤ 1000) (hcap : l.length ≤ cap) (hc : LayAt w b off l) :
    Calls Try.prog 75 #[.slice (some ⟨b, off, none⟩) l.length cap] w fun e w' => e = .returned (.int .i64 (laysE l)) ∧ Below w.heap.size w w' := by
  have h33 := check33 b off cap l w hn hcap hc
  clear hc
  generalize laysE l = r at h33 ⊢
  go_enter Try.func75, Try.ntmps75
  go_wp2_with (go_at_call 33; refine h33.mono ?_; rintro e w2 ⟨⟨i, rfl⟩, hb⟩)
  go_ret
  exact ⟨rfl, hb⟩
end Gv
