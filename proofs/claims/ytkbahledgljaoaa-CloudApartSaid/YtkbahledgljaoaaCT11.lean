import Derived.Test.YtkbahledgljaoaaCT5
import Derived.StillTailTactics
import Derived.Test.YtkbahledgljaoaaGvLayD
import Derived.Lib.Walk
import Derived.Lib.SliceRun
namespace Gv
open Go Go.Proofs Go.RowKit Go.Shelf Go.Sort Go.ChangeShapes Go.WideShapes
set_option maxRecDepth 100000
abbrev Lay3 := Int × Int × Int
def valL (z : Lay3) : List Value := [.int .i64 z.1, .int .i64 z.2.1, .int .i64 z.2.2]
def cmpI (x y : Int) : Int := if x < y then -1 else if x > y then 1 else 0
set_option maxHeartbeats 1000000 in
theorem closure78 (x y : Lay3) (W : World) : Calls Try.prog 78 #[.agg (valL x).toArray, .agg (valL y).toArray] W fun e w' => e = .returned (.int .i64 (cmpI x.1 y.1)) ∧ ∃ q os', w' = grow (W.drewN q) os' := by
  simp only [valL]
  go_enter Try.func78, Try.ntmps78
  go_wp2
  all_goals go_ret
  all_goals (first | refine ⟨?_, 0, _, by rw [alloc_eq_grow, alloc_eq_grow, grow_grow]; rfl⟩ | skip)
  all_goals (first | (show Ending.returned (.int .i64 _) = _) | skip)
  all_goals (first | (simp [cmpI, *]; done) | (rw [cmpI, if_neg (by omega), if_neg (by omega)]))
end Gv
namespace Gv
open Go Go.Proofs Go.RowKit Go.Shelf Go.Sort Go.ChangeShapes Go.WideShapes
set_option maxRecDepth 100000
def firstE : List Int → Int
  | [] => 0
  | e :: l => if e ≠ 0 then e else firstE l
theorem firstE_drop : ∀ {l : List Int} {k : Nat}, (∀ j x, j < k → l[j]? = some x → x = 0) → firstE (l.drop k) = firstE l
  | _, 0, _ => rfl
  | [], k + 1, _ => rfl
  | e :: l, k + 1, h => by
    have h0 : e = 0 := h 0 e (by omega) rfl
    rw [List.drop_succ_cons, firstE_drop (l := l) (k := k) (fun j x hj hx => h (j + 1) x (by omega) hx)]
    simp [firstE, h0]
theorem firstE_at {l : List Int} {k : Nat} {e : Int} (h : ∀ j x, j < k → l[j]? = some x → x = 0) (hk : l[k]? = some e) (he : e ≠ 0) : firstE l = e := by
  rw [← firstE_drop h, List.drop_eq_getElem_cons (List.getElem?_eq_some_iff.1 hk).1, (List.getElem?_eq_some_iff.1 hk).2]
  simp [firstE, he]
set_option maxHeartbeats 1000000 in
theorem first54 (b o cap : Nat) (l : List Int) (w : World) (hn : l.length ≤ 1000) (hc : ∀ j x, l[j]? = some x → w.cell? ⟨b, o + j, none⟩ = some (.int .i64 x)) :
    Calls Try.prog 54 #[.slice (some ⟨b, o, none⟩) l.length cap] w fun e w' => e = .returned (.int .i64 (firstE l)) ∧ w' = w := by
  obtain ⟨n, hnl⟩ : ∃ n, n = l.length := ⟨_, rfl⟩
  have X : Aside (n = l.length) := hnl
  rw [← hnl] at hn ⊢
  clear hnl
  have HC : Hid (∀ j x, l[j]? = some x → w.cell? ⟨b, o + j, none⟩ = some (.int .i64 x)) := hc
  clear hc
  obtain ⟨r, hr⟩ : ∃ r, r = firstE l := ⟨_, rfl⟩
  have HR : Aside (r = firstE l) := hr
  rw [← hr]
  clear hr
  go_enter Try.func54, Try.ntmps54
  go_wp2
  go_loopw [7] (fun i wr => ∃ k : Nat, k ≤ n ∧ i = .int .i64 k ∧ wr = w ∧ Aside (∀ j x, j < k → l[j]? = some x → x = 0)) (fun i _ => n - (RowKit.intOf i).toNat)
  case atStart => exact ⟨0, Nat.zero_le _, rfl, rfl, fun j _ hj => absurd hj (Nat.not_lt_zero j)⟩
  case round =>
    obtain ⟨k, hk, rfl, rfl, hz⟩ := hrel
    by_cases hlt : k < n
    · obtain ⟨z, hzk⟩ : ∃ z, l[k]? = some z := ⟨l[k]'(by rw [← X.out]; exact hlt), List.getElem?_eq_getElem _⟩
      have c0 := HC.out k z hzk
      have HZ : Hid (l[k]? = some z) := hzk
      clear hzk
      by_cases h0 : z = 0
      · subst h0
        go_wp2
        refine ⟨⟨k + 1, by omega, by simp, trivial, fun j x hj hx => ?_⟩, by simp [RowKit.intOf]; omega⟩
        by_cases hjk : j = k
        · subst hjk
          rw [HZ.out] at hx
          exact (Option.some.inj hx).symm
        · exact hz.out j x (by omega) hx
      · go_wp2
        go_ret
        rw [HR.out, firstE_at hz.out HZ.out h0]
        exact ⟨rfl, rfl⟩
    · obtain rfl : k = n := by omega
      go_wp2
      go_ret
      rw [HR.out, ← firstE_drop hz.out, X.out, List.drop_length]
      exact ⟨rfl, rfl⟩
def rngE (x lo hi : Int) : Int := if x < lo ∨ hi < x then 2 else 0
set_option maxHeartbeats 1000000 in
theorem rng56 (x lo hi : Int) (w : World) : Calls Try.prog 56 #[.int .i64 x, .int .i64 lo, .int .i64 hi] w fun e w' => e = .returned (.int .i64 (rngE x lo hi)) ∧ w' = w := by
  go_enter Try.func56, Try.ntmps56
  go_wp2
  all_goals go_ret
  all_goals refine ⟨?_, rfl⟩
  all_goals first | (simp [rngE, *]; done) | trace_state
theorem err62 (b : Bool) (e : Int) (w : World) : Calls Try.prog 62 #[.bool b, .int .i64 e] w fun r w' => r = .returned (.int .i64 (if b then e else 0)) ∧ w' = w := by
  cases b <;> go_enter Try.func62, Try.ntmps62 <;> go_wp2 <;> go_ret <;> exact ⟨rfl, rfl⟩
def layE (z : Lay3) : Int := firstE [rngE z.1 0 20000, rngE z.2.1 0 20000, rngE z.2.2 0 8, if z.1 ≥ z.2.1 then 9 else 0]
set_option maxHeartbeats 1000000 in
theorem clos74 (v : Value) (z : Lay3) (w : World) : Calls Try.prog 74 #[v, .agg (valL z).toArray] w fun r w' => r = .returned (.int .i64 (layE z)) ∧ Below w.heap.size w w' := by
  obtain ⟨x, y, u⟩ := z
  simp only [valL]
  have h1 := fun W => rng56 x 0 20000 W
  have h2 := fun W => rng56 y 0 20000 W
  have h3 := fun W => rng56 u 0 8 W
  have hb : ∀ W, Calls Try.prog 62 #[.bool (decide (x ≥ y)), .int .i64 9] W fun r w' => r = .returned (.int .i64 (if x ≥ y then 9 else 0)) ∧ w' = W := fun W => (err62 (decide (x ≥ y)) 9 W).mono fun _ _ ⟨h, h'⟩ => ⟨by rw [h]; by_cases hxy : x ≥ y <;> simp [hxy], h'⟩
  have hl : layE (x, y, u) = firstE [rngE x 0 20000, rngE y 0 20000, rngE u 0 8, if x ≥ y then 9 else 0] := rfl
  rw [hl]
  generalize rngE x 0 20000 = a at h1 ⊢
  generalize rngE y 0 20000 = b at h2 ⊢
  generalize rngE u 0 8 = c at h3 ⊢
  generalize (if x ≥ y then (9 : Int) else 0) = d at hb ⊢
  go_enter Try.func74, Try.ntmps74
  go_wp2
  obtain ⟨W1, hW1⟩ : ∃ W1, W1 = w.alloc (.cells #[.int .i64 x, .int .i64 y, .int .i64 u] 111) := ⟨_, rfl⟩
  obtain ⟨q, hq⟩ : ∃ q, q = w.heap.size := ⟨_, rfl⟩
  have hb1 : Aside (q = w.heap.size ∧ Below w.heap.size w W1) := ⟨hq, by rw [hW1]; exact (Below.refl _ w).alloc (Nat.le_refl _) _⟩
  have hnew : W1.heap[q]? = some (.cells #[.int .i64 x, .int .i64 y, .int .i64 u] 111 (0, 0)) := by rw [hW1, hq]; exact heap_alloc_new w _
  have c0 : W1.cell? ⟨q, 0, none⟩ = some (.int .i64 x) := by have := cell_of_row W1 q 0 _ 111 (0, 0) hnew; simpa using this
  have c1 : W1.cell? ⟨q, 1, none⟩ = some (.int .i64 y) := by have := cell_of_row W1 q 1 _ 111 (0, 0) hnew; simpa using this
  have c2 : W1.cell? ⟨q, 2, none⟩ = some (.int .i64 u) := by have := cell_of_row W1 q 2 _ 111 (0, 0) hnew; simpa using this
  rw [← hW1, ← hq]
  clear hW1 hq
  refine wp_region_still_tail 15 (by kernel_rfl) (by kernel_rfl) ?_
  simp only [List.take_succ_cons, List.take_zero, List.drop_succ_cons, List.drop_zero]
  still_step
  still_step
  still_call (h1 _)
  still_step
  still_step
  still_call (h2 _)
  still_step
  still_step
  still_call (h3 _)
  still_step
  still_step
  still_step
  still_step
  still_step
  still_call (hb _)
  refine wpStill_nil ?_
  obtain ⟨w2, hw2⟩ : ∃ w2, w2 = W1.drew := ⟨_, rfl⟩
  have hb2 : Aside (q = w.heap.size ∧ Below w.heap.size w w2) := ⟨hb1.out.1, by rw [hw2]; exact hb1.out.2.drew⟩
  change wpList _ _ _ _ _ W1.drew
  rw [← hw2]
  clear hw2 hb1 c0 c1 c2 hnew h1 h2 h3 hb hl
  have h4 := first54 w2.heap.size 0 4 [a, b, c, d] (w2.alloc (.cells #[.int .i64 a, .int .i64 b, .int .i64 c, .int .i64 d] 35)) (by simp) (fun j x hj => by
    have := four_new w2 (.int .i64 a) (.int .i64 b) (.int .i64 c) (.int .i64 d) 35 j (.int .i64 x) (by
      rcases j with _ | _ | _ | _ | j <;> simp at hj ⊢ <;> exact hj)
    simpa [addr_add] using this)
  obtain ⟨r, hr⟩ : ∃ r, r = firstE [a, b, c, d] := ⟨_, rfl⟩
  rw [← hr] at h4
  have HR : Aside (r = firstE [a, b, c, d]) := hr
  clear hr
  go_wp2_with (go_at_call 54; refine h4.mono ?_; rintro e w3 ⟨rfl, rfl⟩)
  go_ret
  exact ⟨by rw [HR.out]; rfl, hb2.out.2.alloc hb2.out.2.size _⟩
end Gv
namespace Gv
open Go Go.Proofs Go.RowKit Go.Shelf Go.Sort Go.ChangeShapes Go.WideShapes
set_option maxRecDepth 100000
def LayAt (w : World) (b off : Nat) (l : List Lay3) : Prop := ∀ j z, l[j]? = some z → w.cell? ⟨b, off + j * 3, none⟩ = some (.int .i64 z.1) ∧ w.cell? ⟨b, off + j * 3 + 1, none⟩ = some (.int .i64 z.2.1) ∧ w.cell? ⟨b, off + j * 3 + 2, none⟩ = some (.int .i64 z.2.2)
set_option maxHeartbeats 1000000 in
theorem item101 (b off cap : Nat) (l : List Lay3) (w : World) (hn : l.length ≤ 1000) (hcap : l.length ≤ cap) (hc : LayAt w b off l) :
    Calls Try.prog 101 #[.slice (some ⟨b, off, none⟩) l.length cap, .func (.func 74) #[] #[]] w fun e w' => (∃ i : Int, e = .returned (.tuple #[.int .i64 i, .int .i64 (firstE (l.map layE))])) ∧ Below w.heap.size w w' := by
  obtain ⟨n, hnl⟩ : ∃ n, n = l.length := ⟨_, rfl⟩
  have X : Aside (n = l.length) := hnl
  rw [← hnl] at hn hcap ⊢
  clear hnl
  have HC : Hid (LayAt w b off l) := hc
  clear hc
  obtain ⟨r, hr⟩ : ∃ r, r = firstE (l.map layE) := ⟨_, rfl⟩
  have HR : Aside (r = firstE (l.map layE)) := hr
  rw [← hr]
  clear hr
  go_enter Try.func101, Try.ntmps101
  go_wp2
  go_loopw [11] (fun i wr => ∃ k : Nat, k ≤ n ∧ i = .int .i64 k ∧ Below w.heap.size w wr ∧ Aside (∀ j x, j < k → (l.map layE)[j]? = some x → x = 0)) (fun i _ => n - (RowKit.intOf i).toNat)
  case atStart => exact ⟨0, Nat.zero_le _, rfl, Below.refl _ _, fun j _ hj => absurd hj (Nat.not_lt_zero j)⟩
  case round =>
    obtain ⟨k, hk, rfl, hnx, hz⟩ := hrel
    have hsize := hnx.size
    by_cases hlt : k < n
    · obtain ⟨z, hzk⟩ : ∃ z, l[k]? = some z := ⟨l[k]'(by rw [← X.out]; exact hlt), List.getElem?_eq_getElem _⟩
      obtain ⟨c0, c1, c2⟩ := HC.out k z hzk
      have hbl := World.block_lt_of_cell? w _ c0
      have cellr : ∀ a : Addr, a.block = b → wr.cell? a = w.cell? a := fun a ha => World.cell?_of_block (hnx.block a.block (by rw [ha]; exact hbl))
      rw [← cellr _ rfl] at c0 c1 c2
      have HZ : Hid ((l.map layE)[k]? = some (layE z)) := by show _ = _; rw [List.getElem?_map, hzk]; rfl
      clear cellr hzk
      have HN : Aside (Below w.heap.size w wr) := hnx
      have h74 := fun (v : Value) (W : World) => clos74 v z W
      simp only [valL] at h74
      generalize layE z = q at h74 HZ
      have hkc : k ≤ cap := by omega
      by_cases h0 : q = 0
      · subst h0
        go_wp2
        obtain ⟨W1, hW1⟩ : ∃ W1, W1 = wr.alloc (.cells #[.int .i64 z.1, .int .i64 z.2.1, .int .i64 z.2.2] 111) := ⟨_, rfl⟩
        obtain ⟨g, hg⟩ : ∃ g, g = wr.heap.size := ⟨_, rfl⟩
        have hb1 : Aside (Below w.heap.size w W1) := by show Below _ _ _; rw [hW1]; exact hnx.alloc hsize _
        have hnew : W1.heap[g]? = some (.cells #[.int .i64 z.1, .int .i64 z.2.1, .int .i64 z.2.2] 111 (0, 0)) := by rw [hW1, hg]; exact heap_alloc_new wr _
        have d0 : W1.cell? ⟨g, 0, none⟩ = some (.int .i64 z.1) := by have := cell_of_row W1 g 0 _ 111 (0, 0) hnew; simpa using this
        have d1 : W1.cell? ⟨g, 1, none⟩ = some (.int .i64 z.2.1) := by have := cell_of_row W1 g 1 _ 111 (0, 0) hnew; simpa using this
        have d2 : W1.cell? ⟨g, 2, none⟩ = some (.int .i64 z.2.2) := by have := cell_of_row W1 g 2 _ 111 (0, 0) hnew; simpa using this
        rw [← hW1, ← hg]
        clear hW1 hg hnew c0 c1 c2
        refine wp_region_still_tail 5 (by kernel_rfl) (by kernel_rfl) ?_
        simp only [List.take_succ_cons, List.take_zero, List.drop_succ_cons, List.drop_zero]
        still_step
        still_step
        still_step
        still_step
        still_step
        refine wpStill_nil ?_
        obtain ⟨w2, hw2⟩ : ∃ w2, w2 = W1.drew := ⟨_, rfl⟩
        have hb2 : Aside (Below w.heap.size w w2) := by show Below _ _ _; rw [hw2]; exact hb1.out.drew
        change wpList _ _ _ _ _ W1.drew
        rw [← hw2]
        clear hw2 hb1 d0 d1 d2
        go_wp2_with (go_at_call 74; refine (h74 _ _).mono ?_; rintro e w3 ⟨rfl, hb3⟩)
        refine ⟨⟨k + 1, by omega, by simp, ?_, fun j x hj hx => ?_⟩, by simp [RowKit.intOf]; omega⟩
        · exact hb2.out.trans (hb3.mono hb2.out.size)
        · by_cases hjk : j = k
          · subst hjk
            rw [HZ.out] at hx
            exact (Option.some.inj hx).symm
          · exact hz.out j x (by omega) hx
      · go_wp2
        obtain ⟨W1, hW1⟩ : ∃ W1, W1 = wr.alloc (.cells #[.int .i64 z.1, .int .i64 z.2.1, .int .i64 z.2.2] 111) := ⟨_, rfl⟩
        obtain ⟨g, hg⟩ : ∃ g, g = wr.heap.size := ⟨_, rfl⟩
        have hb1 : Aside (Below w.heap.size w W1) := by show Below _ _ _; rw [hW1]; exact hnx.alloc hsize _
        have hnew : W1.heap[g]? = some (.cells #[.int .i64 z.1, .int .i64 z.2.1, .int .i64 z.2.2] 111 (0, 0)) := by rw [hW1, hg]; exact heap_alloc_new wr _
        have d0 : W1.cell? ⟨g, 0, none⟩ = some (.int .i64 z.1) := by have := cell_of_row W1 g 0 _ 111 (0, 0) hnew; simpa using this
        have d1 : W1.cell? ⟨g, 1, none⟩ = some (.int .i64 z.2.1) := by have := cell_of_row W1 g 1 _ 111 (0, 0) hnew; simpa using this
        have d2 : W1.cell? ⟨g, 2, none⟩ = some (.int .i64 z.2.2) := by have := cell_of_row W1 g 2 _ 111 (0, 0) hnew; simpa using this
        rw [← hW1, ← hg]
        clear hW1 hg hnew c0 c1 c2
        refine wp_region_still_tail 5 (by kernel_rfl) (by kernel_rfl) ?_
        simp only [List.take_succ_cons, List.take_zero, List.drop_succ_cons, List.drop_zero]
        still_step
        still_step
        still_step
        still_step
        still_step
        refine wpStill_nil ?_
        obtain ⟨w2, hw2⟩ : ∃ w2, w2 = W1.drew := ⟨_, rfl⟩
        have hb2 : Aside (Below w.heap.size w w2) := by show Below _ _ _; rw [hw2]; exact hb1.out.drew
        change wpList _ _ _ _ _ W1.drew
        rw [← hw2]
        clear hw2 hb1 d0 d1 d2
        go_wp2_with (go_at_call 74; refine (h74 _ _).mono ?_; rintro e w3 ⟨rfl, hb3⟩)
        go_ret2
        rw [HR.out, firstE_at hz.out HZ.out h0]
        exact ⟨⟨_, rfl⟩, hb2.out.trans (hb3.mono hb2.out.size)⟩
    · obtain rfl : k = n := by omega
      go_wp2
      go_ret2
      have h0 : r = 0 := by
        rw [HR.out, ← firstE_drop hz.out, X.out, show l.length = (l.map layE).length by simp, List.drop_length]
        rfl
      subst h0
      exact ⟨⟨0, rfl⟩, hnx⟩
def laysE (l : List Lay3) : Int := if l.length > 10 then 8 else firstE (l.map layE)
set_option maxHeartbeats 1000000 in
theorem list73 (b off cap : Nat) (l : List Lay3) (w : World) (hn : l.length ≤ 1000) (hcap : l.length ≤ cap) (hc : LayAt w b off l) :
    Calls Try.prog 73 #[.slice (some ⟨b, off, none⟩) l.length cap, .int .i64 10, .func (.func 74) #[] #[]] w fun e w' => (∃ i : Int, e = .returned (.tuple #[.int .i64 i, .int .i64 (laysE l)])) ∧ Below w.heap.size w w' := by
  have h101 := item101 b off cap l w hn hcap hc
  clear hc
  unfold laysE
  obtain ⟨n, hnl⟩ : ∃ n, n = l.length := ⟨_, rfl⟩
  rw [← hnl] at hn hcap h101 ⊢
  clear hnl
  generalize firstE (l.map layE) = r at h101 ⊢
  by_cases h10 : n > 10
  · rw [if_pos h10]
    go_enter Try.func73, Try.ntmps73
    go_wp2
    go_ret2
    exact ⟨⟨_, rfl⟩, Below.refl _ _⟩
  · rw [if_neg h10]
    go_enter Try.func73, Try.ntmps73
    go_wp2_with (go_at_call 101; refine h101.mono ?_; rintro e w2 ⟨⟨i, rfl⟩, hb⟩)
    go_ret2
    exact ⟨⟨_, rfl⟩, hb⟩
set_option maxHeartbeats 1000000 in
theorem check33 (b off cap : Nat) (l : List Lay3) (w : World) (hn : l.length ≤ 1000) (hcap : l.length ≤ cap) (hc : LayAt w b off l) :
    Calls Try.prog 33 #[.slice (some ⟨b, off, none⟩) l.length cap] w fun e w' => (∃ i : Int, e = .returned (.tuple #[.int .i64 i, .int .i64 (laysE l)])) ∧ Below w.heap.size w w' := by
  have h73 := list73 b off cap l w hn hcap hc
  clear hc
  generalize laysE l = r at h73 ⊢
  go_enter Try.func33, Try.ntmps33
  go_wp2_with (go_at_call 73; refine h73.mono ?_; rintro e w2 ⟨⟨i, rfl⟩, hb⟩)
  go_ret2
  exact ⟨⟨_, rfl⟩, hb⟩
set_option maxHeartbeats 1000000 in
theorem lays75 (b off cap : Nat) (l : List Lay3) (w : World) (hn : l.length ≤ 1000) (hcap : l.length ≤ cap) (hc : LayAt w b off l) :
    Calls Try.prog 75 #[.slice (some ⟨b, off, none⟩) l.length cap] w fun e w' => e = .returned (.int .i64 (laysE l)) ∧ Below w.heap.size w w' := by
  have h33 := check33 b off cap l w hn hcap hc
  clear hc
  generalize laysE l = r at h33 ⊢
  go_enter Try.func75, Try.ntmps75
  go_wp2_with (go_at_call 33; refine h33.mono ?_; rintro e w2 ⟨⟨i, rfl⟩, hb⟩)
  go_ret
  exact ⟨rfl, hb⟩
end Gv
namespace Gv
open Go Go.Proofs Go.RowKit Go.Shelf Go.Sort Go.ChangeShapes Go.WideShapes
set_option maxRecDepth 100000
set_option maxHeartbeats 2000000 in
theorem clone76 (b off n c : Nat) (news : List Value) (w : World) (hl : news.length = n * 3) (hn : n ≤ 1000) (hc : ∀ j u, news[j]? = some u → w.cell? ⟨b, off + j, none⟩ = some u) (h1 : ∀ u ∈ news, u.oneCell' = true) :
    Calls Try.prog 76 #[.slice (some ⟨b, off, none⟩) n c] w fun e w' => ∃ v', e = .returned v' ∧ w'.ownsRow w.heap.size 111 3 v' n news ∧ v' ≠ .slice none 0 0 ∧ Below w.heap.size w w' := by
  have q : ∀ (w : World) (a : Option Addr) (n c n' c' : Nat), (binOp .eql 63 (.slice a n c) (.slice none n' c')).run Try.prog w = .ok (.bool a.isNone) w := fun w a n c n' c' => Lib.run_eql_slice_nil w _ _ a n c n' c' Try.underlying63
  have u22 : ∀ w, Sem.run Try.prog (underlying 63) w = .ok (TypeDesc.slice 111) w := run_underlying Try.underlying63
  obtain ⟨i0, hi, hz0, hz1, hz2⟩ : ∃ i0, Try.prog.info? 111 = some i0 ∧ i0.zero = some (.agg #[.int .i64 0, .int .i64 0, .int .i64 0]) ∧ i0.size = 3 ∧ i0.bytes = 24 := ⟨_, rfl, by kernel_rfl, by kernel_rfl, by kernel_rfl⟩
  have A : Aside (∀ j u, news[j]? = some u → w.cell? ⟨b, off + j, none⟩ = some u) := hc
  clear hc
  go_enter Try.func76, Try.ntmps76
  go_wp2_with (at_builtin; refine wpList_append_own _ rfl _ _ 63 rfl w.heap.size 111 i0 (.agg #[.int .i64 0, .int .i64 0, .int .i64 0]) 3 24 Try.underlying63 hi hz0 hz1 hz2 rfl (by decide) _ _ _ rfl (World.ownsRow_made w #[] 0 (Nat.le_refl _) (Nat.zero_le _) rfl) ⟨b, off, none⟩ n c news rfl hl (fun j u hj => by rw [Addr.add_lit]; exact Lib.cell?_alloc_some _ (A.out j u hj)) h1 (by unfold maxLen; omega) (by omega) (by simp) ?_)
  intro v' w1 hown hgrow hnil
  go_wp2
  go_ret
  refine ⟨v', rfl, by simpa using hown, hnil, ?_⟩
  exact ((Below.refl _ w).alloc (Nat.le_refl _) _).grown hgrow (by simp) (by intro k hk; simp [Value.ownBlock] at hk; omega)
def cfL (x y : Lay3) : Int := cmpI x.1 y.1
theorem ins113 (blk off cap a b : Nat) (d : Array Lay3) (w : World) (hH : HoldsK valL 3 w blk off d) (hblk : blk < w.heap.size) (hab : a ≤ b) (hb : b ≤ d.size) (hsz : d.size < 1000) :
    Calls Try.prog 113 #[.slice (some ⟨blk, off, none⟩) d.size cap, .int .i64 a, .int .i64 b, .func (.func 78) #[] #[]] w fun e w' => e = .returned (.tuple #[]) ∧ ∃ n os, w' = sortWorldK valL 3 w blk off n (Sort.insertionSort (ltOf cfL) d a b) os :=
  AnyQ.insertionSortCmpFunc Try.laysIns 3 Try.isAgg111 Try.sizeOf111 valL (fun _ => rfl) (fun x v hv => by simp [valL] at hv; rcases hv with rfl | rfl | rfl <;> rfl) cfL 78 #[] blk off cap a b d w
    (enters_of Try.func78 (by kernel_rfl) rfl) (fun _ _ _ _ x y => closure78 x y _) hH hblk hab hb (by omega)
set_option maxHeartbeats 1000000 in
theorem stable102 (blk off cap : Nat) (d : Array Lay3) (w : World) (hH : HoldsK valL 3 w blk off d) (hblk : blk < w.heap.size) (hsz : d.size < 20) :
    Calls Try.prog 102 #[.slice (some ⟨blk, off, none⟩) d.size cap, .int .i64 d.size, .func (.func 78) #[] #[]] w fun e w' => e = .returned (.tuple #[]) ∧ ∃ n os, w' = sortWorldK valL 3 w blk off n (Sort.insertionSort (ltOf cfL) d 0 d.size) os := by
  have hi := ins113 blk off cap 0 d.size d w hH hblk (Nat.zero_le _) (Nat.le_refl _) (by omega)
  clear hH
  generalize Sort.insertionSort (ltOf cfL) d 0 d.size = r at hi ⊢
  obtain ⟨n, hn⟩ : ∃ n, n = d.size := ⟨_, rfl⟩
  rw [← hn] at hi hsz ⊢
  clear hn
  have hle : ¬ (20 : Int) ≤ (n : Int) := by omega
  have hlt : ¬ (20 : Int) < (n : Int) := by omega
  have hi : Calls Try.prog 113 #[.slice (some ⟨blk, off, none⟩) n cap, .int .i64 0, .int .i64 n, .func (.func 78) #[] #[]] w fun e w' => e = .returned (.tuple #[]) ∧ ∃ n os, w' = sortWorldK valL 3 w blk off n r os := hi
  go_enter Try.func102, Try.ntmps102
  go_wp2
  go_loopw [7, 8] (fun x y wr => x = .int .i64 0 ∧ y = .int .i64 20 ∧ wr = w) (fun _ _ _ => 0)
  case atStart => exact ⟨rfl, rfl, rfl⟩
  case round =>
    obtain ⟨rfl, rfl, rfl⟩ := hrel
    go_wp2_with (go_at_call 113; refine hi.mono ?_; rintro e w2 ⟨rfl, k, os, rfl⟩)
    go_loopw [6] (fun x w3 => x = .int .i64 20 ∧ w3 = sortWorldK valL 3 wr blk off k r os) (fun _ _ => 0)
    case atStart => exact ⟨rfl, rfl⟩
    case round =>
      obtain ⟨rfl, rfl⟩ := hrel
      go_wp2
      go_end0
      exact ⟨rfl, k, os, rfl⟩
set_option maxHeartbeats 1000000 in
theorem sort77 (blk off cap : Nat) (d : Array Lay3) (w : World) (hH : HoldsK valL 3 w blk off d) (hblk : blk < w.heap.size) (hsz : d.size < 20) :
    Calls Try.prog 77 #[.slice (some ⟨blk, off, none⟩) d.size cap, .func (.func 78) #[] #[]] w fun e w' => e = .returned (.tuple #[]) ∧ ∃ n os, w' = sortWorldK valL 3 w blk off n (Sort.insertionSort (ltOf cfL) d 0 d.size) os := by
  have hi := stable102 blk off cap d w hH hblk hsz
  clear hH
  generalize Sort.insertionSort (ltOf cfL) d 0 d.size = r at hi ⊢
  generalize d.size = n at hi ⊢
  go_enter Try.func77, Try.ntmps77
  go_wp2_with (go_at_call 102; refine hi.mono ?_; rintro e w2 ⟨rfl, k, os, rfl⟩)
  go_end0
  exact ⟨rfl, k, os, rfl⟩
end Gv
namespace Gv
open Go Go.Proofs Go.RowKit Go.Shelf Go.Sort Go.ChangeShapes Go.WideShapes
set_option maxRecDepth 100000
theorem insInner_len {α : Type} [Inhabited α] (lt : α → α → Bool) (a : Nat) : ∀ (j : Nat) (d : Array α), (Sort.insInner lt a j d).size = d.size
  | 0, _ => rfl
  | j + 1, d => by
    unfold Sort.insInner
    split
    · rw [insInner_len lt a j]; simp [swp]
    · rfl
theorem insOuter_len {α : Type} [Inhabited α] (lt : α → α → Bool) (a b : Nat) : ∀ (m i : Nat) (d : Array α), b - i ≤ m → (Sort.insOuter lt a b i d).size = d.size
  | 0, i, d, h => by rw [insOuter_stop lt a b i d (by omega)]
  | m + 1, i, d, h => by
    by_cases hi : i < b
    · rw [insOuter_go lt a b i d hi, insOuter_len lt a b m (i + 1) _ (by omega), insInner_len]
    · rw [insOuter_stop lt a b i d hi]
theorem insSort_len {α : Type} [Inhabited α] (lt : α → α → Bool) (d : Array α) (a b : Nat) : (Sort.insertionSort lt d a b).size = d.size := insOuter_len lt a b _ _ _ (Nat.le_refl _)
def srtL (l : List Lay3) : List Lay3 := (Sort.insertionSort (ltOf cfL) l.toArray 0 l.length).toList
theorem srtL_len (l : List Lay3) : (srtL l).length = l.length := by
  show (Sort.insertionSort (ltOf cfL) l.toArray 0 l.length).toList.length = _
  rw [Array.length_toList, insSort_len]
  simp
theorem lflat_get (l : List Lay3) (t : Nat) (h : t < l.length * 3) : (l.flatMap valL)[t]? = some ((Go.Sort.flatK valL 3 l.toArray)[t]!) := by
  rw [Go.Sort.get_flatK valL 3 l.toArray t (by simpa using h)]
  have hj : t / 3 < l.length := by omega
  have hk : t % 3 < 3 := by omega
  have he : t / 3 * 3 + t % 3 = t := by omega
  have hg := valT_get l (t / 3) (t % 3) hk
  rw [he] at hg
  show (l.flatMap valT)[t]? = _
  rw [hg, List.getElem?_eq_getElem hj]
  simp only [Option.bind_some]
  rw [List.getElem!_toArray, List.getElem!_eq_getElem?_getD (l := l), List.getElem?_eq_getElem hj]
  simp only [Option.getD_some]
  have hl : t % 3 < (valT l[t / 3]).length := hk
  rw [List.getElem?_eq_getElem hl]
  show _ = some ((valT l[t / 3])[t % 3]!)
  rw [getElem!_pos (valT l[t / 3]) (t % 3) hl]
theorem holdsK_own {w : World} {g : Nat} {cur : Array Value} {e : TypeId} {l : List Lay3} (hb : w.heap[g]? = some (.cells cur e (0, 0))) (ht : cur.toList.take (l.length * 3) = l.flatMap valL) : HoldsK valL 3 w g 0 l.toArray := by
  intro j hj
  have hj' : j < l.length * 3 := by simpa using hj
  refine ⟨?_, by simp [World.frozen?, hb]⟩
  rw [Nat.zero_add, cell_of_row w g j _ e (0, 0) hb, ← Array.getElem?_toList, ← List.getElem?_take_of_lt hj', ht, lflat_get l j hj']
  rfl
theorem layAt_holds {w : World} {g : Nat} {l : List Lay3} (h : HoldsK valL 3 w g 0 l.toArray) : LayAt w g 0 l := by
  intro j z hj
  have hjl : j < l.length := (List.getElem?_eq_some_iff.1 hj).1
  have key : ∀ k, k < 3 → w.cell? ⟨g, 0 + j * 3 + k, none⟩ = (valL z)[k]? := fun k hk => by
    have h1 := (h (j * 3 + k) (by simp; omega)).1
    have h2 := lflat_get l (j * 3 + k) (by omega)
    have h3 := valT_get l j k hk
    rw [hj] at h3
    have h4 : some ((Go.Sort.flatK valL 3 l.toArray)[j * 3 + k]!) = (valL z)[k]? := h2.symm.trans h3
    rw [Nat.add_assoc, h1]
    exact h4
  exact ⟨key 0 (by omega), key 1 (by omega), key 2 (by omega)⟩
theorem grownBy_layers {w : World} {g n : Nat} {os : Array Obj} (d : Array Lay3) : w.grownBy (sortWorldK valL 3 w g 0 n d os) (some g) := by
  unfold sortWorldK Go.Sort.putRowK
  refine ⟨rfl, rfl, rfl, by simp, fun k hk hne => ?_⟩
  rw [heap_grow_old _ _ (by simpa using hk)]
  have : g ≠ k := fun e => hne (by rw [e])
  simp [putRow, mapBlock, Sort.ahead, Array.getElem?_modify, this]
theorem sorted_own {B n : Nat} {w : World} {v : Value} {l : List Lay3} (h : w.ownsRow B 111 3 v n (l.flatMap valL)) (hnn : v ≠ .slice none 0 0) (hn : n = l.length) (hsz : n < 20) :
    ∃ g cap, v = .slice (some ⟨g, 0, none⟩) n cap ∧ B ≤ g ∧ n ≤ cap ∧ Calls Try.prog 77 #[v, .func (.func 78) #[] #[]] w fun e w' => e = .returned (.tuple #[]) ∧ LayAt w' g 0 (srtL l) ∧ w.grownBy w' (some g) := by
  subst hn
  rcases h.2 with ⟨rfl, _⟩ | ⟨g, cap, cur, rfl, hb, hg, h1, h2, h3, h4⟩
  · exact absurd rfl hnn
  · refine ⟨g, cap, rfl, hb, h1, ?_⟩
    have hH := holdsK_own hg h4
    have hs := sort77 g 0 cap l.toArray w hH (heap_lt hg) (by simpa using hsz)
    simp only [List.size_toArray] at hs
    refine hs.mono fun e w' hw => ?_
    obtain ⟨rfl, m, os, rfl⟩ := hw
    refine ⟨rfl, layAt_holds ?_, grownBy_layers _⟩
    have := holdsK_sortWorldK_c valL 3 w g 0 l.toArray (Sort.insertionSort (ltOf cfL) l.toArray 0 l.length) m os hH (heap_lt hg) (insSort_len _ _ _ _)
    simpa [srtL] using this
end Gv
namespace Gv
open Go Go.Proofs Go.RowKit Go.Shelf Go.Sort Go.ChangeShapes Go.WideShapes
set_option maxRecDepth 100000
def scanC : List Lay3 → Int → Int → Int × Int
  | [], _, _ => (0, 12)
  | z :: r, c, e => if wrap64 (c + z.2.2) ≥ e then (z.1, 0) else scanC r (wrap64 (c + z.2.2)) e
def ceilV (l : List Lay3) (e : Int) : Int × Int := if firstE [laysE l, rngE e 1 8] ≠ 0 then (0, firstE [laysE l, rngE e 1 8]) else scanC (srtL l) 0 e
theorem two_new (W : World) (x y : Value) (t : TypeId) : ∀ j v, [x, y][j]? = some v → (W.alloc (.cells #[x, y] t)).cell? ((⟨W.heap.size, 0, none⟩ : Addr).add j) = some v := by
  intro j v hj
  have h : (W.alloc (.cells #[x, y] t)).heap[W.heap.size]? = some (.cells #[x, y] t (0, 0)) := heap_alloc_new W _
  rw [addr_add, Nat.zero_add, cell_of_row _ _ j _ t (0, 0) h]
  simpa using hj
theorem lay_cells {w : World} {b off : Nat} : ∀ {l : List Lay3}, LayAt w b off l → ∀ j u, (l.flatMap valL)[j]? = some u → w.cell? ⟨b, off + j, none⟩ = some u := by
  intro l h j u hj
  have hk : j % 3 < 3 := by omega
  have he : j / 3 * 3 + j % 3 = j := by omega
  have hg := valT_get l (j / 3) (j % 3) hk
  rw [he] at hg
  have hg' : (l.flatMap valL)[j]? = _ := hg
  rw [hg'] at hj
  cases hz : l[j / 3]? with
  | none => rw [hz] at hj; simp at hj
  | some z =>
    rw [hz] at hj
    simp only [Option.bind_some] at hj
    obtain ⟨a, b', c⟩ := h (j / 3) z hz
    have h3 : j % 3 = 0 ∨ j % 3 = 1 ∨ j % 3 = 2 := by omega
    rcases h3 with h3 | h3 | h3 <;> rw [h3] at hj <;> simp only [valT, List.getElem?_cons_zero, List.getElem?_cons_succ, Option.some.injEq] at hj <;> subst hj
    · rw [show off + j = off + j / 3 * 3 by omega]; exact a
    · rw [show off + j = off + j / 3 * 3 + 1 by omega]; exact b'
    · rw [show off + j = off + j / 3 * 3 + 2 by omega]; exact c
theorem lay_one (l : List Lay3) : ∀ u ∈ l.flatMap valL, u.oneCell' = true := by
  intro u hu
  obtain ⟨z, _, hz⟩ := List.mem_flatMap.1 hu
  simp [valL] at hz
  rcases hz with rfl | rfl | rfl <;> rfl
theorem lay_len : ∀ l : List Lay3, (l.flatMap valL).length = l.length * 3
  | [] => rfl
  | z :: l => by
    rw [List.flatMap_cons, List.length_append, lay_len l, List.length_cons]
    show 3 + _ = _
    omega
theorem LayAt.below {w w' : World} {B b off : Nat} {l : List Lay3} (h : LayAt w b off l) (hB : b < B) (hb : Below B w w') : LayAt w' b off l := fun j z hj => by
  have hc : ∀ a : Addr, a.block = b → w'.cell? a = w.cell? a := fun a ha => World.cell?_of_block (hb.block a.block (by rw [ha]; exact hB))
  obtain ⟨x, y, u⟩ := h j z hj
  rw [← hc _ rfl] at x y u
  exact ⟨x, y, u⟩
set_option maxHeartbeats 1000000 in
theorem ceil_at (b off cap : Nat) (l : List Lay3) (e : Int) (w : World) (hn1 : 1 ≤ l.length) (hn : l.length ≤ 1000) (hcap : l.length ≤ cap) (hc : LayAt w b off l) :
    Calls Try.prog 35 #[.slice (some ⟨b, off, none⟩) l.length cap, .int .i64 e] w fun r w' => r = .returned (.tuple #[.int .i64 (ceilV l e).1, .int .i64 (ceilV l e).2]) ∧ Below w.heap.size w w' := by
  have h75 := lays75 b off cap l w hn hcap hc
  have h56 := fun W => rng56 e 1 8 W
  have hbl : b < w.heap.size := by
    obtain ⟨z, hz⟩ : ∃ z, l[0]? = some z := ⟨l[0]'(by omega), List.getElem?_eq_getElem _⟩
    exact World.block_lt_of_cell? w _ (hc 0 z hz).1
  have HC : Aside (LayAt w b off l ∧ b < w.heap.size) := ⟨hc, hbl⟩
  clear hc hbl
  obtain ⟨r, hr⟩ : ∃ r, r = ceilV l e := ⟨_, rfl⟩
  have HR : Aside (r = ceilV l e) := hr
  rw [← hr]
  clear hr
  obtain ⟨x, hx⟩ : ∃ x, x = laysE l := ⟨_, rfl⟩
  obtain ⟨y, hy⟩ : ∃ y, y = rngE e 1 8 := ⟨_, rfl⟩
  have HX : Aside (x = laysE l ∧ y = rngE e 1 8) := ⟨hx, hy⟩
  rw [← hx] at h75
  rw [← hy] at h56
  clear hx hy
  obtain ⟨n, hnl⟩ : ∃ n, n = l.length := ⟨_, rfl⟩
  have X : Aside (n = l.length) := hnl
  rw [← hnl] at hn hcap h75 ⊢
  clear hnl
  have h54 : ∀ W : World, Calls Try.prog 54 #[.slice (some ⟨W.heap.size, 0, none⟩) 2 2] (W.alloc (.cells #[.int .i64 x, .int .i64 y] 35)) fun e w' => e = .returned (.int .i64 (firstE [x, y])) ∧ w' = W.alloc (.cells #[.int .i64 x, .int .i64 y] 35) := fun W =>
    first54 W.heap.size 0 2 [x, y] _ (by simp) (fun j u hj => by
      have := two_new W (.int .i64 x) (.int .i64 y) 35 j (.int .i64 u) (by rcases j with _ | _ | j <;> simp at hj ⊢ <;> exact hj)
      simpa [addr_add] using this)
  obtain ⟨q, hq⟩ : ∃ q, q = firstE [x, y] := ⟨_, rfl⟩
  have HQ : Aside (q = firstE [x, y]) := hq
  rw [← hq] at h54
  clear hq
  by_cases h0 : q = 0
  · subst h0
    have hten : n ≤ 10 := by
      have h := HQ.out
      rw [HX.out.1] at h
      by_cases hl : l.length > 10
      · simp [firstE, laysE, hl] at h
      · rw [X.out]; omega
    have hclone := fun W hW => clone76 b off n cap (l.flatMap valL) W (by rw [lay_len, X.out]) hn hW (lay_one l)
    go_enter Try.func35, Try.ntmps35
    go_wp2_with (first
      | (go_at_call 75; refine h75.mono ?_; rintro _ w1 ⟨rfl, hb1⟩)
      | (go_at_call 56; refine (h56 _).mono ?_; rintro _ w2 ⟨rfl, rfl⟩)
      | (go_at_call 54; refine (h54 _).mono ?_; rintro _ w3 ⟨rfl, rfl⟩
         have hb3 := hb1.alloc hb1.size (.cells #[.int .i64 x, .int .i64 y] 35)
         have hcl := hclone _ (lay_cells (HC.out.1.below HC.out.2 hb3))
         have Z3 : Aside _ := hb3
         clear hb3)
      | (go_at_call 76; refine hcl.mono ?_; rintro _ w4 ⟨v4, rfl, hown, hnn, hb4⟩
         obtain ⟨g, c4, rfl, hgB, hc4, hsort⟩ := sorted_own hown hnn X.out (by omega)
         have Z4 : Aside (Below w.heap.size w w4 ∧ w.heap.size ≤ g) := ⟨Z3.out.trans (hb4.mono Z3.out.size), Nat.le_trans Z3.out.size hgB⟩
         clear hown hnn hb4 hgB)
      | (go_at_call 77; refine hsort.mono ?_; rintro _ w5 ⟨rfl, hlay, hg5⟩
         have Z5 : Aside (Below w.heap.size w w5) := Z4.out.1.grown hg5 Z4.out.1.size (fun j hj => by cases hj; exact Z4.out.2)
         have HL : Aside (LayAt w5 g 0 (srtL l)) := hlay
         clear hlay hg5))
    obtain ⟨s, hs⟩ : ∃ s, s = srtL l := ⟨_, rfl⟩
    have hsl : Aside (s.length = n) := by show s.length = n; rw [hs, srtL_len, X.out]
    have hsv : Aside (r = scanC (s.drop 0) 0 e) := by
      show r = _
      rw [HR.out]
      unfold ceilV
      rw [← HX.out.1, ← HX.out.2, ← HQ.out, if_neg (by simp), List.drop_zero, hs]
    have hgl : Aside (g < w5.heap.size) := by
      have hlay := HL.out
      obtain ⟨z, hz⟩ : ∃ z, (srtL l)[0]? = some z := ⟨(srtL l)[0]'(by rw [srtL_len]; omega), List.getElem?_eq_getElem _⟩
      exact World.block_lt_of_cell? w5 _ (hlay 0 z hz).1
    rw [← hs] at HL
    clear hs h75 h56 h54 hclone hcl hsort HC HR HX HQ
    go_loopw [8, 26] (fun c i wr => ∃ (k : Nat) (c' : Int), k ≤ n ∧ i = .int .i64 k ∧ c = .int .i64 c' ∧ Below w5.heap.size w5 wr ∧ Aside (r = scanC (s.drop k) c' e)) (fun _ i _ => n - (RowKit.intOf i).toNat)
    case atStart => exact ⟨0, 0, Nat.zero_le _, rfl, rfl, Below.refl _ _, hsv⟩
    case round =>
      obtain ⟨k, c', hk, rfl, rfl, hnx, hz⟩ := hrel
      have hsize := hnx.size
      by_cases hlt : k < n
      · obtain ⟨z, hzk⟩ : ∃ z, s[k]? = some z := ⟨s[k]'(by have := hsl.out; omega), List.getElem?_eq_getElem _⟩
        obtain ⟨c0, c1, c2⟩ := (HL.out.below hgl.out hnx) k z hzk
        rw [Nat.zero_add] at c0 c1 c2
        have hdrop : s.drop k = z :: s.drop (k + 1) := by
          rw [List.drop_eq_getElem_cons (List.getElem?_eq_some_iff.1 hzk).1, (List.getElem?_eq_some_iff.1 hzk).2]
        have HZ : Aside (s.drop k = z :: s.drop (k + 1)) := hdrop
        clear hzk hdrop
        by_cases hge : wrap64 (c' + z.2.2) ≥ e
        · go_wp2
          go_ret2
          have hr : r = (z.1, 0) := by rw [hz.out, HZ.out, scanC, if_pos hge]
          rw [hr]
          exact ⟨rfl, Z5.out.trans ((hnx.mono Z5.out.size).alloc (Nat.le_trans Z5.out.size hsize) _)⟩
        · go_wp2
          refine ⟨⟨k + 1, wrap64 (c' + z.2.2), by omega, by simp, rfl, hnx.alloc hsize _, ?_⟩, by simp [RowKit.intOf]; omega⟩
          show r = _
          rw [hz.out, HZ.out, scanC, if_neg hge]
      · obtain rfl : k = n := by omega
        go_wp2
        go_ret2
        have hr : r = (0, 12) := by
          rw [hz.out, ← hsl.out, List.drop_length]
          rfl
        rw [hr]
        exact ⟨rfl, Z5.out.trans (hnx.mono Z5.out.size)⟩
  · go_enter Try.func35, Try.ntmps35
    go_wp2_with (first | (go_at_call 75; refine h75.mono ?_; rintro _ w1 ⟨rfl, hb1⟩) | (go_at_call 56; refine (h56 _).mono ?_; rintro _ w2 ⟨rfl, rfl⟩) | (go_at_call 54; refine (h54 _).mono ?_; rintro _ w3 ⟨rfl, rfl⟩))
    go_ret2
    refine ⟨?_, hb1.alloc hb1.size _⟩
    have hv : r = (0, q) := by
      rw [HR.out]
      unfold ceilV
      rw [← HX.out.1, ← HX.out.2, ← HQ.out, if_pos h0]
    rw [hv]
    rfl
def insOs (b : Nat) : Nat → Nat → Array Lay3 → Array Lay3
  | 0, _, d => d
  | m + 1, i, d => insOs b m (i + 1) (Sort.insInner (ltOf cfL) 0 i d)
theorem insOs_eq (b : Nat) : ∀ (m i : Nat) (d : Array Lay3), b - i = m → Sort.insOuter (ltOf cfL) 0 b i d = insOs b m i d
  | 0, i, d, h => insOuter_stop (ltOf cfL) 0 b i d (by omega)
  | m + 1, i, d, h => by
    rw [insOuter_go (ltOf cfL) 0 b i d (by omega), insOs_eq b m (i + 1) _ (by omega)]
    rfl
def srtK (l : List Lay3) : List Lay3 := (insOs l.length (l.length - 1) 1 l.toArray).toList
theorem srtK_eq (l : List Lay3) : srtL l = srtK l := by
  unfold srtL srtK Sort.insertionSort
  rw [insOs_eq l.length (l.length - 1) (0 + 1) l.toArray (by omega)]
def ceilK (l : List Lay3) (e : Int) : Int × Int := if firstE [laysE l, rngE e 1 8] ≠ 0 then (0, firstE [laysE l, rngE e 1 8]) else scanC (srtK l) 0 e
theorem ceilK_eq (l : List Lay3) (e : Int) : ceilV l e = ceilK l e := by
  unfold ceilV ceilK
  rw [srtK_eq]
def ceilG : List PV → Option PV
  | [.list n cs, .int .i64 e] => match shtsOf cs with
    | some l => if l.length = n ∧ 1 ≤ n ∧ n ≤ 1000 then some (.tup [.int .i64 (ceilK l e).1, .int .i64 (ceilK l e).2]) else none
    | none => none
  | _ => none
theorem ceil35 : PrimOK Try.prog 35 ceilG := by
  refine ⟨⟨Try.f35, Try.func35, by kernel_rfl, by decide⟩, fun args v hg w St vals hlt hargs => ?_⟩
  unfold ceilG at hg
  split at hg <;> try (cases hg; done)
  rename_i n cs e
  split at hg <;> try (cases hg; done)
  rename_i l hl
  split at hg <;> try (cases hg; done)
  rename_i hn
  simp only [Option.some.injEq] at hg
  subst hg
  obtain ⟨rfl, h1, h2⟩ := hn
  have hcs := shtsOf_some (Nat.le_refl _) hl
  subst hcs
  simp only [PRs, PR] at hargs
  obtain ⟨u, _, rfl, ⟨a, cap, us, rfl, hus, hcap, hat⟩, u2, _, rfl, rfl, rfl⟩ := hargs
  have := prs_shts hus
  subst this
  rcases hat with ⟨h, _⟩ | ⟨ad, rfl, hat⟩
  · omega
  · have cellv : ∀ j z k x, l[j]? = some z → k < 3 → (valT z)[k]? = some x → w.cell? (ad.add (j * 3 + k)) = some x := fun j z k x hj hk hx =>
      (hat (j * 3 + k) x (by rw [valT_get l j k hk, hj]; exact hx)).2.1
    obtain ⟨z0, hz0⟩ : ∃ z, l[0]? = some z := ⟨l[0]'(by omega), List.getElem?_eq_getElem _⟩
    have hc0 := cellv 0 z0 0 (.int .i64 z0.1) hz0 (by omega) rfl
    have ee : ad = ⟨ad.block, ad.off, none⟩ := add_form ad 0 (cell_spot hc0)
    rw [ee]
    refine (ceil_at ad.block ad.off cap l e w h1 h2 hcap fun j z hj => ?_).mono ?_
    · have a0 := cellv j z 0 (.int .i64 z.1) hj (by omega) rfl
      have a1 := cellv j z 1 (.int .i64 z.2.1) hj (by omega) rfl
      have a2 := cellv j z 2 (.int .i64 z.2.2) hj (by omega) rfl
      rw [add_form ad _ (cell_spot a0)] at a0
      rw [add_form ad _ (cell_spot a1)] at a1
      rw [add_form ad _ (cell_spot a2)] at a2
      exact ⟨a0, a1, a2⟩
    · rintro _ w' ⟨rfl, hb⟩
      rw [ceilK_eq]
      exact ⟨_, St, rfl, by simp [RR, PR, PRs], hb, fun _ _ h => h, fun b o h => by have := hlt b o h; have := hb.size; omega, fun _ _ h => .inl h⟩
end Gv
