import Derived.Test.YtkbahledgljaoaaCT11
namespace Gv
open Go Go.Proofs Go.RowKit Go.Shelf Go.Sort Go.ChangeShapes Go.WideShapes
set_option maxRecDepth 100000
def enS (en win c : Int) (z : Sht) : Int := wrap64 (c + wrap64 (z.2.2 * max 0 (wrap64 (min z.2.1 en - max z.1 (wrap64 (en - win))))))
def enB (l : List Sht) (en win : Int) : Int := l.foldl (enS en win) 0
set_option maxHeartbeats 1000000 in
theorem energy86 (b off cap : Nat) (l : List Sht) (en win : Int) (w : World) (hn : l.length ≤ 1000) (hc : LayAt w b off l) :
    Calls Try.prog 86 #[.slice (some ⟨b, off, none⟩) l.length cap, .int .i64 en, .int .i64 win] w fun r w' => r = .returned (.int .i64 (enB l en win)) ∧ Below w.heap.size w w' := by
  obtain ⟨r, hr⟩ : ∃ r, r = enB l en win := ⟨_, rfl⟩
  have HR : Aside (r = enB l en win) := hr
  rw [← hr]
  clear hr
  obtain ⟨n, hnl⟩ : ∃ n, n = l.length := ⟨_, rfl⟩
  have X : Aside (n = l.length) := hnl
  rw [← hnl] at hn ⊢
  clear hnl
  have HC : Hid (LayAt w b off l) := hc
  clear hc
  go_enter Try.func86, Try.ntmps86
  go_wp2
  go_loopw [7, 13] (fun c i wr => ∃ (k : Nat) (c' : Int), k ≤ n ∧ i = .int .i64 k ∧ c = .int .i64 c' ∧ Below w.heap.size w wr ∧ Aside (r = (l.drop k).foldl (enS en win) c')) (fun _ i _ => n - (RowKit.intOf i).toNat)
  case atStart => exact ⟨0, 0, Nat.zero_le _, rfl, rfl, Below.refl _ _, HR.out⟩
  case round =>
    obtain ⟨k, c', hk, rfl, rfl, hnx, hz⟩ := hrel
    have hsize := hnx.size
    by_cases hlt : k < n
    · obtain ⟨z, hzk⟩ : ∃ z, l[k]? = some z := ⟨l[k]'(by rw [← X.out]; exact hlt), List.getElem?_eq_getElem _⟩
      obtain ⟨c0, c1, c2⟩ := HC.out k z hzk
      have hbl := World.block_lt_of_cell? w _ c0
      have cellr : ∀ a : Addr, a.block = b → wr.cell? a = w.cell? a := fun a ha => World.cell?_of_block (hnx.block a.block (by rw [ha]; exact hbl))
      rw [← cellr _ rfl] at c0 c1 c2
      have HZ : Aside (l.drop k = z :: l.drop (k + 1)) := by
        show l.drop k = _
        rw [List.drop_eq_getElem_cons (List.getElem?_eq_some_iff.1 hzk).1, (List.getElem?_eq_some_iff.1 hzk).2]
      clear cellr hzk
      go_wp2
      refine ⟨⟨k + 1, _, by omega, by simp, rfl, hnx.alloc hsize _, ?_⟩, by simp [RowKit.intOf]; omega⟩
      show r = _
      rw [hz.out, HZ.out]
      rfl
    · obtain rfl : k = n := by omega
      go_wp2
      go_ret
      have hr : r = c' := by rw [hz.out, X.out, List.drop_length]; rfl
      rw [hr]
      exact ⟨rfl, hnx⟩
end Gv
namespace Gv
open Go Go.Proofs Go.RowKit Go.Shelf Go.Sort Go.ChangeShapes Go.WideShapes
set_option maxRecDepth 100000
def shtE (z : Sht) : Int := firstE [rngE z.1 0 1000000, rngE z.2.1 0 1000000, rngE z.2.2 0 10000, if z.1 ≥ z.2.1 then 9 else 0]
set_option maxHeartbeats 1000000 in
theorem clos109 (v : Value) (z : Sht) (w : World) : Calls Try.prog 109 #[v, .agg (valL z).toArray] w fun r w' => r = .returned (.int .i64 (shtE z)) ∧ Below w.heap.size w w' := by
  obtain ⟨x, y, u⟩ := z
  simp only [valL]
  have h1 := fun W => rng56 x 0 1000000 W
  have h2 := fun W => rng56 y 0 1000000 W
  have h3 := fun W => rng56 u 0 10000 W
  have hb : ∀ W, Calls Try.prog 62 #[.bool (decide (x ≥ y)), .int .i64 9] W fun r w' => r = .returned (.int .i64 (if x ≥ y then 9 else 0)) ∧ w' = W := fun W => (err62 (decide (x ≥ y)) 9 W).mono fun _ _ ⟨h, h'⟩ => ⟨by rw [h]; by_cases hxy : x ≥ y <;> simp [hxy], h'⟩
  have hl : shtE (x, y, u) = firstE [rngE x 0 1000000, rngE y 0 1000000, rngE u 0 10000, if x ≥ y then 9 else 0] := rfl
  rw [hl]
  generalize rngE x 0 1000000 = a at h1 ⊢
  generalize rngE y 0 1000000 = b at h2 ⊢
  generalize rngE u 0 10000 = c at h3 ⊢
  generalize (if x ≥ y then (9 : Int) else 0) = d at hb ⊢
  go_enter Try.func109, Try.ntmps109
  go_wp2
  obtain ⟨W1, hW1⟩ : ∃ W1, W1 = w.alloc (.cells #[.int .i64 x, .int .i64 y, .int .i64 u] 123) := ⟨_, rfl⟩
  obtain ⟨q, hq⟩ : ∃ q, q = w.heap.size := ⟨_, rfl⟩
  have hb1 : Aside (q = w.heap.size ∧ Below w.heap.size w W1) := ⟨hq, by rw [hW1]; exact (Below.refl _ w).alloc (Nat.le_refl _) _⟩
  have hnew : W1.heap[q]? = some (.cells #[.int .i64 x, .int .i64 y, .int .i64 u] 123 (0, 0)) := by rw [hW1, hq]; exact heap_alloc_new w _
  have c0 : W1.cell? ⟨q, 0, none⟩ = some (.int .i64 x) := by have := cell_of_row W1 q 0 _ 123 (0, 0) hnew; simpa using this
  have c1 : W1.cell? ⟨q, 1, none⟩ = some (.int .i64 y) := by have := cell_of_row W1 q 1 _ 123 (0, 0) hnew; simpa using this
  have c2 : W1.cell? ⟨q, 2, none⟩ = some (.int .i64 u) := by have := cell_of_row W1 q 2 _ 123 (0, 0) hnew; simpa using this
  rw [← hW1, ← hq]
  clear hW1 hq
  refine wp_region_still_tail 15 (by kernel_rfl) (by kernel_rfl) ?_
  simp only [List.take_succ_cons, List.take_zero, List.drop_succ_cons, List.drop_zero]
  still_step
  still_step
  still_call (h1 _)
  still_step
  still_step
  still_call (h2 _)
  still_step
  still_step
  still_call (h3 _)
  still_step
  still_step
  still_step
  still_step
  still_step
  still_call (hb _)
  refine wpStill_nil ?_
  obtain ⟨w2, hw2⟩ : ∃ w2, w2 = W1.drew := ⟨_, rfl⟩
  have hb2 : Aside (q = w.heap.size ∧ Below w.heap.size w w2) := ⟨hb1.out.1, by rw [hw2]; exact hb1.out.2.drew⟩
  change wpList _ _ _ _ _ W1.drew
  rw [← hw2]
  clear hw2 hb1 c0 c1 c2 hnew h1 h2 h3 hb hl
  have h4 := first54 w2.heap.size 0 4 [a, b, c, d] (w2.alloc (.cells #[.int .i64 a, .int .i64 b, .int .i64 c, .int .i64 d] 35)) (by simp) (fun j x hj => by
    have := four_new w2 (.int .i64 a) (.int .i64 b) (.int .i64 c) (.int .i64 d) 35 j (.int .i64 x) (by
      rcases j with _ | _ | _ | _ | j <;> simp at hj ⊢ <;> exact hj)
    simpa [addr_add] using this)
  obtain ⟨r, hr⟩ : ∃ r, r = firstE [a, b, c, d] := ⟨_, rfl⟩
  rw [← hr] at h4
  have HR : Aside (r = firstE [a, b, c, d]) := hr
  clear hr
  go_wp2_with (go_at_call 54; refine h4.mono ?_; rintro e w3 ⟨rfl, rfl⟩)
  go_ret
  exact ⟨by rw [HR.out]; rfl, hb2.out.2.alloc hb2.out.2.size _⟩
set_option maxHeartbeats 1000000 in
theorem item117 (b off cap : Nat) (l : List Sht) (w : World) (hn : l.length ≤ 1000) (hcap : l.length ≤ cap) (hc : LayAt w b off l) :
    Calls Try.prog 117 #[.slice (some ⟨b, off, none⟩) l.length cap, .func (.func 109) #[] #[]] w fun e w' => (∃ i : Int, e = .returned (.tuple #[.int .i64 i, .int .i64 (firstE (l.map shtE))])) ∧ Below w.heap.size w w' := by
  obtain ⟨n, hnl⟩ : ∃ n, n = l.length := ⟨_, rfl⟩
  have X : Aside (n = l.length) := hnl
  rw [← hnl] at hn hcap ⊢
  clear hnl
  have HC : Hid (LayAt w b off l) := hc
  clear hc
  obtain ⟨r, hr⟩ : ∃ r, r = firstE (l.map shtE) := ⟨_, rfl⟩
  have HR : Aside (r = firstE (l.map shtE)) := hr
  rw [← hr]
  clear hr
  go_enter Try.func117, Try.ntmps117
  go_wp2
  go_loopw [11] (fun i wr => ∃ k : Nat, k ≤ n ∧ i = .int .i64 k ∧ Below w.heap.size w wr ∧ Aside (∀ j x, j < k → (l.map shtE)[j]? = some x → x = 0)) (fun i _ => n - (RowKit.intOf i).toNat)
  case atStart => exact ⟨0, Nat.zero_le _, rfl, Below.refl _ _, fun j _ hj => absurd hj (Nat.not_lt_zero j)⟩
  case round =>
    obtain ⟨k, hk, rfl, hnx, hz⟩ := hrel
    have hsize := hnx.size
    by_cases hlt : k < n
    · obtain ⟨z, hzk⟩ : ∃ z, l[k]? = some z := ⟨l[k]'(by rw [← X.out]; exact hlt), List.getElem?_eq_getElem _⟩
      obtain ⟨c0, c1, c2⟩ := HC.out k z hzk
      have hbl := World.block_lt_of_cell? w _ c0
      have cellr : ∀ a : Addr, a.block = b → wr.cell? a = w.cell? a := fun a ha => World.cell?_of_block (hnx.block a.block (by rw [ha]; exact hbl))
      rw [← cellr _ rfl] at c0 c1 c2
      have HZ : Hid ((l.map shtE)[k]? = some (shtE z)) := by show _ = _; rw [List.getElem?_map, hzk]; rfl
      clear cellr hzk
      have HN : Aside (Below w.heap.size w wr) := hnx
      have h209 := fun (v : Value) (W : World) => clos109 v z W
      simp only [valL] at h209
      generalize shtE z = q at h209 HZ
      have hkc : k ≤ cap := by omega
      by_cases h0 : q = 0
      · subst h0
        go_wp2
        obtain ⟨W1, hW1⟩ : ∃ W1, W1 = wr.alloc (.cells #[.int .i64 z.1, .int .i64 z.2.1, .int .i64 z.2.2] 123) := ⟨_, rfl⟩
        obtain ⟨g, hg⟩ : ∃ g, g = wr.heap.size := ⟨_, rfl⟩
        have hb1 : Aside (Below w.heap.size w W1) := by show Below _ _ _; rw [hW1]; exact hnx.alloc hsize _
        have hnew : W1.heap[g]? = some (.cells #[.int .i64 z.1, .int .i64 z.2.1, .int .i64 z.2.2] 123 (0, 0)) := by rw [hW1, hg]; exact heap_alloc_new wr _
        have d0 : W1.cell? ⟨g, 0, none⟩ = some (.int .i64 z.1) := by have := cell_of_row W1 g 0 _ 123 (0, 0) hnew; simpa using this
        have d1 : W1.cell? ⟨g, 1, none⟩ = some (.int .i64 z.2.1) := by have := cell_of_row W1 g 1 _ 123 (0, 0) hnew; simpa using this
        have d2 : W1.cell? ⟨g, 2, none⟩ = some (.int .i64 z.2.2) := by have := cell_of_row W1 g 2 _ 123 (0, 0) hnew; simpa using this
        rw [← hW1, ← hg]
        clear hW1 hg hnew c0 c1 c2
        refine wp_region_still_tail 5 (by kernel_rfl) (by kernel_rfl) ?_
        simp only [List.take_succ_cons, List.take_zero, List.drop_succ_cons, List.drop_zero]
        still_step
        still_step
        still_step
        still_step
        still_step
        refine wpStill_nil ?_
        obtain ⟨w2, hw2⟩ : ∃ w2, w2 = W1.drew := ⟨_, rfl⟩
        have hb2 : Aside (Below w.heap.size w w2) := by show Below _ _ _; rw [hw2]; exact hb1.out.drew
        change wpList _ _ _ _ _ W1.drew
        rw [← hw2]
        clear hw2 hb1 d0 d1 d2
        go_wp2_with (go_at_call 109; refine (h209 _ _).mono ?_; rintro e w3 ⟨rfl, hb3⟩)
        refine ⟨⟨k + 1, by omega, by simp, ?_, fun j x hj hx => ?_⟩, by simp [RowKit.intOf]; omega⟩
        · exact hb2.out.trans (hb3.mono hb2.out.size)
        · by_cases hjk : j = k
          · subst hjk
            rw [HZ.out] at hx
            exact (Option.some.inj hx).symm
          · exact hz.out j x (by omega) hx
      · go_wp2
        obtain ⟨W1, hW1⟩ : ∃ W1, W1 = wr.alloc (.cells #[.int .i64 z.1, .int .i64 z.2.1, .int .i64 z.2.2] 123) := ⟨_, rfl⟩
        obtain ⟨g, hg⟩ : ∃ g, g = wr.heap.size := ⟨_, rfl⟩
        have hb1 : Aside (Below w.heap.size w W1) := by show Below _ _ _; rw [hW1]; exact hnx.alloc hsize _
        have hnew : W1.heap[g]? = some (.cells #[.int .i64 z.1, .int .i64 z.2.1, .int .i64 z.2.2] 123 (0, 0)) := by rw [hW1, hg]; exact heap_alloc_new wr _
        have d0 : W1.cell? ⟨g, 0, none⟩ = some (.int .i64 z.1) := by have := cell_of_row W1 g 0 _ 123 (0, 0) hnew; simpa using this
        have d1 : W1.cell? ⟨g, 1, none⟩ = some (.int .i64 z.2.1) := by have := cell_of_row W1 g 1 _ 123 (0, 0) hnew; simpa using this
        have d2 : W1.cell? ⟨g, 2, none⟩ = some (.int .i64 z.2.2) := by have := cell_of_row W1 g 2 _ 123 (0, 0) hnew; simpa using this
        rw [← hW1, ← hg]
        clear hW1 hg hnew c0 c1 c2
        refine wp_region_still_tail 5 (by kernel_rfl) (by kernel_rfl) ?_
        simp only [List.take_succ_cons, List.take_zero, List.drop_succ_cons, List.drop_zero]
        still_step
        still_step
        still_step
        still_step
        still_step
        refine wpStill_nil ?_
        obtain ⟨w2, hw2⟩ : ∃ w2, w2 = W1.drew := ⟨_, rfl⟩
        have hb2 : Aside (Below w.heap.size w w2) := by show Below _ _ _; rw [hw2]; exact hb1.out.drew
        change wpList _ _ _ _ _ W1.drew
        rw [← hw2]
        clear hw2 hb1 d0 d1 d2
        go_wp2_with (go_at_call 109; refine (h209 _ _).mono ?_; rintro e w3 ⟨rfl, hb3⟩)
        go_ret2
        rw [HR.out, firstE_at hz.out HZ.out h0]
        exact ⟨⟨_, rfl⟩, hb2.out.trans (hb3.mono hb2.out.size)⟩
    · obtain rfl : k = n := by omega
      go_wp2
      go_ret2
      have h0 : r = 0 := by
        rw [HR.out, ← firstE_drop hz.out, X.out, show l.length = (l.map shtE).length by simp, List.drop_length]
        rfl
      subst h0
      exact ⟨⟨0, rfl⟩, hnx⟩
def shtsE (l : List Sht) : Int := if l.length > 20 then 8 else firstE (l.map shtE)
set_option maxHeartbeats 1000000 in
theorem list108 (b off cap : Nat) (l : List Sht) (w : World) (hn : l.length ≤ 1000) (hcap : l.length ≤ cap) (hc : LayAt w b off l) :
    Calls Try.prog 108 #[.slice (some ⟨b, off, none⟩) l.length cap, .int .i64 20, .func (.func 109) #[] #[]] w fun e w' => (∃ i : Int, e = .returned (.tuple #[.int .i64 i, .int .i64 (shtsE l)])) ∧ Below w.heap.size w w' := by
  have h117 := item117 b off cap l w hn hcap hc
  clear hc
  unfold shtsE
  obtain ⟨n, hnl⟩ : ∃ n, n = l.length := ⟨_, rfl⟩
  rw [← hnl] at hn hcap h117 ⊢
  clear hnl
  generalize firstE (l.map shtE) = r at h117 ⊢
  by_cases h20 : n > 20
  · rw [if_pos h20]
    go_enter Try.func108, Try.ntmps108
    go_wp2
    go_ret2
    exact ⟨⟨_, rfl⟩, Below.refl _ _⟩
  · rw [if_neg h20]
    go_enter Try.func108, Try.ntmps108
    go_wp2_with (go_at_call 117; refine h117.mono ?_; rintro e w2 ⟨⟨i, rfl⟩, hb⟩)
    go_ret2
    exact ⟨⟨_, rfl⟩, hb⟩
set_option maxHeartbeats 1000000 in
theorem shots83 (b off cap : Nat) (l : List Sht) (w : World) (hn : l.length ≤ 1000) (hcap : l.length ≤ cap) (hc : LayAt w b off l) :
    Calls Try.prog 83 #[.slice (some ⟨b, off, none⟩) l.length cap] w fun e w' => e = .returned (.int .i64 (shtsE l)) ∧ Below w.heap.size w w' := by
  have h33 := list108 b off cap l w hn hcap hc
  clear hc
  generalize shtsE l = r at h33 ⊢
  go_enter Try.func83, Try.ntmps83
  go_wp2_with (go_at_call 108; refine h33.mono ?_; rintro e w2 ⟨⟨i, rfl⟩, hb⟩)
  go_ret
  exact ⟨rfl, hb⟩
end Gv
namespace Gv
open Go Go.Proofs Go.RowKit Go.Shelf Go.Sort Go.ChangeShapes Go.WideShapes
set_option maxRecDepth 100000
structure Sees (W : World) (p q b off cap : Nat) (l : List Sht) (win en : Int) : Prop where
  s : W.cell? ⟨p, 0, none⟩ = some (.slice (some ⟨b, off, none⟩) l.length cap)
  x : W.cell? ⟨q, 0, none⟩ = some (.int .i64 win)
  y : W.cell? ⟨q, 1, none⟩ = some (.int .i64 en)
  c : LayAt W b off l
  n : 1 ≤ l.length
theorem Sees.below {W W' : World} {p q b off cap : Nat} {l : List Sht} {win en : Int} (h : Sees W p q b off cap l win en) (hb : Below W.heap.size W W') : Sees W' p q b off cap l win en := by
  have hc : ∀ a v, W.cell? a = some v → W'.cell? a = some v := fun a v ha => by
    rw [World.cell?_of_block (hb.block a.block (World.block_lt_of_cell? W _ ha))]
    exact ha
  have hbl : b < W.heap.size := by
    obtain ⟨z, hz⟩ : ∃ z, l[0]? = some z := ⟨l[0]'(by have := h.n; omega), List.getElem?_eq_getElem _⟩
    exact World.block_lt_of_cell? W _ (h.c 0 z hz).1
  exact ⟨hc _ _ h.s, hc _ _ h.x, hc _ _ h.y, h.c.below hbl hb, h.n⟩
def unB (l : List Sht) (win en t : Int) : Bool := decide (enB l t win > en)
set_option maxHeartbeats 1000000 in
theorem clos87 {p q b off cap : Nat} {l : List Sht} {win en : Int} (t : Int) (W : World) (hn : l.length ≤ 1000) (h : Sees W p q b off cap l win en) :
    Calls Try.prog 87 #[.int .i64 t, .pointer (some ⟨p, 0, none⟩), .pointer (some ⟨q, 0, none⟩)] W fun r w' => r = .returned (.bool (unB l win en t)) ∧ Below W.heap.size W w' := by
  have h86 : Calls Try.prog 86 #[.slice (some ⟨b, off, none⟩) l.length cap, .int .i64 t, .int .i64 win] W.drew fun r w' => r = .returned (.int .i64 (enB l t win)) ∧ Below W.heap.size W w' := (energy86 b off cap l t win W.drew hn h.c).mono fun _ _ ⟨h, hb⟩ => ⟨h, ⟨hb.os, hb.tape, hb.output, hb.size, hb.block⟩⟩
  obtain ⟨h1, h2, h3, _, _⟩ := h
  have key : Aside (∀ w2, Below W.heap.size W w2 → w2.cell? ⟨q, 1, none⟩ = some (.int .i64 en)) := fun w2 hb => by
    rw [World.cell?_of_block (hb.block q (World.block_lt_of_cell? W _ h3))]
    exact h3
  unfold unB
  generalize enB l t win = r at h86 ⊢
  generalize l.length = n at h86 h1
  go_enter Try.func87, Try.ntmps87
  go_wp2
  go_region_law (first | (go_simp; go_at_call 86; refine h86.mono ?_; rintro _ w2 ⟨rfl, hb⟩; have h4 := key.out w2 hb))
  all_goals go_wp2
  all_goals (go_ret; exact ⟨rfl, hb⟩)
def fstI (p : Int → Bool) : List Int → Int → Int
  | [], _ => -1
  | t :: r, i => if p t then i else fstI p r (i + 1)
set_option maxHeartbeats 1000000 in
theorem idx88 {p q b off cap : Nat} {l : List Sht} {win en : Int} (g c2 : Nat) (ts : List Int) (W : World) (hn : l.length ≤ 1000) (ht : ts.length ≤ 10000) (h : Sees W p q b off cap l win en) (hts : ∀ j t, ts[j]? = some t → W.cell? ⟨g, j, none⟩ = some (.int .i64 t)) :
    Calls Try.prog 88 #[.slice (some ⟨g, 0, none⟩) ts.length c2, .func (.func 87) #[] #[.pointer (some ⟨p, 0, none⟩), .pointer (some ⟨q, 0, none⟩)]] W fun r w' => r = .returned (.int .i64 (fstI (unB l win en) ts 0)) ∧ Below W.heap.size W w' := by
  have h87 := fun (t : Int) (W' : World) (hb : Below W.heap.size W W') => clos87 t W' hn (h.below hb)
  clear h
  obtain ⟨P, hP⟩ : ∃ P, P = unB l win en := ⟨_, rfl⟩
  rw [← hP] at h87 ⊢
  clear hP
  obtain ⟨n, hnl⟩ : ∃ n, n = ts.length := ⟨_, rfl⟩
  have X : Aside (n = ts.length) := hnl
  rw [← hnl] at ht ⊢
  clear hnl hn
  have HC : Hid (∀ j t, ts[j]? = some t → W.cell? ⟨g, j, none⟩ = some (.int .i64 t)) := hts
  clear hts
  obtain ⟨r, hr⟩ : ∃ r, r = fstI P ts 0 := ⟨_, rfl⟩
  have HR : Aside (r = fstI P ts 0) := hr
  rw [← hr]
  clear hr
  go_enter Try.func88, Try.ntmps88
  go_wp2
  go_loopw [8] (fun i wr => ∃ k : Nat, k ≤ n ∧ i = .int .i64 k ∧ Below W.heap.size W wr ∧ Aside (r = fstI P (ts.drop k) k)) (fun i _ => n - (RowKit.intOf i).toNat)
  case atStart => exact ⟨0, Nat.zero_le _, rfl, Below.refl _ _, HR.out⟩
  case round =>
    obtain ⟨k, hk, rfl, hnx, hz⟩ := hrel
    have hsize := hnx.size
    by_cases hlt : k < n
    · obtain ⟨t, htk⟩ : ∃ t, ts[k]? = some t := ⟨ts[k]'(by rw [← X.out]; exact hlt), List.getElem?_eq_getElem _⟩
      have c0 := HC.out k t htk
      have c1 : wr.cell? ⟨g, k, none⟩ = some (.int .i64 t) := by
        rw [World.cell?_of_block (hnx.block g (World.block_lt_of_cell? W _ c0))]
        exact c0
      have HZ : Aside (ts.drop k = t :: ts.drop (k + 1)) := by
        show ts.drop k = _
        rw [List.drop_eq_getElem_cons (List.getElem?_eq_some_iff.1 htk).1, (List.getElem?_eq_some_iff.1 htk).2]
      have HN : Aside (Below W.heap.size W wr) := hnx
      clear htk c0
      have hcall := h87 t wr hnx
      generalize hb : P t = u at hcall
      have HU : Aside (P t = u) := hb
      clear hb
      cases u
      · go_wp2_with (go_at_call 87; refine hcall.mono ?_; rintro _ w2 ⟨rfl, hb2⟩)
        refine ⟨⟨k + 1, by omega, by simp, HN.out.trans (hb2.mono HN.out.size), ?_⟩, by simp [RowKit.intOf]; omega⟩
        show r = _
        rw [hz.out, HZ.out, fstI, if_neg (by rw [HU.out]; decide)]
        simp
      · go_wp2_with (go_at_call 87; refine hcall.mono ?_; rintro _ w2 ⟨rfl, hb2⟩)
        go_ret
        have hr : r = k := by rw [hz.out, HZ.out, fstI, if_pos HU.out]
        rw [hr]
        exact ⟨rfl, HN.out.trans (hb2.mono HN.out.size)⟩
    · obtain rfl : k = n := by omega
      go_wp2
      go_ret
      have hr : r = -1 := by rw [hz.out, X.out, List.drop_length]; rfl
      rw [hr]
      exact ⟨rfl, hnx⟩
theorem clos90 {p q b off cap : Nat} {l : List Sht} {win en : Int} (a c : Nat) (from' i : Int) (W : World) (hn : l.length ≤ 1000) (h : Sees W p q b off cap l win en)
    (ha : W.cell? ⟨a, 0, none⟩ = some (.func (.func 87) #[] #[.pointer (some ⟨p, 0, none⟩), .pointer (some ⟨q, 0, none⟩)])) (hc : W.cell? ⟨c, 0, none⟩ = some (.int .i64 from')) :
    Calls Try.prog 90 #[.int .i64 i, .pointer (some ⟨a, 0, none⟩), .pointer (some ⟨c, 0, none⟩)] W fun r w' => r = .returned (.bool (unB l win en (wrap64 (wrap64 (from' + i) + 1)))) ∧ Below W.heap.size W w' := by
  have h87 := clos87 (wrap64 (wrap64 (from' + i) + 1)) W hn h
  clear h
  generalize unB l win en (wrap64 (wrap64 (from' + i) + 1)) = u at h87 ⊢
  go_enter Try.func90, Try.ntmps90
  go_wp2_with (go_at_call 87; refine h87.mono ?_; rintro _ w2 ⟨rfl, hb2⟩)
  go_ret
  exact ⟨rfl, hb2⟩
end Gv
namespace Gv
open Go Go.Proofs Go.RowKit Go.Shelf Go.Sort Go.ChangeShapes Go.WideShapes
set_option maxRecDepth 100000
def srchI (P : Int → Bool) : Nat → Int → Int → Int
  | 0, i, _ => i
  | f + 1, i, j => if i < j then (bif P ((i + j) / 2) then srchI P f i ((i + j) / 2) else srchI P f ((i + j) / 2 + 1) j) else i
theorem srchI_stop (P : Int → Bool) {i j : Int} (h : ¬ i < j) : ∀ f, srchI P f i j = i
  | 0 => rfl
  | f + 1 => by rw [srchI, if_neg h]
set_option maxHeartbeats 1000000 in
theorem srch89 (a c : Nat) (P : Int → Bool) (N : Int) (W : World) (hN : N ≤ 100000000)
    (hcall : ∀ (i : Int) (W' : World), Below W.heap.size W W' → Calls Try.prog 90 #[.int .i64 i, .pointer (some ⟨a, 0, none⟩), .pointer (some ⟨c, 0, none⟩)] W' fun r w' => r = .returned (.bool (P i)) ∧ Below W'.heap.size W' w') :
    Calls Try.prog 89 #[.int .i64 N, .func (.func 90) #[] #[.pointer (some ⟨a, 0, none⟩), .pointer (some ⟨c, 0, none⟩)]] W fun r w' => r = .returned (.int .i64 (srchI P N.toNat 0 N)) ∧ Below W.heap.size W w' := by
  obtain ⟨r, hr⟩ : ∃ r, r = srchI P N.toNat 0 N := ⟨_, rfl⟩
  have HR : Aside (r = srchI P N.toNat 0 N) := hr
  rw [← hr]
  clear hr
  have HC : Hid (∀ (i : Int) (W' : World), Below W.heap.size W W' → Calls Try.prog 90 #[.int .i64 i, .pointer (some ⟨a, 0, none⟩), .pointer (some ⟨c, 0, none⟩)] W' fun r w' => r = .returned (.bool (P i)) ∧ Below W'.heap.size W' w') := hcall
  clear hcall
  go_enter Try.func89, Try.ntmps89
  go_wp2
  go_loopw [5, 6] (fun x y wr => ∃ (i j : Int) (f : Nat), 0 ≤ i ∧ j ≤ 100000000 ∧ x = .int .i64 i ∧ y = .int .i64 j ∧ Below W.heap.size W wr ∧ (j - i).toNat ≤ f ∧ Aside (r = srchI P f i j)) (fun x y _ => (RowKit.intOf y - RowKit.intOf x).toNat)
  case atStart => exact ⟨0, N, N.toNat, by omega, hN, rfl, rfl, Below.refl _ _, by omega, HR.out⟩
  case round =>
    obtain ⟨i, j, f, hi, hj, rfl, rfl, hnx, hf, hz⟩ := hrel
    by_cases hlt : i < j
    · have hcall := HC.out ((i + j) / 2) wr hnx
      obtain ⟨f, rfl⟩ : ∃ f', f = f' + 1 := ⟨f - 1, by omega⟩
      have HN : Aside (Below W.heap.size W wr) := hnx
      generalize hb : P ((i + j) / 2) = u at hcall
      have HU : Aside (P ((i + j) / 2) = u) := hb
      clear hb
      have hF : Aside ((j - i).toNat ≤ f + 1) := hf
      cases u
      · go_wp2_with (go_at_call 90; refine hcall.mono ?_; rintro _ w2 ⟨rfl, hb2⟩)
        have hf := hF.out
        refine ⟨⟨(i + j) / 2 + 1, j, f, by omega, hj, rfl, rfl, HN.out.trans (hb2.mono HN.out.size), by omega, ?_⟩, by simp [RowKit.intOf]; omega⟩
        show r = _
        rw [hz.out, srchI, if_pos hlt, HU.out]
        rfl
      · go_wp2_with (go_at_call 90; refine hcall.mono ?_; rintro _ w2 ⟨rfl, hb2⟩)
        have hf := hF.out
        refine ⟨⟨i, (i + j) / 2, f, by omega, by omega, rfl, rfl, HN.out.trans (hb2.mono HN.out.size), by omega, ?_⟩, by simp [RowKit.intOf]; omega⟩
        show r = _
        rw [hz.out, srchI, if_pos hlt, HU.out]
        rfl
    · go_wp2
      go_ret
      have hr : r = i := by rw [hz.out, srchI_stop P (show ¬ i < j by omega)]
      rw [hr]
      exact ⟨rfl, hnx⟩
end Gv
