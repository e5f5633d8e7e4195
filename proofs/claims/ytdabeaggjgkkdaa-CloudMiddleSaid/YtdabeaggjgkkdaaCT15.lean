import Derived.Test.YtdabeaggjgkkdaaCT13

/- Where the energy is too great: the two closures, and the first turn. -/
namespace Gv
open Go Go.Proofs Go.RowKit Go.Shelf Go.Sort Go.ChangeShapes Go.WideShapes
set_option maxRecDepth 100000

/-- What the closures read: the shots, the window, the energy. -/
structure Sees (W : World) (p q b off cap : Nat) (l : List Sht) (win en : Int) : Prop where
  s : W.cell? ⟨p, 0, none⟩ = some (.slice (some ⟨b, off, none⟩) l.length cap)
  x : W.cell? ⟨q, 0, none⟩ = some (.int .i64 win)
  y : W.cell? ⟨q, 1, none⟩ = some (.int .i64 en)
  c : LayAt W b off l
  n : 1 ≤ l.length
theorem Sees.below {W W' : World} {p q b off cap : Nat} {l : List Sht} {win en : Int} (h : Sees W p q b off cap l win en) (hb : Below W.heap.size W W') : Sees W' p q b off cap l win en := by
  have hc : ∀ a v, W.cell? a = some v → W'.cell? a = some v := fun a v ha => by
    rw [World.cell?_of_block (hb.block a.block (World.block_lt_of_cell? W _ ha))]
    exact ha
  have hbl : b < W.heap.size := by
    obtain ⟨z, hz⟩ : ∃ z, l[0]? = some z := ⟨l[0]'(by have := h.n; omega), List.getElem?_eq_getElem _⟩
    exact World.block_lt_of_cell? W _ (h.c 0 z hz).1
  exact ⟨hc _ _ h.s, hc _ _ h.x, hc _ _ h.y, h.c.below hbl hb, h.n⟩

def unB (l : List Sht) (win en t : Int) : Bool := decide (enB l t win > en)

set_option maxHeartbeats 1000000 in
theorem clos87 {p q b off cap : Nat} {l : List Sht} {win en : Int} (t : Int) (W : World) (hn : l.length ≤ 1000) (h : Sees W p q b off cap l win en) :
    Calls Try.prog 87 #[.int .i64 t, .pointer (some ⟨p, 0, none⟩), .pointer (some ⟨q, 0, none⟩)] W fun r w' => r = .returned (.bool (unB l win en t)) ∧ Below W.heap.size W w' := by
  have h86 : Calls Try.prog 86 #[.slice (some ⟨b, off, none⟩) l.length cap, .int .i64 t, .int .i64 win] W.drew fun r w' => r = .returned (.int .i64 (enB l t win)) ∧ Below W.heap.size W w' := (energy86 b off cap l t win W.drew hn h.c).mono fun _ _ ⟨h, hb⟩ => ⟨h, ⟨hb.os, hb.tape, hb.output, hb.size, hb.block⟩⟩
  obtain ⟨h1, h2, h3, _, _⟩ := h
  have key : Aside (∀ w2, Below W.heap.size W w2 → w2.cell? ⟨q, 1, none⟩ = some (.int .i64 en)) := fun w2 hb => by
    rw [World.cell?_of_block (hb.block q (World.block_lt_of_cell? W _ h3))]
    exact h3
  unfold unB
  generalize enB l t win = r at h86 ⊢
  generalize l.length = n at h86 h1
  go_enter Try.func87, Try.ntmps87
  go_wp2
  go_region_law (first | (go_simp; go_at_call 86; refine h86.mono ?_; rintro _ w2 ⟨rfl, hb⟩; have h4 := key.out w2 hb))
  all_goals go_wp2
  all_goals (go_ret; exact ⟨rfl, hb⟩)

/-- The first number with which it is so, or -1. -/
def fstI (p : Int → Bool) : List Int → Int → Int
  | [], _ => -1
  | t :: r, i => if p t then i else fstI p r (i + 1)

set_option maxHeartbeats 1000000 in
theorem idx88 {p q b off cap : Nat} {l : List Sht} {win en : Int} (g c2 : Nat) (ts : List Int) (W : World) (hn : l.length ≤ 1000) (ht : ts.length ≤ 10000) (h : Sees W p q b off cap l win en) (hts : ∀ j t, ts[j]? = some t → W.cell? ⟨g, j, none⟩ = some (.int .i64 t)) :
    Calls Try.prog 88 #[.slice (some ⟨g, 0, none⟩) ts.length c2, .func (.func 87) #[] #[.pointer (some ⟨p, 0, none⟩), .pointer (some ⟨q, 0, none⟩)]] W fun r w' => r = .returned (.int .i64 (fstI (unB l win en) ts 0)) ∧ Below W.heap.size W w' := by
  have h87 := fun (t : Int) (W' : World) (hb : Below W.heap.size W W') => clos87 t W' hn (h.below hb)
  clear h
  obtain ⟨P, hP⟩ : ∃ P, P = unB l win en := ⟨_, rfl⟩
  rw [← hP] at h87 ⊢
  clear hP
  obtain ⟨n, hnl⟩ : ∃ n, n = ts.length := ⟨_, rfl⟩
  have X : Aside (n = ts.length) := hnl
  rw [← hnl] at ht ⊢
  clear hnl hn
  have HC : Hid (∀ j t, ts[j]? = some t → W.cell? ⟨g, j, none⟩ = some (.int .i64 t)) := hts
  clear hts
  obtain ⟨r, hr⟩ : ∃ r, r = fstI P ts 0 := ⟨_, rfl⟩
  have HR : Aside (r = fstI P ts 0) := hr
  rw [← hr]
  clear hr
  go_enter Try.func88, Try.ntmps88
  go_wp2
  go_loopw [8] (fun i wr => ∃ k : Nat, k ≤ n ∧ i = .int .i64 k ∧ Below W.heap.size W wr ∧ Aside (r = fstI P (ts.drop k) k)) (fun i _ => n - (RowKit.intOf i).toNat)
  case atStart => exact ⟨0, Nat.zero_le _, rfl, Below.refl _ _, HR.out⟩
  case round =>
    obtain ⟨k, hk, rfl, hnx, hz⟩ := hrel
    have hsize := hnx.size
    by_cases hlt : k < n
    · obtain ⟨t, htk⟩ : ∃ t, ts[k]? = some t := ⟨ts[k]'(by rw [← X.out]; exact hlt), List.getElem?_eq_getElem _⟩
      have c0 := HC.out k t htk
      have c1 : wr.cell? ⟨g, k, none⟩ = some (.int .i64 t) := by
        rw [World.cell?_of_block (hnx.block g (World.block_lt_of_cell? W _ c0))]
        exact c0
      have HZ : Aside (ts.drop k = t :: ts.drop (k + 1)) := by
        show ts.drop k = _
        rw [List.drop_eq_getElem_cons (List.getElem?_eq_some_iff.1 htk).1, (List.getElem?_eq_some_iff.1 htk).2]
      have HN : Aside (Below W.heap.size W wr) := hnx
      clear htk c0
      have hcall := h87 t wr hnx
      generalize hb : P t = u at hcall
      have HU : Aside (P t = u) := hb
      clear hb
      cases u
      · go_wp2_with (go_at_call 87; refine hcall.mono ?_; rintro _ w2 ⟨rfl, hb2⟩)
        refine ⟨⟨k + 1, by omega, by simp, HN.out.trans (hb2.mono HN.out.size), ?_⟩, by simp [RowKit.intOf]; omega⟩
        show r = _
        rw [hz.out, HZ.out, fstI, if_neg (by rw [HU.out]; decide)]
        simp
      · go_wp2_with (go_at_call 87; refine hcall.mono ?_; rintro _ w2 ⟨rfl, hb2⟩)
        go_ret
        have hr : r = k := by rw [hz.out, HZ.out, fstI, if_pos HU.out]
        rw [hr]
        exact ⟨rfl, HN.out.trans (hb2.mono HN.out.size)⟩
    · obtain rfl : k = n := by omega
      go_wp2
      go_ret
      have hr : r = -1 := by rw [hz.out, X.out, List.drop_length]; rfl
      rw [hr]
      exact ⟨rfl, hnx⟩

/-- Another function of the closure's: so many seconds behind a turn. -/
theorem clos90 {p q b off cap : Nat} {l : List Sht} {win en : Int} (a c : Nat) (from' i : Int) (W : World) (hn : l.length ≤ 1000) (h : Sees W p q b off cap l win en)
    (ha : W.cell? ⟨a, 0, none⟩ = some (.func (.func 87) #[] #[.pointer (some ⟨p, 0, none⟩), .pointer (some ⟨q, 0, none⟩)])) (hc : W.cell? ⟨c, 0, none⟩ = some (.int .i64 from')) :
    Calls Try.prog 90 #[.int .i64 i, .pointer (some ⟨a, 0, none⟩), .pointer (some ⟨c, 0, none⟩)] W fun r w' => r = .returned (.bool (unB l win en (wrap64 (wrap64 (from' + i) + 1)))) ∧ Below W.heap.size W w' := by
  have h87 := clos87 (wrap64 (wrap64 (from' + i) + 1)) W hn h
  clear h
  generalize unB l win en (wrap64 (wrap64 (from' + i) + 1)) = u at h87 ⊢
  go_enter Try.func90, Try.ntmps90
  go_wp2_with (go_at_call 87; refine h87.mono ?_; rintro _ w2 ⟨rfl, hb2⟩)
  go_ret
  exact ⟨rfl, hb2⟩
end Gv

/- The first second at which it is so: sort.Search. -/
namespace Gv
open Go Go.Proofs Go.RowKit Go.Shelf Go.Sort Go.ChangeShapes Go.WideShapes
set_option maxRecDepth 100000

def srchI (P : Int → Bool) : Nat → Int → Int → Int
  | 0, i, _ => i
  | f + 1, i, j => if i < j then (bif P ((i + j) / 2) then srchI P f i ((i + j) / 2) else srchI P f ((i + j) / 2 + 1) j) else i
theorem srchI_stop (P : Int → Bool) {i j : Int} (h : ¬ i < j) : ∀ f, srchI P f i j = i
  | 0 => rfl
  | f + 1 => by rw [srchI, if_neg h]

set_option maxHeartbeats 1000000 in
theorem srch89 (a c : Nat) (P : Int → Bool) (N : Int) (W : World) (hN : N ≤ 100000000)
    (hcall : ∀ (i : Int) (W' : World), Below W.heap.size W W' → Calls Try.prog 90 #[.int .i64 i, .pointer (some ⟨a, 0, none⟩), .pointer (some ⟨c, 0, none⟩)] W' fun r w' => r = .returned (.bool (P i)) ∧ Below W'.heap.size W' w') :
    Calls Try.prog 89 #[.int .i64 N, .func (.func 90) #[] #[.pointer (some ⟨a, 0, none⟩), .pointer (some ⟨c, 0, none⟩)]] W fun r w' => r = .returned (.int .i64 (srchI P N.toNat 0 N)) ∧ Below W.heap.size W w' := by
  obtain ⟨r, hr⟩ : ∃ r, r = srchI P N.toNat 0 N := ⟨_, rfl⟩
  have HR : Aside (r = srchI P N.toNat 0 N) := hr
  rw [← hr]
  clear hr
  have HC : Hid (∀ (i : Int) (W' : World), Below W.heap.size W W' → Calls Try.prog 90 #[.int .i64 i, .pointer (some ⟨a, 0, none⟩), .pointer (some ⟨c, 0, none⟩)] W' fun r w' => r = .returned (.bool (P i)) ∧ Below W'.heap.size W' w') := hcall
  clear hcall
  go_enter Try.func89, Try.ntmps89
  go_wp2
  go_loopw [5, 6] (fun x y wr => ∃ (i j : Int) (f : Nat), 0 ≤ i ∧ j ≤ 100000000 ∧ x = .int .i64 i ∧ y = .int .i64 j ∧ Below W.heap.size W wr ∧ (j - i).toNat ≤ f ∧ Aside (r = srchI P f i j)) (fun x y _ => (RowKit.intOf y - RowKit.intOf x).toNat)
  case atStart => exact ⟨0, N, N.toNat, by omega, hN, rfl, rfl, Below.refl _ _, by omega, HR.out⟩
  case round =>
    obtain ⟨i, j, f, hi, hj, rfl, rfl, hnx, hf, hz⟩ := hrel
    by_cases hlt : i < j
    · have hcall := HC.out ((i + j) / 2) wr hnx
      obtain ⟨f, rfl⟩ : ∃ f', f = f' + 1 := ⟨f - 1, by omega⟩
      have HN : Aside (Below W.heap.size W wr) := hnx
      generalize hb : P ((i + j) / 2) = u at hcall
      have HU : Aside (P ((i + j) / 2) = u) := hb
      clear hb
      have hF : Aside ((j - i).toNat ≤ f + 1) := hf
      cases u
      · go_wp2_with (go_at_call 90; refine hcall.mono ?_; rintro _ w2 ⟨rfl, hb2⟩)
        have hf := hF.out
        refine ⟨⟨(i + j) / 2 + 1, j, f, by omega, hj, rfl, rfl, HN.out.trans (hb2.mono HN.out.size), by omega, ?_⟩, by simp [RowKit.intOf]; omega⟩
        show r = _
        rw [hz.out, srchI, if_pos hlt, HU.out]
        rfl
      · go_wp2_with (go_at_call 90; refine hcall.mono ?_; rintro _ w2 ⟨rfl, hb2⟩)
        have hf := hF.out
        refine ⟨⟨i, (i + j) / 2, f, by omega, by omega, rfl, rfl, HN.out.trans (hb2.mono HN.out.size), by omega, ?_⟩, by simp [RowKit.intOf]; omega⟩
        show r = _
        rw [hz.out, srchI, if_pos hlt, HU.out]
        rfl
    · go_wp2
      go_ret
      have hr : r = i := by rw [hz.out, srchI_stop P (show ¬ i < j by omega)]
      rw [hr]
      exact ⟨rfl, hnx⟩
end Gv
