import Derived.Test.YtkbahledgljaoaaCT15
import Derived.Deep.Cut
namespace Gv
open Go Go.Proofs Go.RowKit Go.Shelf Go.Sort Go.ChangeShapes Go.WideShapes
set_option maxRecDepth 100000
theorem fstI_rng (P : Int → Bool) : ∀ (ts : List Int) (k : Int), fstI P ts k = -1 ∨ (k ≤ fstI P ts k ∧ fstI P ts k < k + ts.length)
  | [], _ => .inl rfl
  | t :: r, k => by
    unfold fstI
    split
    · right
      simp only [List.length_cons]
      omega
    · rcases fstI_rng P r (k + 1) with h | h
      · exact .inl h
      · right
        simp only [List.length_cons]
        omega
def eyeE (l : List Sht) (win en : Int) : Int := firstE [shtsE l, rngE win 1 1000000, rngE en 0 1000000000000]
def eyeT (l : List Sht) (win : Int) : List Int := isort (trnL win l)
def eyeA (l : List Sht) (win en : Int) : Int := (eyeT l win).getD (fstI (unB l win en) (eyeT l win) 0 - 1).toNat 0
def eyeC (l : List Sht) (win en : Int) : Int := (eyeT l win).getD (fstI (unB l win en) (eyeT l win) 0).toNat 0
def eyeV (l : List Sht) (win en : Int) : Int × Int :=
  if eyeE l win en ≠ 0 then (0, eyeE l win en) else
  if fstI (unB l win en) (eyeT l win) 0 < 1 then (0, 12) else
  (wrap64 (eyeA l win en + srchI (fun n => unB l win en (wrap64 (wrap64 (eyeA l win en + n) + 1))) (wrap64 (eyeC l win en - eyeA l win en)).toNat 0 (wrap64 (eyeC l win en - eyeA l win en))), 0)
theorem three_new (W : World) (x y z : Value) (t : TypeId) : ∀ j v, [x, y, z][j]? = some v → (W.alloc (.cells #[x, y, z] t)).cell? ((⟨W.heap.size, 0, none⟩ : Addr).add j) = some v := by
  intro j v hj
  have h : (W.alloc (.cells #[x, y, z] t)).heap[W.heap.size]? = some (.cells #[x, y, z] t (0, 0)) := heap_alloc_new W _
  rw [addr_add, Nat.zero_add, cell_of_row _ _ j _ t (0, 0) h]
  simpa using hj
theorem win84 (x : Int) (w : World) : Calls Try.prog 84 #[.int .i64 x] w fun e w' => e = .returned (.int .i64 (rngE x 1 1000000)) ∧ w' = w := by
  have h := fun W => rng56 x 1 1000000 W
  generalize rngE x 1 1000000 = r at h ⊢
  go_enter Try.func84, Try.ntmps84
  go_wp2_with (go_at_call 56; refine (h _).mono ?_; rintro _ w2 ⟨rfl, rfl⟩)
  go_ret
  exact ⟨rfl, rfl⟩
set_option maxHeartbeats 8000000 in
theorem eye_at (b off cap : Nat) (l : List Sht) (win en : Int) (w : World) (hn1 : 1 ≤ l.length) (hn : l.length ≤ 1000) (hcap : l.length ≤ cap) (hbd : eyeE l win en = 0 → wrap64 (eyeC l win en - eyeA l win en) ≤ 100000000) (hc : LayAt w b off l) :
    Calls Try.prog 43 #[.slice (some ⟨b, off, none⟩) l.length cap, .agg #[.int .i64 win, .int .i64 en]] w fun r w' => r = .returned (.tuple #[.int .i64 (eyeV l win en).1, .int .i64 (eyeV l win en).2]) ∧ Below w.heap.size w w' := by
  obtain ⟨n, hnl⟩ : ∃ n, n = l.length := ⟨_, rfl⟩
  have X : Aside (n = l.length) := hnl
  have HC : Aside (LayAt w b off l) := hc
  obtain ⟨r, hr⟩ : ∃ r, r = eyeV l win en := ⟨_, rfl⟩
  have HR : Aside (r = eyeV l win en) := hr
  rw [← hr, ← hnl]
  rw [← hnl] at hn hcap hn1
  clear hr hc hnl
  go_enter Try.func43, Try.ntmps43
  go_wp2
  obtain ⟨W1, hW1⟩ : ∃ W1, W1 = (w.alloc (.cells #[.slice (some ⟨b, off, none⟩) n cap] 72)).alloc (.cells #[.int .i64 win, .int .i64 en] 74) := ⟨_, rfl⟩
  obtain ⟨p, hp⟩ : ∃ p, p = w.heap.size := ⟨_, rfl⟩
  obtain ⟨q, hq⟩ : ∃ q, q = w.heap.size + 1 := ⟨_, rfl⟩
  have hB1 : Below w.heap.size w W1 := by
    rw [hW1]
    exact ((Below.refl _ w).alloc (Nat.le_refl _) _).alloc (by rw [World.size_alloc]; omega) _
  have hbl : b < w.heap.size := by
    obtain ⟨z, hz⟩ : ∃ z, l[0]? = some z := ⟨l[0]'(by rw [← X.out]; omega), List.getElem?_eq_getElem _⟩
    exact World.block_lt_of_cell? w _ (HC.out 0 z hz).1
  have hsee : Sees W1 p q b off cap l win en := by
    have r0 : W1.heap[p]? = some (.cells #[.slice (some ⟨b, off, none⟩) n cap] 72 (0, 0)) := by
      rw [hW1, hp, Below.heap_alloc _ _ _ (by rw [World.size_alloc]; omega)]
      exact heap_alloc_new w _
    have r1 : W1.heap[q]? = some (.cells #[.int .i64 win, .int .i64 en] 74 (0, 0)) := by
      rw [hW1, hq, ← World.size_alloc w (.cells #[.slice (some ⟨b, off, none⟩) n cap] 72)]
      exact heap_alloc_new _ _
    refine ⟨?_, ?_, ?_, HC.out.below hbl hB1, by rw [← X.out]; omega⟩
    · have := cell_of_row W1 p 0 _ 72 (0, 0) r0; rw [← X.out]; simpa using this
    · have := cell_of_row W1 q 0 _ 74 (0, 0) r1; simpa using this
    · have := cell_of_row W1 q 1 _ 74 (0, 0) r1; simpa using this
  rw [← hW1, ← hq, ← hp]
  clear hW1 hp hq hbl
  have h83 : Calls Try.prog 83 #[.slice (some ⟨b, off, none⟩) n cap] W1.drew fun r w' => r = .returned (.int .i64 (shtsE l)) ∧ Below W1.heap.size W1 w' := by
    have := shots83 b off cap l W1.drew (by rw [← X.out]; exact hn) (by rw [← X.out]; exact hcap) hsee.c
    rw [← X.out] at this
    exact this.mono fun _ _ ⟨h, hb⟩ => ⟨h, ⟨hb.os, hb.tape, hb.output, hb.size, hb.block⟩⟩
  obtain ⟨x, hx⟩ : ∃ x, x = shtsE l := ⟨_, rfl⟩
  obtain ⟨y, hy⟩ : ∃ y, y = rngE win 1 1000000 := ⟨_, rfl⟩
  obtain ⟨z, hz⟩ : ∃ z, z = rngE en 0 1000000000000 := ⟨_, rfl⟩
  have h84 := fun W => win84 win W
  have h56 := fun W => rng56 en 0 1000000000000 W
  have HX : Aside (eyeE l win en = firstE [x, y, z]) := by
    show eyeE l win en = _
    rw [hx, hy, hz]
    rfl
  rw [← hx] at h83
  rw [← hy] at h84
  rw [← hz] at h56
  clear hx hy hz
  have h54 : ∀ W : World, Calls Try.prog 54 #[.slice (some ⟨W.heap.size, 0, none⟩) 3 3] (W.alloc (.cells #[.int .i64 x, .int .i64 y, .int .i64 z] 35)) fun e w' => e = .returned (.int .i64 (firstE [x, y, z])) ∧ w' = W.alloc (.cells #[.int .i64 x, .int .i64 y, .int .i64 z] 35) := fun W =>
    first54 W.heap.size 0 3 [x, y, z] _ (by simp) (fun j u hj => by
      have := three_new W (.int .i64 x) (.int .i64 y) (.int .i64 z) 35 j (.int .i64 u) (by rcases j with _ | _ | _ | j <;> simp at hj ⊢ <;> exact hj)
      simpa [addr_add] using this)
  generalize firstE [x, y, z] = e at h54 HX
  have HS : Aside (Sees W1 p q b off cap l win en) := hsee
  obtain ⟨t1, t2, t3, _, _⟩ := hsee
  rw [← X.out] at t1
  have HB : Aside (Below w.heap.size w W1) := hB1
  clear hB1
  go_cut [6] from 11 (fun s6 wx => s6 = .int .i64 e ∧ Below W1.heap.size W1 wx)
  case first =>
    go_region_law (first
      | (go_simp; go_at_call 83; refine h83.mono ?_; rintro _ w2 ⟨rfl, hb2⟩; have u2 := (HS.out.below hb2).x; have u3 := (HS.out.below hb2).y)
      | (go_simp; go_at_call 84; refine (h84 _).mono ?_; rintro _ w3 ⟨rfl, rfl⟩)
      | (go_simp; go_at_call 56; refine (h56 _).mono ?_; rintro _ w3 ⟨rfl, rfl⟩)
      | (go_simp; go_at_call 54; refine (h54 _).mono ?_; rintro _ w3 ⟨rfl, rfl⟩))
    all_goals (go_wp2_with fail; go_meet; exact ⟨rfl, hb2.alloc hb2.size _⟩)
  case rest =>
    obtain ⟨rfl, hb2⟩ := hcut
    have hsee := HS.out.below hb2
    have HB2 : Aside (Below w.heap.size w wc) := HB.out.trans (hb2.mono HB.out.size)
    clear h83 h84 h56 h54 t1 t2 t3 hb2
    by_cases he : e = 0
    · subst he
      have hbd := hbd HX.out
      have h85 : ∀ W, LayAt W b off l → Calls Try.prog 85 #[.slice (some ⟨b, off, none⟩) n cap, .int .i64 win] W fun e w' => ∃ g c4, e = .returned (.slice (some ⟨g, 0, none⟩) (4 * n) c4) ∧ (∀ j t, (eyeT l win)[j]? = some t → w'.cell? ⟨g, j, none⟩ = some (.int .i64 t)) ∧ Below W.heap.size W w' := fun W hW => by
        have := turns_at b off cap l win W (by rw [← X.out]; exact hn) hW
        rw [← X.out] at this
        refine this.mono ?_
        rintro _ w' ⟨v, rfl, ho, hb⟩
        obtain ⟨g, c4, rfl⟩ : ∃ g c4, v = .slice (some ⟨g, 0, none⟩) (4 * n) c4 := by
          rcases ho.2 with ⟨_, h⟩ | ⟨g, c4, _, h, _⟩
          · omega
          · exact ⟨g, c4, h⟩
        refine ⟨g, c4, rfl, fun j t hj => ?_, hb⟩
        have hjl := (List.getElem?_eq_some_iff.1 hj).1
        have hlen : (isort (trnL win l)).length = 4 * n := by rw [isort_len, trnL_len, X.out]
        have := cell_own ho (i := j) (by rw [← hlen]; exact hjl)
        rw [this]
        have hj' : (isort (trnL win l))[j]? = some t := hj
        simp [List.getD, hj']
      have hnew : ∀ (v : Value) (t : TypeId), (wc.alloc (.cells #[v] t)).cell? ⟨wc.heap.size, 0, none⟩ = some v := fun v t => cell_of_row _ wc.heap.size 0 _ t (0, 0) (heap_alloc_new wc (.cells #[v] t))
      have HW : Aside (∀ (v : Value) (t : TypeId), (wc.alloc (.cells #[v] t)).cell? ⟨wc.heap.size, 0, none⟩ = some v) := hnew
      have HS2 : Aside (∀ o, Sees (wc.alloc o) p q b off cap l win en) := fun o => hsee.below ((Below.refl _ wc).alloc (Nat.le_refl _) o)
      obtain ⟨t1, t2, t3, _, _⟩ := HS2.out (.cells #[.func (.func 87) #[] #[.pointer (some ⟨p, 0, none⟩), .pointer (some ⟨q, 0, none⟩)]] 94)
      rw [← X.out] at t1
      have hst : (store ⟨wc.heap.size, 0, none⟩ (.func (.func 87) #[] #[.pointer (some ⟨p, 0, none⟩), .pointer (some ⟨q, 0, none⟩)])).run Try.prog (wc.alloc (.cells #[.nilFunc] 94)) = .ok () (wc.alloc (.cells #[.func (.func 87) #[] #[.pointer (some ⟨p, 0, none⟩), .pointer (some ⟨q, 0, none⟩)]] 94)) := by
        rw [run_store Try.prog _ _ _ _ rfl, hnew, World.frozen?_alloc_at _ _ _ _ rfl, World.setCell_alloc_at _ _ _ _ _ rfl]
        rfl
      clear hnew
      by_cases hlow : fstI (unB l win en) (eyeT l win) 0 < 1
      · obtain ⟨F, hF⟩ : ∃ F, F = fstI (unB l win en) (eyeT l win) 0 := ⟨_, rfl⟩
        have HF : Aside (F = fstI (unB l win en) (eyeT l win) 0) := hF
        rw [← hF] at hlow
        clear hF
        go_wp2_with (first
          | (go_at_call 85; refine (h85 _ (HS2.out _).c).mono ?_; rintro _ w4 ⟨g, c4, rfl, hts, hb4⟩
             have hf4 := (World.cell?_of_block (a := ⟨wc.heap.size, 0, none⟩) (hb4.block wc.heap.size (by rw [World.size_alloc]; omega))).trans (HW.out _ _)
             have hs4 := (HS2.out _).below hb4
             have HB4 : Aside (Below w.heap.size w w4) := (HB2.out.alloc HB2.out.size _).trans (hb4.mono (by rw [World.size_alloc]; have := HB2.out.size; omega))
             have hidx := idx88 g c4 (eyeT l win) w4 (by rw [← X.out]; exact hn) (by show (isort (trnL win l)).length ≤ 10000; rw [isort_len, trnL_len, ← X.out]; omega) hs4 hts
             rw [show (eyeT l win).length = 4 * n by show (isort (trnL win l)).length = _; rw [isort_len, trnL_len, X.out]] at hidx
             have HT : Aside _ := hts
             have HS4 : Aside _ := hs4
             have ha4 : wc.heap.size < w4.heap.size := by have := hb4.size; rw [World.size_alloc] at this; omega
             clear hts hs4 hb4)
          | (go_at_call 88; rw [← HF.out] at hidx; refine hidx.mono ?_; rintro _ w5 ⟨rfl, hb5⟩
             have HB5 : Aside (Below w.heap.size w w5) := HB4.out.trans (hb5.mono HB4.out.size)
             clear hb5))
        go_ret2
        have hr : r = (0, 12) := by rw [HR.out, eyeV, if_neg (by rw [HX.out]; simp), if_pos (by rw [← HF.out]; exact hlow)]
        rw [hr]
        exact ⟨rfl, HB5.out⟩
      · obtain ⟨m, hm⟩ : ∃ m : Nat, fstI (unB l win en) (eyeT l win) 0 = (m : Int) + 1 := ⟨(fstI (unB l win en) (eyeT l win) 0 - 1).toNat, by omega⟩
        have hmn : m + 1 < 4 * n := by
          have hlen : (eyeT l win).length = 4 * n := by show (isort (trnL win l)).length = _; rw [isort_len, trnL_len, X.out]
          rcases fstI_rng (unB l win en) (eyeT l win) 0 with h | h
          · omega
          · rw [hlen, hm] at h; omega
        obtain ⟨a, ha⟩ : ∃ a, (eyeT l win)[m]? = some a := ⟨(eyeT l win)[m]'(by show m < (isort (trnL win l)).length; rw [isort_len, trnL_len, ← X.out]; omega), List.getElem?_eq_getElem _⟩
        obtain ⟨c, hc⟩ : ∃ c, (eyeT l win)[m + 1]? = some c := ⟨(eyeT l win)[m + 1]'(by show m + 1 < (isort (trnL win l)).length; rw [isort_len, trnL_len, ← X.out]; omega), List.getElem?_eq_getElem _⟩
        have HM : Aside (fstI (unB l win en) (eyeT l win) 0 = (m : Int) + 1 ∧ (eyeT l win)[m]? = some a ∧ (eyeT l win)[m + 1]? = some c) := ⟨hm, ha, hc⟩
        clear hm ha hc hlow
        go_wp2_with (first
          | (go_at_call 85; refine (h85 _ (HS2.out _).c).mono ?_; rintro _ w4 ⟨g, c4, rfl, hts, hb4⟩
             have hf4 := (World.cell?_of_block (a := ⟨wc.heap.size, 0, none⟩) (hb4.block wc.heap.size (by rw [World.size_alloc]; omega))).trans (HW.out _ _)
             have hs4 := (HS2.out _).below hb4
             have HB4 : Aside (Below w.heap.size w w4) := (HB2.out.alloc HB2.out.size _).trans (hb4.mono (by rw [World.size_alloc]; have := HB2.out.size; omega))
             have hidx := idx88 g c4 (eyeT l win) w4 (by rw [← X.out]; exact hn) (by show (isort (trnL win l)).length ≤ 10000; rw [isort_len, trnL_len, ← X.out]; omega) hs4 hts
             rw [show (eyeT l win).length = 4 * n by show (isort (trnL win l)).length = _; rw [isort_len, trnL_len, X.out]] at hidx
             have HT : Aside _ := hts
             have HS4 : Aside _ := hs4
             have ha4 : wc.heap.size < w4.heap.size := by have := hb4.size; rw [World.size_alloc] at this; omega
             clear hts hs4 hb4)
          | (go_at_call 88; rw [HM.out.1] at hidx; refine hidx.mono ?_; rintro _ w5 ⟨rfl, hb5⟩
             have HB5 : Aside (Below w.heap.size w w5) := HB4.out.trans (hb5.mono HB4.out.size)
             have HS5 : Aside (Sees w5 p q b off cap l win en) := HS4.out.below hb5
             have k1 := HT.out m a HM.out.2.1
             have k2 := HT.out (m + 1) c HM.out.2.2
             have kk : ∀ o v, w4.cell? ⟨g, o, none⟩ = some v → w5.cell? ⟨g, o, none⟩ = some v := fun o v h => by
               rw [World.cell?_of_block (hb5.block g (World.block_lt_of_cell? w4 _ h))]; exact h
             have k1 := kk _ _ k1
             have k2 := kk _ _ k2
             have hf5 := (World.cell?_of_block (a := ⟨wc.heap.size, 0, none⟩) (hb5.block wc.heap.size ha4)).trans hf4
             clear hb5 kk))
        have hA : eyeA l win en = a := by
          unfold eyeA
          rw [HM.out.1, show ((m : Int) + 1 - 1).toNat = m by omega, List.getD, HM.out.2.1]
          rfl
        have hC : eyeC l win en = c := by
          unfold eyeC
          rw [HM.out.1, show ((m : Int) + 1).toNat = m + 1 by omega, List.getD, HM.out.2.2]
          rfl
        have hv : r = (wrap64 (a + srchI (fun n => unB l win en (wrap64 (wrap64 (a + n) + 1))) (wrap64 (c - a)).toNat 0 (wrap64 (c - a))), 0) := by
          rw [HR.out, eyeV, if_neg (by rw [HX.out]; simp), if_neg (by rw [HM.out.1]; omega), hA, hC]
        rw [hA, hC] at hbd
        clear hA hC
        obtain ⟨W6, hW6⟩ : ∃ W6, W6 = w5.alloc (.cells #[.int .i64 a] 3) := ⟨_, rfl⟩
        obtain ⟨o, ho⟩ : ∃ o, o = w5.heap.size := ⟨_, rfl⟩
        obtain ⟨s7, hs7⟩ : ∃ s7, s7 = wc.heap.size := ⟨_, rfl⟩
        have hB56 : Below w5.heap.size w5 W6 := by rw [hW6]; exact (Below.refl _ w5).alloc (Nat.le_refl _) _
        have HB6 : Aside (Below w.heap.size w W6) := HB5.out.trans (hB56.mono HB5.out.size)
        have hs6 := HS5.out.below hB56
        have k6 : W6.cell? ⟨g, m + 1, none⟩ = some (.int .i64 c) := by
          rw [World.cell?_of_block (hB56.block g (World.block_lt_of_cell? w5 _ k2))]; exact k2
        have f6 : W6.cell? ⟨s7, 0, none⟩ = some (.func (.func 87) #[] #[.pointer (some ⟨p, 0, none⟩), .pointer (some ⟨q, 0, none⟩)]) := by
          rw [hs7, World.cell?_of_block (hB56.block wc.heap.size (World.block_lt_of_cell? w5 _ hf5))]; exact hf5
        have o6 : W6.cell? ⟨o, 0, none⟩ = some (.int .i64 a) := by
          rw [hW6, ho]
          exact cell_of_row _ w5.heap.size 0 _ 3 (0, 0) (heap_alloc_new w5 (.cells #[.int .i64 a] 3))
        rw [← hW6, ← ho, ← hs7]
        have h89 := srch89 s7 o (fun n => unB l win en (wrap64 (wrap64 (a + n) + 1))) (wrap64 (c - a)) W6.drew hbd (fun i W' hb' => by
          have hb : Below W6.heap.size W6 W' := ⟨hb'.os, hb'.tape, hb'.output, hb'.size, hb'.block⟩
          have kk : ∀ ad v, W6.cell? ad = some v → W'.cell? ad = some v := fun ad v h => by
            rw [World.cell?_of_block (hb.block ad.block (World.block_lt_of_cell? W6 _ h))]; exact h
          exact clos90 s7 o a i W' (by rw [← X.out]; exact hn) (hs6.below hb) (kk _ _ f6) (kk _ _ o6))
        have key : Aside (∀ w7, Below W6.drew.heap.size W6.drew w7 → w7.cell? ⟨o, 0, none⟩ = some (.int .i64 a) ∧ Below w.heap.size w w7) := fun w7 hb' => by
          have hb : Below W6.heap.size W6 w7 := ⟨hb'.os, hb'.tape, hb'.output, hb'.size, hb'.block⟩
          exact ⟨by rw [World.cell?_of_block (hb.block o (World.block_lt_of_cell? W6 _ o6))]; exact o6, HB6.out.trans (hb.mono HB6.out.size)⟩
        have HV : Aside _ := hv
        generalize srchI (fun n => unB l win en (wrap64 (wrap64 (a + n) + 1))) (wrap64 (c - a)).toNat 0 (wrap64 (c - a)) = S at h89 HV
        clear hv hW6 ho hs7 hs6 hB56 k1 k2 hf5 h85 hst t1 t2 t3 hidx hf4
        have hw : ∀ x : Int, wrap64 x = IntKind.i64.wrap x := fun x => by rw [IntKind.wrap_i64]; unfold wrap64; rfl
        rw [hw (c - a)] at h89
        have HR2 : Aside (r = (IntKind.i64.wrap (a + S), 0)) := by rw [← hw]; exact HV.out
        clear hw
        have i1 : (0 : Int) ≤ (m : Int) + 1 := by omega
        have i2 : (m : Int) + 1 < 4 * (n : Int) := by omega
        have i3 : (m : Int) + 1 < ((4 * n : Nat) : Int) := by omega
        have i4 : ((m : Int) + 1).toNat = m + 1 := by omega
        go_region_law (first | (go_simp; go_at_call 89; refine h89.mono ?_; rintro _ w7 ⟨rfl, hb7⟩; have o7 := (key.out w7 hb7).1))
        all_goals go_wp2
        all_goals go_ret2
        all_goals rw [HR2.out]
        all_goals exact ⟨rfl, (key.out w7 hb7).2⟩
    · have hb : (e != 0) = true := by simp [he]
      go_wp2
      go_ret2
      have hr : r = (0, e) := by rw [HR.out, eyeV, HX.out, if_pos he]
      rw [hr]
      exact ⟨rfl, HB2.out⟩
end Gv
namespace Gv
open Go Go.Proofs Go.RowKit Go.Shelf Go.Sort Go.ChangeShapes Go.WideShapes
set_option maxRecDepth 100000
def eyeG : List PV → Option PV
  | [.list n cs, .agg [.int .i64 win, .int .i64 en]] => match shtsOf cs with
    | some l => if l.length = n ∧ 1 ≤ n ∧ n ≤ 1000 ∧ (eyeE l win en = 0 → wrap64 (eyeC l win en - eyeA l win en) ≤ 100000000) then some (.tup [.int .i64 (eyeV l win en).1, .int .i64 (eyeV l win en).2]) else none
    | none => none
  | _ => none
theorem eye43 : PrimOK Try.prog 43 eyeG := by
  refine ⟨⟨Try.f43, Try.func43, by kernel_rfl, by decide⟩, fun args v hg w St vals hlt hargs => ?_⟩
  unfold eyeG at hg
  split at hg <;> try (cases hg; done)
  rename_i n cs win en
  split at hg <;> try (cases hg; done)
  rename_i l hl
  split at hg <;> try (cases hg; done)
  rename_i hn
  simp only [Option.some.injEq] at hg
  subst hg
  obtain ⟨rfl, h1, h2, h3⟩ := hn
  have hcs := shtsOf_some (Nat.le_refl _) hl
  subst hcs
  simp only [PRs, PR] at hargs
  obtain ⟨u, _, rfl, ⟨a, cap, us, rfl, hus, hcap, hat⟩, u2, _, rfl, ⟨vs, rfl, u3, _, rfl, rfl, u4, _, rfl, rfl, rfl⟩, rfl⟩ := hargs
  have := prs_shts hus
  subst this
  rcases hat with ⟨h, _⟩ | ⟨ad, rfl, hat⟩
  · omega
  · have cellv : ∀ j z k x, l[j]? = some z → k < 3 → (valT z)[k]? = some x → w.cell? (ad.add (j * 3 + k)) = some x := fun j z k x hj hk hx =>
      (hat (j * 3 + k) x (by rw [valT_get l j k hk, hj]; exact hx)).2.1
    obtain ⟨z0, hz0⟩ : ∃ z, l[0]? = some z := ⟨l[0]'(by omega), List.getElem?_eq_getElem _⟩
    have hc0 := cellv 0 z0 0 (.int .i64 z0.1) hz0 (by omega) rfl
    have ee : ad = ⟨ad.block, ad.off, none⟩ := add_form ad 0 (cell_spot hc0)
    rw [ee]
    refine (eye_at ad.block ad.off cap l win en w h1 h2 hcap h3 fun j z hj => ?_).mono ?_
    · have a0 := cellv j z 0 (.int .i64 z.1) hj (by omega) rfl
      have a1 := cellv j z 1 (.int .i64 z.2.1) hj (by omega) rfl
      have a2 := cellv j z 2 (.int .i64 z.2.2) hj (by omega) rfl
      rw [add_form ad _ (cell_spot a0)] at a0
      rw [add_form ad _ (cell_spot a1)] at a1
      rw [add_form ad _ (cell_spot a2)] at a2
      exact ⟨a0, a1, a2⟩
    · rintro _ w' ⟨rfl, hb⟩
      exact ⟨_, St, rfl, by simp [RR, PR, PRs], hb, fun _ _ h => h, fun b o h => by have := hlt b o h; have := hb.size; omega, fun _ _ h => .inl h⟩
end Gv
namespace Gv
open Go Go.Proofs Go.RowKit Go.Shelf Go.Sort Go.ChangeShapes Go.WideShapes
set_option maxRecDepth 100000
set_option maxHeartbeats 1000000 in
theorem item101_0 (a : Option Addr) (cap : Nat) (w : World) : Calls Try.prog 101 #[.slice a 0 cap, .func (.func 74) #[] #[]] w fun e w' => e = .returned (.tuple #[.int .i64 0, .int .i64 0]) ∧ w' = w := by
  go_enter Try.func101, Try.ntmps101
  go_wp2
  go_loopw [11] (fun i wr => i = .int .i64 0 ∧ wr = w) (fun _ _ => 0)
  case atStart => exact ⟨rfl, rfl⟩
  case round =>
    obtain ⟨rfl, rfl⟩ := hrel
    go_wp2
    go_ret2
    exact ⟨rfl, rfl⟩
set_option maxHeartbeats 1000000 in
theorem lays75_0 (a : Option Addr) (cap : Nat) (w : World) : Calls Try.prog 75 #[.slice a 0 cap] w fun e w' => e = .returned (.int .i64 0) ∧ w' = w := by
  have h101 := item101_0 a cap w
  have h73 : Calls Try.prog 73 #[.slice a 0 cap, .int .i64 10, .func (.func 74) #[] #[]] w fun e w' => e = .returned (.tuple #[.int .i64 0, .int .i64 0]) ∧ w' = w := by
    go_enter Try.func73, Try.ntmps73
    go_wp2_with (go_at_call 101; refine h101.mono ?_; rintro _ w2 ⟨rfl, rfl⟩)
    go_ret2
    exact ⟨rfl, rfl⟩
  have h33 : Calls Try.prog 33 #[.slice a 0 cap] w fun e w' => e = .returned (.tuple #[.int .i64 0, .int .i64 0]) ∧ w' = w := by
    go_enter Try.func33, Try.ntmps33
    go_wp2_with (go_at_call 73; refine h73.mono ?_; rintro _ w2 ⟨rfl, rfl⟩)
    go_ret2
    exact ⟨rfl, rfl⟩
  go_enter Try.func75, Try.ntmps75
  go_wp2_with (go_at_call 33; refine h33.mono ?_; rintro _ w2 ⟨rfl, rfl⟩)
  go_ret
  exact ⟨rfl, rfl⟩
set_option maxHeartbeats 2000000 in
theorem clone76_nil (n c : Nat) (w : World) : Calls Try.prog 76 #[.slice none n c] w fun e w' => e = .returned (.slice none 0 0) ∧ w' = w := by
  have q : ∀ (w : World) (a : Option Addr) (n c n' c' : Nat), (binOp .eql 63 (.slice a n c) (.slice none n' c')).run Try.prog w = .ok (.bool a.isNone) w := fun w a n c n' c' => Lib.run_eql_slice_nil w _ _ a n c n' c' Try.underlying63
  go_enter Try.func76, Try.ntmps76
  go_wp2
  go_ret
  exact ⟨rfl, rfl⟩
set_option maxHeartbeats 2000000 in
theorem clone76_zero (a : Addr) (c : Nat) (w : World) : Calls Try.prog 76 #[.slice (some a) 0 c] w fun e w' => ∃ a' c', e = .returned (.slice a' 0 c') ∧ Below w.heap.size w w' := by
  have q : ∀ (w : World) (a : Option Addr) (n c n' c' : Nat), (binOp .eql 63 (.slice a n c) (.slice none n' c')).run Try.prog w = .ok (.bool a.isNone) w := fun w a n c n' c' => Lib.run_eql_slice_nil w _ _ a n c n' c' Try.underlying63
  have u22 : ∀ w, Sem.run Try.prog (underlying 63) w = .ok (TypeDesc.slice 111) w := run_underlying Try.underlying63
  obtain ⟨i0, hi, hz0, hz1, hz2⟩ : ∃ i0, Try.prog.info? 111 = some i0 ∧ i0.zero = some (.agg #[.int .i64 0, .int .i64 0, .int .i64 0]) ∧ i0.size = 3 ∧ i0.bytes = 24 := ⟨_, rfl, by kernel_rfl, by kernel_rfl, by kernel_rfl⟩
  go_enter Try.func76, Try.ntmps76
  go_wp2_with (at_builtin; refine wpList_append_own _ rfl _ _ 63 rfl w.heap.size 111 i0 (.agg #[.int .i64 0, .int .i64 0, .int .i64 0]) 3 24 Try.underlying63 hi hz0 hz1 hz2 rfl (by decide) _ _ _ rfl (World.ownsRow_made w #[] 0 (Nat.le_refl _) (Nat.zero_le _) rfl) a 0 c [] rfl rfl (by intro j u hj; simp at hj) (by intro u hu; cases hu) (by unfold maxLen; omega) (by omega) (by simp) ?_)
  intro v' w1 hown hgrow hnil
  go_wp2
  go_ret
  obtain ⟨a', c', rfl⟩ : ∃ a' c', v' = .slice a' 0 c' := by
    rcases hown.2 with ⟨h, _⟩ | ⟨g, c4, _, h, _⟩
    · exact ⟨_, _, h⟩
    · exact ⟨_, _, h⟩
  exact ⟨a', c', rfl, ((Below.refl _ w).alloc (Nat.le_refl _) _).grown hgrow (by simp) (by intro k hk; simp [Value.ownBlock] at hk; omega)⟩
set_option maxHeartbeats 1000000 in
theorem sort77_0 (a : Option Addr) (cap : Nat) (w : World) : Calls Try.prog 77 #[.slice a 0 cap, .func (.func 78) #[] #[]] w fun e w' => e = .returned (.tuple #[]) ∧ w' = w := by
  have h113 : Calls Try.prog 113 #[.slice a 0 cap, .int .i64 0, .int .i64 0, .func (.func 78) #[] #[]] w fun e w' => e = .returned (.tuple #[]) ∧ w' = w := by
    go_enter Try.func113, Try.ntmps113
    go_wp2
    go_loopw [8] (fun x wr => x = .int .i64 1 ∧ wr = w) (fun _ _ => 0)
    case atStart => exact ⟨rfl, rfl⟩
    case round =>
      obtain ⟨rfl, rfl⟩ := hrel
      go_wp2
      go_end0
      exact ⟨rfl, rfl⟩
  have h102 : Calls Try.prog 102 #[.slice a 0 cap, .int .i64 0, .func (.func 78) #[] #[]] w fun e w' => e = .returned (.tuple #[]) ∧ w' = w := by
    go_enter Try.func102, Try.ntmps102
    go_wp2
    go_loopw [7, 8] (fun x y wr => x = .int .i64 0 ∧ y = .int .i64 20 ∧ wr = w) (fun _ _ _ => 0)
    case atStart => exact ⟨rfl, rfl, rfl⟩
    case round =>
      obtain ⟨rfl, rfl, rfl⟩ := hrel
      go_wp2_with (go_at_call 113; refine h113.mono ?_; rintro _ w2 ⟨rfl, hw2⟩)
      go_loopw [6] (fun x w3 => x = .int .i64 20 ∧ w3 = wr) (fun _ _ => 0)
      case atStart => exact ⟨rfl, rfl⟩
      case round =>
        obtain ⟨rfl, rfl⟩ := hrel
        go_wp2
        go_end0
        exact ⟨rfl, rfl⟩
  go_enter Try.func77, Try.ntmps77
  go_wp2_with (go_at_call 102; refine h102.mono ?_; rintro _ w2 ⟨rfl, rfl⟩)
  go_end0
  exact ⟨rfl, rfl⟩
def zeroV (e : Int) : Int := if rngE e 1 8 ≠ 0 then rngE e 1 8 else 12
set_option maxHeartbeats 1000000 in
theorem ceil_zero (a : Option Addr) (cap : Nat) (e : Int) (w : World) : Calls Try.prog 35 #[.slice a 0 cap, .int .i64 e] w fun r w' => r = .returned (.tuple #[.int .i64 0, .int .i64 (zeroV e)]) ∧ Below w.heap.size w w' := by
  have h75 := lays75_0 a cap w
  have h56 := fun W => rng56 e 1 8 W
  have hcl : ∀ W : World, Calls Try.prog 76 #[.slice a 0 cap] W fun e w' => ∃ a' c', e = .returned (.slice a' 0 c') ∧ Below W.heap.size W w' := fun W => by
    cases a with
    | none => exact (clone76_nil 0 cap W).mono fun _ _ ⟨h, h2⟩ => ⟨_, _, h, by rw [h2]; exact Below.refl _ _⟩
    | some a => exact clone76_zero a cap W
  unfold zeroV
  generalize rngE e 1 8 = y at h56 ⊢
  have h54 : ∀ W : World, Calls Try.prog 54 #[.slice (some ⟨W.heap.size, 0, none⟩) 2 2] (W.alloc (.cells #[.int .i64 0, .int .i64 y] 35)) fun e w' => e = .returned (.int .i64 y) ∧ w' = W.alloc (.cells #[.int .i64 0, .int .i64 y] 35) := fun W => by
    have h := first54 W.heap.size 0 2 [0, y] (W.alloc (.cells #[.int .i64 0, .int .i64 y] 35)) (by simp) (fun j u hj => by
      have := two_new W (.int .i64 0) (.int .i64 y) 35 j (.int .i64 u) (by rcases j with _ | _ | j <;> simp at hj ⊢ <;> exact hj)
      simpa [addr_add] using this)
    have hy : firstE [0, y] = y := by
      unfold firstE firstE firstE
      by_cases h : y = 0 <;> simp [h]
    rw [hy] at h
    exact h
  by_cases h0 : y = 0
  · subst h0
    rw [if_neg (by simp)]
    go_enter Try.func35, Try.ntmps35
    go_wp2_with (first
      | (go_at_call 75; refine h75.mono ?_; rintro _ w1 ⟨rfl, rfl⟩)
      | (go_at_call 56; refine (h56 _).mono ?_; rintro _ w2 ⟨rfl, rfl⟩)
      | (go_at_call 54; refine (h54 _).mono ?_; rintro _ w3 ⟨rfl, rfl⟩)
      | (go_at_call 76; refine (hcl _).mono ?_; rintro _ w4 ⟨a', c', rfl, hb4⟩
         have hs := sort77_0 a' c' w4)
      | (go_at_call 77; refine hs.mono ?_; rintro _ w5 ⟨rfl, hw5⟩))
    go_loopw [8, 26] (fun x i w6 => x = .int .i64 0 ∧ i = .int .i64 0 ∧ w6 = w4) (fun _ _ _ => 0)
    case atStart => exact ⟨rfl, rfl, rfl⟩
    case round =>
      obtain ⟨rfl, rfl, rfl⟩ := hrel
      go_wp2
      go_ret2
      refine ⟨rfl, ?_⟩
      exact ((Below.refl _ w2).alloc (Nat.le_refl _) _).trans (hb4.mono (by rw [World.size_alloc]; omega))
  · rw [if_pos h0]
    go_enter Try.func35, Try.ntmps35
    go_wp2_with (first
      | (go_at_call 75; refine h75.mono ?_; rintro _ w1 ⟨rfl, rfl⟩)
      | (go_at_call 56; refine (h56 _).mono ?_; rintro _ w2 ⟨rfl, rfl⟩)
      | (go_at_call 54; refine (h54 _).mono ?_; rintro _ w3 ⟨rfl, rfl⟩))
    go_ret2
    exact ⟨rfl, (Below.refl _ w2).alloc (Nat.le_refl _) _⟩
def ceilH : List PV → Option PV
  | [.list 0 [], .int .i64 e] => some (.tup [.int .i64 0, .int .i64 (zeroV e)])
  | args => ceilG args
theorem ceil35z : PrimOK Try.prog 35 ceilH := by
  refine ⟨ceil35.ent, fun args v hg w St vals hlt hargs => ?_⟩
  unfold ceilH at hg
  split at hg
  · rename_i e
    simp only [Option.some.injEq] at hg
    subst hg
    simp only [PRs, PR] at hargs
    obtain ⟨u, _, rfl, ⟨a, cap, us, rfl, hus, hcap, hat⟩, u2, _, rfl, rfl, rfl⟩ := hargs
    refine (ceil_zero a cap e w).mono ?_
    rintro _ w' ⟨rfl, hb⟩
    exact ⟨_, St, rfl, by simp [RR, PR, PRs], hb, fun _ _ h => h, fun b o h => by have := hlt b o h; have := hb.size; omega, fun _ _ h => .inl h⟩
  · exact ceil35.ok args v hg w St vals hlt hargs
end Gv
namespace Gv
open Go Go.Proofs Go.RowKit Go.Shelf Go.Sort Go.ChangeShapes Go.WideShapes
set_option maxRecDepth 100000
set_option maxHeartbeats 1000000 in
theorem item117_0 (a : Option Addr) (cap : Nat) (w : World) : Calls Try.prog 117 #[.slice a 0 cap, .func (.func 109) #[] #[]] w fun e w' => e = .returned (.tuple #[.int .i64 0, .int .i64 0]) ∧ w' = w := by
  go_enter Try.func117, Try.ntmps117
  go_wp2
  go_loopw [11] (fun i wr => i = .int .i64 0 ∧ wr = w) (fun _ _ => 0)
  case atStart => exact ⟨rfl, rfl⟩
  case round =>
    obtain ⟨rfl, rfl⟩ := hrel
    go_wp2
    go_ret2
    exact ⟨rfl, rfl⟩
set_option maxHeartbeats 1000000 in
theorem shots83_0 (a : Option Addr) (cap : Nat) (w : World) : Calls Try.prog 83 #[.slice a 0 cap] w fun e w' => e = .returned (.int .i64 0) ∧ w' = w := by
  have h117 := item117_0 a cap w
  have h108 : Calls Try.prog 108 #[.slice a 0 cap, .int .i64 20, .func (.func 109) #[] #[]] w fun e w' => e = .returned (.tuple #[.int .i64 0, .int .i64 0]) ∧ w' = w := by
    go_enter Try.func108, Try.ntmps108
    go_wp2_with (go_at_call 117; refine h117.mono ?_; rintro _ w2 ⟨rfl, rfl⟩)
    go_ret2
    exact ⟨rfl, rfl⟩
  go_enter Try.func83, Try.ntmps83
  go_wp2_with (go_at_call 108; refine h108.mono ?_; rintro _ w2 ⟨rfl, rfl⟩)
  go_ret
  exact ⟨rfl, rfl⟩
set_option maxHeartbeats 1000000 in
theorem idx88_0 (a : Option Addr) (cap : Nat) (f : Value) (w : World) : Calls Try.prog 88 #[.slice a 0 cap, f] w fun e w' => e = .returned (.int .i64 (-1)) ∧ w' = w := by
  go_enter Try.func88, Try.ntmps88
  go_wp2
  go_loopw [8] (fun i wr => i = .int .i64 0 ∧ wr = w) (fun _ _ => 0)
  case atStart => exact ⟨rfl, rfl⟩
  case round =>
    obtain ⟨rfl, rfl⟩ := hrel
    go_wp2
    go_ret
    exact ⟨rfl, rfl⟩
structure Sees0 (W : World) (p q : Nat) (a : Option Addr) (cap : Nat) (win en : Int) : Prop where
  s : W.cell? ⟨p, 0, none⟩ = some (.slice a 0 cap)
  x : W.cell? ⟨q, 0, none⟩ = some (.int .i64 win)
  y : W.cell? ⟨q, 1, none⟩ = some (.int .i64 en)
theorem Sees0.below {W W' : World} {p q : Nat} {a : Option Addr} {cap : Nat} {win en : Int} (h : Sees0 W p q a cap win en) (hb : Below W.heap.size W W') : Sees0 W' p q a cap win en := by
  have hc : ∀ a v, W.cell? a = some v → W'.cell? a = some v := fun a v ha => by
    rw [World.cell?_of_block (hb.block a.block (World.block_lt_of_cell? W _ ha))]
    exact ha
  exact ⟨hc _ _ h.s, hc _ _ h.x, hc _ _ h.y⟩
def zeroY (win en : Int) : Int := if firstE [0, rngE win 1 1000000, rngE en 0 1000000000000] ≠ 0 then firstE [0, rngE win 1 1000000, rngE en 0 1000000000000] else 12
set_option maxHeartbeats 8000000 in
theorem eye_zero (a : Option Addr) (cap : Nat) (win en : Int) (w : World) :
    Calls Try.prog 43 #[.slice a 0 cap, .agg #[.int .i64 win, .int .i64 en]] w fun r w' => r = .returned (.tuple #[.int .i64 0, .int .i64 (zeroY win en)]) ∧ Below w.heap.size w w' := by
  obtain ⟨r, hr⟩ : ∃ r, r = zeroY win en := ⟨_, rfl⟩
  have HR : Aside (r = zeroY win en) := hr
  rw [← hr]
  clear hr
  go_enter Try.func43, Try.ntmps43
  go_wp2
  obtain ⟨W1, hW1⟩ : ∃ W1, W1 = (w.alloc (.cells #[.slice a 0 cap] 72)).alloc (.cells #[.int .i64 win, .int .i64 en] 74) := ⟨_, rfl⟩
  obtain ⟨p, hp⟩ : ∃ p, p = w.heap.size := ⟨_, rfl⟩
  obtain ⟨q, hq⟩ : ∃ q, q = w.heap.size + 1 := ⟨_, rfl⟩
  have hB1 : Below w.heap.size w W1 := by
    rw [hW1]
    exact ((Below.refl _ w).alloc (Nat.le_refl _) _).alloc (by rw [World.size_alloc]; omega) _
  have hsee : Sees0 W1 p q a cap win en := by
    have r0 : W1.heap[p]? = some (.cells #[.slice a 0 cap] 72 (0, 0)) := by
      rw [hW1, hp, Below.heap_alloc _ _ _ (by rw [World.size_alloc]; omega)]
      exact heap_alloc_new w _
    have r1 : W1.heap[q]? = some (.cells #[.int .i64 win, .int .i64 en] 74 (0, 0)) := by
      rw [hW1, hq, ← World.size_alloc w (.cells #[.slice a 0 cap] 72)]
      exact heap_alloc_new _ _
    refine ⟨?_, ?_, ?_⟩
    · have := cell_of_row W1 p 0 _ 72 (0, 0) r0; simpa using this
    · have := cell_of_row W1 q 0 _ 74 (0, 0) r1; simpa using this
    · have := cell_of_row W1 q 1 _ 74 (0, 0) r1; simpa using this
  rw [← hW1, ← hq, ← hp]
  clear hW1 hp hq
  have h83 : Calls Try.prog 83 #[.slice a 0 cap] W1.drew fun r w' => r = .returned (.int .i64 0) ∧ Below W1.heap.size W1 w' := by
    refine (shots83_0 a cap W1.drew).mono ?_
    rintro _ w' ⟨h, rfl⟩
    have hb := Below.refl W1.heap.size W1
    exact ⟨h, ⟨hb.os, hb.tape, hb.output, hb.size, hb.block⟩⟩
  obtain ⟨y, hy⟩ : ∃ y, y = rngE win 1 1000000 := ⟨_, rfl⟩
  obtain ⟨z, hz⟩ : ∃ z, z = rngE en 0 1000000000000 := ⟨_, rfl⟩
  have h84 := fun W => win84 win W
  have h56 := fun W => rng56 en 0 1000000000000 W
  have HX : Aside (zeroY win en = if firstE [0, y, z] ≠ 0 then firstE [0, y, z] else 12) := by
    show zeroY win en = _
    rw [hy, hz]
    rfl
  rw [← hy] at h84
  rw [← hz] at h56
  clear hy hz
  have h54 : ∀ W : World, Calls Try.prog 54 #[.slice (some ⟨W.heap.size, 0, none⟩) 3 3] (W.alloc (.cells #[.int .i64 0, .int .i64 y, .int .i64 z] 35)) fun e w' => e = .returned (.int .i64 (firstE [0, y, z])) ∧ w' = W.alloc (.cells #[.int .i64 0, .int .i64 y, .int .i64 z] 35) := fun W =>
    first54 W.heap.size 0 3 [0, y, z] _ (by simp) (fun j u hj => by
      have := three_new W (.int .i64 0) (.int .i64 y) (.int .i64 z) 35 j (.int .i64 u) (by rcases j with _ | _ | _ | j <;> simp at hj ⊢ <;> exact hj)
      simpa [addr_add] using this)
  generalize firstE [0, y, z] = e at h54 HX
  have HS : Aside (Sees0 W1 p q a cap win en) := hsee
  obtain ⟨t1, t2, t3⟩ := hsee
  have HB : Aside (Below w.heap.size w W1) := hB1
  clear hB1
  go_cut [6] from 11 (fun s6 wx => s6 = .int .i64 e ∧ Below W1.heap.size W1 wx)
  case first =>
    go_region_law (first
      | (go_simp; go_at_call 83; refine h83.mono ?_; rintro _ w2 ⟨rfl, hb2⟩; have u2 := (HS.out.below hb2).x; have u3 := (HS.out.below hb2).y)
      | (go_simp; go_at_call 84; refine (h84 _).mono ?_; rintro _ w3 ⟨rfl, rfl⟩)
      | (go_simp; go_at_call 56; refine (h56 _).mono ?_; rintro _ w3 ⟨rfl, rfl⟩)
      | (go_simp; go_at_call 54; refine (h54 _).mono ?_; rintro _ w3 ⟨rfl, rfl⟩))
    all_goals (go_wp2_with fail; go_meet; exact ⟨rfl, hb2.alloc hb2.size _⟩)
  case rest =>
    obtain ⟨rfl, hb2⟩ := hcut
    have hsee := HS.out.below hb2
    have HB2 : Aside (Below w.heap.size w wc) := HB.out.trans (hb2.mono HB.out.size)
    clear h83 h84 h56 h54 t1 t2 t3 hb2
    by_cases he : e = 0
    · subst he
      have h85 := turns_zero a cap win
      have hnew : ∀ (v : Value) (t : TypeId), (wc.alloc (.cells #[v] t)).cell? ⟨wc.heap.size, 0, none⟩ = some v := fun v t => cell_of_row _ wc.heap.size 0 _ t (0, 0) (heap_alloc_new wc (.cells #[v] t))
      have HW : Aside (∀ (v : Value) (t : TypeId), (wc.alloc (.cells #[v] t)).cell? ⟨wc.heap.size, 0, none⟩ = some v) := hnew
      have HS2 : Aside (∀ o, Sees0 (wc.alloc o) p q a cap win en) := fun o => hsee.below ((Below.refl _ wc).alloc (Nat.le_refl _) o)
      obtain ⟨t1, t2, t3⟩ := HS2.out (.cells #[.func (.func 87) #[] #[.pointer (some ⟨p, 0, none⟩), .pointer (some ⟨q, 0, none⟩)]] 94)
      have hst : (store ⟨wc.heap.size, 0, none⟩ (.func (.func 87) #[] #[.pointer (some ⟨p, 0, none⟩), .pointer (some ⟨q, 0, none⟩)])).run Try.prog (wc.alloc (.cells #[.nilFunc] 94)) = .ok () (wc.alloc (.cells #[.func (.func 87) #[] #[.pointer (some ⟨p, 0, none⟩), .pointer (some ⟨q, 0, none⟩)]] 94)) := by
        rw [run_store Try.prog _ _ _ _ rfl, hnew, World.frozen?_alloc_at _ _ _ _ rfl, World.setCell_alloc_at _ _ _ _ _ rfl]
        rfl
      clear hnew
      go_wp2_with (first
        | (go_at_call 85; refine (h85 _).mono ?_; rintro _ w4 ⟨rfl, hb4⟩
           have hf4 := (World.cell?_of_block (a := ⟨wc.heap.size, 0, none⟩) (hb4.block wc.heap.size (by rw [World.size_alloc]; omega))).trans (HW.out _ _)
           have HB4 : Aside (Below w.heap.size w w4) := (HB2.out.alloc HB2.out.size _).trans (hb4.mono (by rw [World.size_alloc]; have := HB2.out.size; omega))
           clear hb4)
        | (go_at_call 88; refine (idx88_0 _ _ _ _).mono ?_; rintro _ w5 ⟨rfl, rfl⟩))
      go_ret2
      have hr : r = 12 := by rw [HR.out, HX.out, if_neg (by simp)]
      rw [hr]
      exact ⟨rfl, HB4.out⟩
    · have hb : (e != 0) = true := by simp [he]
      go_wp2
      go_ret2
      have hr : r = e := by rw [HR.out, HX.out, if_pos he]
      rw [hr]
      exact ⟨rfl, HB2.out⟩
def eyeH : List PV → Option PV
  | [.list 0 [], .agg [.int .i64 win, .int .i64 en]] => some (.tup [.int .i64 0, .int .i64 (zeroY win en)])
  | args => eyeG args
theorem eye43z : PrimOK Try.prog 43 eyeH := by
  refine ⟨eye43.ent, fun args v hg w St vals hlt hargs => ?_⟩
  unfold eyeH at hg
  split at hg
  · rename_i win en
    simp only [Option.some.injEq] at hg
    subst hg
    simp only [PRs, PR] at hargs
    obtain ⟨u, _, rfl, ⟨a, cap, us, rfl, hus, hcap, hat⟩, u2, _, rfl, ⟨vs, rfl, u3, _, rfl, rfl, u4, _, rfl, rfl, rfl⟩, rfl⟩ := hargs
    refine (eye_zero a cap win en w).mono ?_
    rintro _ w' ⟨rfl, hb⟩
    exact ⟨_, St, rfl, by simp [RR, PR, PRs], hb, fun _ _ h => h, fun b o h => by have := hlt b o h; have := hb.size; omega, fun _ _ h => .inl h⟩
  · exact eye43.ok args v hg w St vals hlt hargs
end Gv
