import Derived.Test.YtkbahledgljaoaaGreatCT3
import Derived.LoopTactic
import Derived.OwnWalk
namespace Gv
open Go Go.Proofs Go.RowKit Go.Shelf Go.Sort Go.ChangeShapes Go.WideShapes
set_option maxRecDepth 100000
abbrev Sht := Int × Int × Int
def trnF (win : Int) (z : Sht) : List Int := [z.1, z.2.1, wrap64 (z.1 + win), wrap64 (z.2.1 + win)]
def trnL (win : Int) (sh : List Sht) : List Int := sh.flatMap (trnF win)
theorem trnL_len (win : Int) : ∀ sh : List Sht, (trnL win sh).length = 4 * sh.length
  | [] => rfl
  | z :: sh => by
    show (trnF win z ++ trnL win sh).length = _
    rw [List.length_append, trnL_len win sh, List.length_cons]
    show 4 + _ = _
    omega
theorem four_new (W : World) (x y z u : Value) (t : TypeId) : ∀ j v, [x, y, z, u][j]? = some v → (W.alloc (.cells #[x, y, z, u] t)).cell? ((⟨W.heap.size, 0, none⟩ : Addr).add j) = some v := by
  intro j v hj
  have h : (W.alloc (.cells #[x, y, z, u] t)).heap[W.heap.size]? = some (.cells #[x, y, z, u] t (0, 0)) := heap_alloc_new W _
  rw [addr_add, Nat.zero_add, cell_of_row _ _ j _ t (0, 0) h]
  simpa using hj
set_option maxHeartbeats 1000000 in
theorem turns_at (b off cap : Nat) (sh : List Sht) (win : Int) (w : World) (hn : sh.length ≤ 1000)
    (hc : ∀ j z, sh[j]? = some z → w.cell? ⟨b, off + j * 3, none⟩ = some (.int .i64 z.1) ∧ w.cell? ⟨b, off + j * 3 + 1, none⟩ = some (.int .i64 z.2.1) ∧ w.cell? ⟨b, off + j * 3 + 2, none⟩ = some (.int .i64 z.2.2)) :
    Calls Tryz.prog 104 #[.slice (some ⟨b, off, none⟩) sh.length cap, .int .i64 win] w fun e w' => ∃ v, e = .returned v ∧ w'.ownsRow w.heap.size 3 1 v (4 * sh.length) ((isort (trnL win sh)).map (Value.int .i64)) ∧ Below w.heap.size w w' := by
  have hmix : Tryz.prog.follows .mixedOrders = true := by kernel_rfl
  obtain ⟨i0, hi, hz0, hz1, hz2⟩ : ∃ i0, Tryz.prog.info? 3 = some i0 ∧ i0.zero = some (.int .i64 0) ∧ i0.size = 1 ∧ i0.bytes = 8 := ⟨_, rfl, by kernel_rfl, by kernel_rfl, by kernel_rfl⟩
  obtain ⟨n, hnl⟩ : ∃ n, n = sh.length := ⟨_, rfl⟩
  have X : Aside (n = sh.length) := hnl
  rw [← hnl] at hn ⊢
  clear hnl
  have HC : Hid (∀ j z, sh[j]? = some z → w.cell? ⟨b, off + j * 3, none⟩ = some (.int .i64 z.1) ∧ w.cell? ⟨b, off + j * 3 + 1, none⟩ = some (.int .i64 z.2.1) ∧ w.cell? ⟨b, off + j * 3 + 2, none⟩ = some (.int .i64 z.2.2)) := hc
  clear hc
  go_enter Tryz.func104, Tryz.ntmps104
  go_wp2
  go_loopw [5, 10] (fun v i wr => ∃ (k : Nat) (ao : Option Addr) (cv : Nat), k ≤ n ∧ i = .int .i64 k ∧ v = .slice ao (4 * k) cv ∧ wr.ownsRow w.heap.size 3 1 v (4 * k) ((trnL win (sh.take k)).map (Value.int .i64)) ∧ Below w.heap.size w wr)
    (fun _ i _ => n - (RowKit.intOf i).toNat)
  case atStart => exact ⟨0, none, 0, Nat.zero_le _, rfl, rfl, World.ownsRow_nil _ _ _ _, Below.refl _ _⟩
  case round =>
    obtain ⟨k, ao, cv, hk, rfl, rfl, hown, hnx⟩ := hrel
    have hsize := hnx.size
    by_cases hlt : k < n
    · obtain ⟨z, hz⟩ : ∃ z, sh[k]? = some z := ⟨sh[k]'(by rw [← X.out]; exact hlt), List.getElem?_eq_getElem _⟩
      obtain ⟨c0, c1, c2⟩ := HC.out k z hz
      have hbl := World.block_lt_of_cell? w _ c0
      have cellr : ∀ a : Addr, a.block = b → wr.cell? a = w.cell? a := fun a ha => World.cell?_of_block (hnx.block a.block (by rw [ha]; exact hbl))
      rw [← cellr _ rfl] at c0 c1 c2
      have HZ : Hid (sh[k]? = some z) := hz
      clear cellr hz
      have h4 := four_new (wr.alloc (.cells #[.int .i64 z.1, .int .i64 z.2.1, .int .i64 z.2.2] 171)) (.int .i64 z.1) (.int .i64 z.2.1) (.int .i64 (wrap64 (z.1 + win))) (.int .i64 (wrap64 (z.2.1 + win))) 3
      rw [World.size_alloc] at h4
      have H4 : Hid (∀ j v, [Value.int .i64 z.1, .int .i64 z.2.1, .int .i64 (wrap64 (z.1 + win)), .int .i64 (wrap64 (z.2.1 + win))][j]? = some v → ((wr.alloc (.cells #[.int .i64 z.1, .int .i64 z.2.1, .int .i64 z.2.2] 171)).alloc (.cells #[.int .i64 z.1, .int .i64 z.2.1, .int .i64 (wrap64 (z.1 + win)), .int .i64 (wrap64 (z.2.1 + win))] 3)).cell? ((⟨wr.heap.size + 1, 0, none⟩ : Addr).add j) = some v) := h4
      clear h4
      go_wp2_with (first
        | (at_builtin; go_loud (refine wpList_append_own _ rfl _ _ 22 rfl w.heap.size 3 i0 (.int .i64 0) 1 8 Tryz.underlying22 hi hz0 hz1 hz2 rfl (by decide) _ _ _ rfl ((hown.alloc _).alloc _) ⟨wr.heap.size + 1, 0, none⟩ 4 4 [.int .i64 z.1, .int .i64 z.2.1, .int .i64 (wrap64 (z.1 + win)), .int .i64 (wrap64 (z.2.1 + win))] rfl rfl H4.out (fun x hx => by simp at hx; rcases hx with h | h | h | h <;> subst h <;> rfl) (by unfold maxLen; omega) (by omega) (by simp; omega) ?_); intro v' w3 hown' hgrow3 hnil3))
      obtain ⟨g3, cap3, hv3⟩ : ∃ g3 cap3, v' = .slice (some ⟨g3, 0, none⟩) (4 * k + 4) cap3 := by
        rcases hown'.2 with ⟨_, h⟩ | ⟨g3, cap3, _, h, _⟩
        · omega
        · exact ⟨g3, cap3, h⟩
      have htk : trnL win (sh.take (k + 1)) = trnL win (sh.take k) ++ trnF win z := by
        unfold trnL
        rw [List.take_add_one, HZ.out, List.flatMap_append]
        simp
      have hb3 : Below w.heap.size w w3 := ((hnx.alloc hsize _).alloc (by rw [World.size_alloc]; omega) _).grown hgrow3 (by simp only [World.size_alloc]; omega) (fun q hq => (hown.lt q hq).1)
      refine ⟨⟨k + 1, some ⟨g3, 0, none⟩, cap3, by omega, by simp, hv3, ?_, hb3⟩, by simp [RowKit.intOf]; omega⟩
      rw [htk, List.map_append]
      exact hown'
    · obtain rfl : k = n := by omega
      have hs := sort_own hown (by omega)
      have hfull : sh.take k = sh := by rw [X.out]; exact List.take_length
      rw [hfull] at hs
      have Y : Aside (Below w.heap.size w wr ∧ ∀ q, (Value.slice ao (4 * k) cv).ownBlock = some q → w.heap.size ≤ q) := ⟨hnx, fun q hq => (hown.lt q hq).1⟩
      clear hown hnx hfull
      go_wp2_with (go_at_call 139; refine hs.mono ?_; rintro e w2 ⟨rfl, ho2, hg2⟩)
      go_ret
      exact ⟨_, rfl, ho2, Y.out.1.grown hg2 Y.out.1.size Y.out.2⟩
end Gv
namespace Gv
open Go Go.Proofs Go.RowKit Go.Shelf Go.Sort Go.ChangeShapes Go.WideShapes
set_option maxRecDepth 100000
theorem own_post {St : Nat → Nat → Prop} {w w' : World} {v : Value} {n : Nat} {l : List Int} (hlt : ∀ b o, St b o → b < w.heap.size) (ho : w'.ownsRow w.heap.size 3 1 v n (l.map (Value.int .i64))) (hb : Below w.heap.size w w') :
    CallPost St w (.val (.list n (l.map (PV.int .i64)))) (.returned v) w' := by
  have hl : l.length = n := by simpa using ho.1
  have hpr : ∀ (St : Nat → Nat → Prop) (w : World), ∀ l : List Int, PRs St w (l.map (PV.int .i64)) (l.map (Value.int .i64)) := by
    intro St w l
    induction l with
    | nil => simp [PRs]
    | cons x l ih =>
      simp only [List.map_cons, PRs, PR]
      exact ⟨_, _, rfl, rfl, ih⟩
  rcases ho.2 with ⟨rfl, h0⟩ | ⟨g, cap, cur, rfl, hbase, hg, h1, h2, h3, h4⟩
  · subst h0
    have : l = [] := List.length_eq_zero_iff.1 hl
    subst this
    exact ⟨_, St, rfl, by simp [RR, PR, PRs], hb, fun _ _ h => h, fun b o h => by have := hlt b o h; have := hb.size; omega, fun _ _ h => .inl h⟩
  · refine ⟨_, fun q o => St q o ∨ (q = g ∧ o < n), rfl, ?_, hb, fun _ _ h => .inl h, fun q o hs => ?_, fun q o hs => hs.imp id fun h => by omega⟩
    · simp only [RR, PR]
      refine ⟨_, cap, l.map (Value.int .i64), rfl, hpr _ _ l, h1, .inr ⟨_, rfl, fun j x hj => ?_⟩⟩
      have hjl : j < n := by
        have := (List.getElem?_eq_some_iff.1 hj).1
        simpa [hl] using this
      refine ⟨.inr ⟨rfl, by simpa using hjl⟩, ?_, ?_⟩
      · rw [addr_add, Nat.zero_add, cell_of_row w' _ j _ 3 (0, 0) hg]
        rw [← h4, List.getElem?_take_of_lt (by omega)] at hj
        simpa using hj
      · have hm := List.mem_of_getElem? hj
        rw [List.mem_map] at hm
        obtain ⟨y, _, rfl⟩ := hm
        rfl
    · rcases hs with hs | ⟨rfl, _⟩
      · exact Nat.lt_of_lt_of_le (hlt q o hs) hb.size
      · exact heap_lt hg
set_option maxHeartbeats 1000000 in
theorem turns_zero (a : Option Addr) (cap : Nat) (win : Int) (w : World) :
    Calls Tryz.prog 104 #[.slice a 0 cap, .int .i64 win] w fun e w' => e = .returned (.slice none 0 0) ∧ Below w.heap.size w w' := by
  have hmix : Tryz.prog.follows .mixedOrders = true := by kernel_rfl
  have hs := sort_own (World.ownsRow_nil w w.heap.size 3 1) (zs := []) (by omega)
  go_enter Tryz.func104, Tryz.ntmps104
  go_wp2
  go_loopw [5, 10] (fun v i wr => i = .int .i64 0 ∧ v = .slice none 0 0 ∧ wr = w) (fun _ _ _ => 0)
  case atStart => exact ⟨rfl, rfl, rfl⟩
  case round =>
    obtain ⟨rfl, rfl, rfl⟩ := hrel
    go_wp2_with (go_at_call 139; refine hs.mono ?_; rintro e w2 ⟨rfl, ho2, hg2⟩)
    go_ret
    exact ⟨rfl, (Below.refl _ _).grown hg2 (Nat.le_refl _) (fun q hq => by simp [Value.ownBlock] at hq)⟩
def shtsOf : List PV → Option (List Sht)
  | [] => some []
  | .int .i64 x :: .int .i64 y :: .int .i64 z :: r => (shtsOf r).map ((x, y, z) :: ·)
  | _ => none
def encT (z : Sht) : List PV := [.int .i64 z.1, .int .i64 z.2.1, .int .i64 z.2.2]
theorem shtsOf_some : ∀ {n : Nat} {cs : List PV} {l : List Sht}, cs.length ≤ n → shtsOf cs = some l → cs = l.flatMap encT
  | _, [], l, _, h => by simp [shtsOf] at h; subst h; rfl
  | 0, c :: r, l, hn, h => by simp at hn
  | n + 1, c :: r, l, hn, h => by
    unfold shtsOf at h
    split at h
    · rename_i e; cases e
    · rename_i x y z r' e
      simp only [List.cons.injEq] at e
      obtain ⟨rfl, rfl⟩ := e
      cases hr : shtsOf r' with
      | none => rw [hr] at h; cases h
      | some l' =>
        rw [hr] at h
        simp only [Option.map_some, Option.some.injEq] at h
        subst h
        rw [shtsOf_some (n := n) (by simp at hn; omega) hr]
        rfl
    · cases h
def valT (z : Sht) : List Value := [.int .i64 z.1, .int .i64 z.2.1, .int .i64 z.2.2]
theorem prs_shts {St : Nat → Nat → Prop} {w : World} : ∀ {l : List Sht} {us : List Value}, PRs St w (l.flatMap encT) us → us = l.flatMap valT
  | [], us, h => by simpa [PRs] using h
  | x :: l, us, h => by
    simp only [List.flatMap_cons, encT, List.cons_append, List.nil_append, PRs, PR] at h
    obtain ⟨u1, us1, rfl, rfl, u2, us2, rfl, rfl, u3, us3, rfl, rfl, h2⟩ := h
    rw [prs_shts h2]
    rfl
theorem valT_get : ∀ (l : List Sht) (j k : Nat), k < 3 → (l.flatMap valT)[j * 3 + k]? = l[j]?.bind fun z => (valT z)[k]?
  | [], j, k, _ => by simp
  | x :: l, 0, k, hk => by
    simp only [List.flatMap_cons, Nat.zero_mul, Nat.zero_add, List.getElem?_cons_zero, Option.bind_some]
    rw [List.getElem?_append_left (by simpa [valT] using hk)]
  | x :: l, j + 1, k, hk => by
    simp only [List.flatMap_cons, List.getElem?_cons_succ]
    rw [List.getElem?_append_right (by simp [valT]; omega), ← valT_get l j k hk]
    congr 1
    simp [valT]
    omega
def turnsG : List PV → Option PV
  | [.list n cs, .int .i64 win] => match shtsOf cs with
    | some l => if l.length = n ∧ n ≤ 1000 then some (.list (4 * n) ((isort (trnL win l)).map (PV.int .i64))) else none
    | none => none
  | _ => none
theorem turns85 : PrimOK Tryz.prog 104 turnsG := by
  refine ⟨⟨Tryz.f104, Tryz.func104, by kernel_rfl, by decide⟩, fun args v hg w St vals hlt hargs => ?_⟩
  unfold turnsG at hg
  split at hg <;> try (cases hg; done)
  rename_i n cs win
  split at hg <;> try (cases hg; done)
  rename_i l hl
  split at hg <;> try (cases hg; done)
  rename_i hn
  simp only [Option.some.injEq] at hg
  subst hg
  obtain ⟨rfl, h2⟩ := hn
  have hcs := shtsOf_some (Nat.le_refl _) hl
  subst hcs
  simp only [PRs, PR] at hargs
  obtain ⟨u, _, rfl, ⟨a, cap, us, rfl, hus, hcap, hat⟩, u2, _, rfl, rfl, rfl⟩ := hargs
  have := prs_shts hus
  subst this
  by_cases h0 : l.length = 0
  · have he : l = [] := List.length_eq_zero_iff.1 h0
    subst he
    refine (turns_zero a cap win w).mono ?_
    rintro e w' ⟨rfl, hb⟩
    exact own_post hlt (World.ownsRow_nil _ _ _ _) hb
  · rcases hat with ⟨h, _⟩ | ⟨ad, rfl, hat⟩
    · exact absurd h h0
    · have cellv : ∀ j z k x, l[j]? = some z → k < 3 → (valT z)[k]? = some x → w.cell? (ad.add (j * 3 + k)) = some x := fun j z k x hj hk hx =>
        (hat (j * 3 + k) x (by rw [valT_get l j k hk, hj]; exact hx)).2.1
      obtain ⟨z0, hz0⟩ : ∃ z, l[0]? = some z := ⟨l[0]'(by omega), List.getElem?_eq_getElem _⟩
      have hc0 := cellv 0 z0 0 (.int .i64 z0.1) hz0 (by omega) rfl
      have e : ad = ⟨ad.block, ad.off, none⟩ := add_form ad 0 (cell_spot hc0)
      rw [e]
      refine (turns_at ad.block ad.off cap l win w h2 fun j z hj => ?_).mono ?_
      · have a0 := cellv j z 0 (.int .i64 z.1) hj (by omega) rfl
        have a1 := cellv j z 1 (.int .i64 z.2.1) hj (by omega) rfl
        have a2 := cellv j z 2 (.int .i64 z.2.2) hj (by omega) rfl
        rw [add_form ad _ (cell_spot a0)] at a0
        rw [add_form ad _ (cell_spot a1)] at a1
        rw [add_form ad _ (cell_spot a2)] at a2
        exact ⟨a0, a1, a2⟩
      · rintro e w' ⟨v, rfl, ho, hb⟩
        exact own_post hlt ho hb
end Gv
