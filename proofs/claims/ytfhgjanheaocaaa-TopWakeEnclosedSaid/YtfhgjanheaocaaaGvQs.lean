import Derived.Test.YtfhgjanheaocaaaGvPm
import Derived.IntWalk
namespace Gv
open Go Go.RowKit
variable {P : Program} {call : CallT}
theorem free_other : ∀ (bs : List Nat) (m : List Blk) (b : Nat), b ∉ bs → (freeB bs m)[b]? = m[b]?
  | [], m, b, _ => rfl
  | d :: bs, m, b, h => by
    simp only [freeB, List.foldl_cons]
    have := free_other bs (m.set d .none) b (fun hb => h (by simp [hb]))
    simp only [freeB] at this
    rw [this, set_other (fun e => h (by simp [e]))]
theorem free_none : ∀ (bs : List Nat) (m : List Blk) (b : Nat), m[b]? = some .none → (freeB bs m)[b]? = some .none
  | [], m, b, h => h
  | d :: bs, m, b, h => by
    simp only [freeB, List.foldl_cons]
    have := free_none bs (m.set d .none) b (by
      by_cases e : b = d
      · subst e; exact set_same h
      · rw [set_other e]; exact h)
    simpa only [freeB] using this
theorem free_in : ∀ (bs : List Nat) (m : List Blk) (b : Nat) (x : Blk), b ∈ bs → (freeB bs m)[b]? = some x → x = .none
  | d :: bs, m, b, x, h, hx => by
    simp only [freeB, List.foldl_cons] at hx
    by_cases e : b = d
    · subst e
      cases hm : m[b]? with
      | none =>
        by_cases hb : b ∈ bs
        · exact free_in bs _ b x hb (by simpa only [freeB] using hx)
        · have := free_other bs (m.set b .none) b hb
          simp only [freeB] at this
          rw [this, List.getElem?_set, if_pos rfl, if_neg (by
            intro hlt
            rw [List.getElem?_eq_getElem hlt] at hm
            cases hm)] at hx
          cases hx
      | some y =>
        have := free_none bs (m.set b .none) b (set_same hm)
        simp only [freeB] at this
        rw [this] at hx
        simp at hx
        exact hx.symm
    · have hb : b ∈ bs := by simpa [e] using h
      exact free_in bs _ b x hb (by simpa only [freeB] using hx)
theorem norm_get {bs : List Nat} {m : List Blk} {b : Nat} {x : Blk} (h : ((freeB bs m).map (scrubB bs))[b]? = some x) : x = .none ∨ (b ∉ bs ∧ ∃ y, m[b]? = some y ∧ x = scrubB bs y) := by
  rw [List.getElem?_map] at h
  cases hf : (freeB bs m)[b]? with
  | none => simp [hf] at h
  | some y =>
    simp [hf] at h
    by_cases hb : b ∈ bs
    · left
      have := free_in bs m b y hb hf
      subst this
      exact h.symm
    · right
      rw [free_other bs m b hb] at hf
      exact ⟨hb, y, hf, h.symm⟩
theorem norm_cells {bs : List Nat} {m : List Blk} {b : Nat} {wr : Bool} {cs : List AV} (hb : b ∉ bs) (h : m[b]? = some (.cells wr cs)) : ((freeB bs m).map (scrubB bs))[b]? = some (.cells wr (scrubs bs cs)) := by
  rw [List.getElem?_map, free_other bs m b hb, h]
  rfl
theorem norm_buf {bs : List Nat} {m : List Blk} {b n : Nat} (hb : b ∉ bs) (h : m[b]? = some (.buf n)) : ((freeB bs m).map (scrubB bs))[b]? = some (.buf n) := by
  rw [List.getElem?_map, free_other bs m b hb, h]
  rfl
theorem norm_vec {bs : List Nat} {m : List Blk} {b n s : Nat} {wr : Bool} {cs : List PV} (hb : b ∉ bs) (h : m[b]? = some (.vec wr n s cs)) : ((freeB bs m).map (scrubB bs))[b]? = some (.vec wr n s cs) := by
  rw [List.getElem?_map, free_other bs m b hb, h]
  rfl
mutual
theorem scrub_sound {g : G} {m : List Blk} {St : Nat → Nat → Prop} {w : World} (bs : List Nat) : ∀ (v : AV) (u : Value), VR g m St w v u → VR g ((freeB bs m).map (scrubB bs)) St w (scrub bs v) u
  | .p v, u, h => by simpa only [scrub, VR] using h
  | .nilS, u, h => by simpa only [scrub, VR] using h
  | .undef, u, h => by simpa only [scrub, VR] using h
  | .bad, u, h => by simp only [scrub, VR]
  | .yv, u, h => by simpa only [scrub, VR] using h
  | .lit n sz cs, u, h => by simpa only [scrub, VR] using h
  | .loc b o, u, h => by
    simp only [scrub]
    split
    · simp only [VR]
    · rename_i hb
      simp only [VR] at h ⊢
      obtain ⟨⟨wr, cs, hm⟩, rfl⟩ := h
      exact ⟨⟨wr, _, norm_cells (by simpa using hb) hm⟩, rfl⟩
  | .msl b o n sz, u, h => by
    simp only [scrub]
    split
    · simp only [VR]
    · rename_i hb
      simp only [VR] at h ⊢
      obtain ⟨⟨wr, cs, hm⟩, cap, rfl, hc⟩ := h
      exact ⟨⟨wr, _, norm_cells (by simpa using hb) hm⟩, cap, rfl, hc⟩
  | .app b n sz cs, u, h => by
    simp only [scrub]
    split
    · simp only [VR, PR] at h ⊢
      obtain ⟨q, cap, us, rfl, hc, h1, h2, h3, _⟩ := h
      exact ⟨_, cap, us, rfl, h1, hc, .inr ⟨_, rfl, h3⟩⟩
    · rename_i hb
      simp only [VR] at h ⊢
      obtain ⟨q, cap, us, rfl, hc, h1, h2, h3, n', h4, h5⟩ := h
      exact ⟨q, cap, us, rfl, hc, h1, h2, h3, n', norm_buf (by simpa using hb) h4, h5⟩
  | .vap b n sz, u, h => by
    simp only [scrub]
    split
    · simp only [VR]
    · rename_i hb
      simp only [VR] at h ⊢
      obtain ⟨q, cap, rfl, hc, wr, n', s, cs, h1, h2⟩ := h
      exact ⟨q, cap, rfl, hc, wr, n', s, cs, norm_vec (by simpa using hb) h1, h2⟩
  | .vlc b n o, u, h => by
    simp only [scrub]
    split
    · simp only [VR]
    · rename_i hb
      simp only [VR] at h ⊢
      obtain ⟨q, rfl, wr, n', s, cs, h1, h2⟩ := h
      exact ⟨q, rfl, wr, n', s, cs, norm_vec (by simpa using hb) h1, h2⟩
  | .agg cs, u, h => by
    simp only [scrub, VR] at h ⊢
    obtain ⟨us, rfl, h⟩ := h
    exact ⟨us, rfl, scrubs_sound bs cs us h⟩
  | .clo f caps, u, h => by
    simp only [scrub, VR] at h ⊢
    obtain ⟨us, rfl, h⟩ := h
    exact ⟨us, rfl, scrubs_sound bs caps us h⟩
theorem scrubs_sound {g : G} {m : List Blk} {St : Nat → Nat → Prop} {w : World} (bs : List Nat) : ∀ (vs : List AV) (us : List Value), VRs g m St w vs us → VRs g ((freeB bs m).map (scrubB bs)) St w (scrubs bs vs) us
  | [], us, h => by simpa only [scrubs, VRs] using h
  | v :: vs, us, h => by
    simp only [scrubs, VRs] at h ⊢
    obtain ⟨x, xs, rfl, h1, h2⟩ := h
    exact ⟨x, xs, rfl, scrub_sound bs v x h1, scrubs_sound bs vs xs h2⟩
end
theorem keepT_sound {g : G} {m : List Blk} {St : Nat → Nat → Prop} {w : World} (ks : List Nat) : ∀ (t : List AV) (i : Nat) (us : List Value), VRs g m St w t us → VRs g m St w (keepT ks i t) us
  | [], i, us, h => h
  | v :: t, i, us, h => by
    simp only [VRs] at h
    obtain ⟨x, xs, rfl, h1, h2⟩ := h
    simp only [keepT, VRs]
    refine ⟨x, xs, rfl, ?_, keepT_sound ks t (i + 1) xs h2⟩
    cases ks.contains i with
    | true => exact h1
    | false => simp only [cond_false, VR]
theorem kill_sound {g : G} {m : List Blk} {St : Nat → Nat → Prop} {w : World} (ks : List Nat) (t : List AV) (us : List Value) (h : VRs g m St w t us) : VRs g m St w (kill ks t) us := keepT_sound ks t 0 us h
theorem live_norm {bs : List Nat} {m : List Blk} {b : Nat} (hb : live ((freeB bs m).map (scrubB bs)) b) : live m b := by
  obtain ⟨x, hb, ho⟩ := hb
  rcases norm_get hb with rfl | ⟨_, y, hy, rfl⟩
  · cases ho
  · exact ⟨y, hy, by cases y <;> first | rfl | exact ho⟩
theorem MemOK.norm {X : Nat → Prop} {J : Nat → JT} {g : G} {St : Nat → Nat → Prop} {m : List Blk} {w : World} (h1 : MemOK X J g St m w) (bs : List Nat) : MemOK X J g St ((freeB bs m).map (scrubB bs)) w := by
  refine ⟨h1.inv, h1.ab, h1.b0, h1.stLt, fun q o hq => ?_, fun b x hx => ?_, fun b b' hb hb' he => h1.inj b b' (live_norm hb) (live_norm hb') he⟩
  · obtain ⟨f1, f2, f3, f4⟩ := h1.fix q o hq
    exact ⟨f1, f2, f3, fun b hb => f4 b (live_norm hb)⟩
  · rcases norm_get hx with rfl | ⟨hb, y, hy, rfl⟩
    · trivial
    · have hbr := h1.mem b y hy
      cases y with
      | none => trivial
      | cells wr cs =>
        obtain ⟨k1, cur, e, k2, k3, k4⟩ := hbr
        exact ⟨k1, cur, e, k2, scrubs_sound bs cs _ k3, k4⟩
      | buf n => exact hbr
      | log sh k n cs => exact hbr
      | vec wr n sz cs => exact hbr
theorem keepT_app (ks : List Nat) : ∀ (a b : List AV) (i : Nat), keepT ks i (a ++ b) = keepT ks i a ++ keepT ks (i + a.length) b
  | [], b, i => by simp [keepT]
  | v :: a, b, i => by
    simp only [List.cons_append, keepT, List.length_cons]
    rw [keepT_app ks a b (i + 1)]
    simp [Nat.add_assoc, Nat.add_comm 1]
theorem scrubs_app (bs : List Nat) : ∀ (a b : List AV), scrubs bs (a ++ b) = scrubs bs a ++ scrubs bs b
  | [], b => rfl
  | v :: a, b => by simp [scrubs, scrubs_app bs a b]
theorem keepT_get (ks : List Nat) : ∀ (t : List AV) (i j : Nat), (keepT ks i t)[j]? = (t[j]?).map fun v => bif ks.contains (i + j) then v else .bad
  | [], _, _ => by simp [keepT]
  | v :: t, i, 0 => by simp [keepT]
  | v :: t, i, j + 1 => by
    simp only [keepT, List.getElem?_cons_succ]
    rw [keepT_get ks t (i + 1) j, show i + 1 + j = i + (j + 1) by omega]
theorem scrubs_get (bs : List Nat) : ∀ (t : List AV) (j : Nat), (scrubs bs t)[j]? = (t[j]?).map (scrub bs)
  | [], _ => by simp [scrubs]
  | v :: t, 0 => by simp [scrubs]
  | v :: t, j + 1 => by simp only [scrubs, List.getElem?_cons_succ]; exact scrubs_get bs t j
theorem norm_t (ks bs : List Nat) (s : S) (j : Nat) : (norm ks bs s).t[j]? = (s.t[j]?).map fun v => scrub bs (bif ks.contains j then v else .bad) := by
  simp only [norm, kill]
  rw [scrubs_get, keepT_get]
  simp [Option.map_map, Function.comp_def]
theorem norm_keep {ks bs : List Nat} {s : S} {j : Nat} {v : PV} (h : s.t[j]? = some (.p v) ∨ s.t[j]? = some .bad) : (norm ks bs s).t[j]? = some (.p v) ∨ (norm ks bs s).t[j]? = some .bad := by
  rw [norm_t]
  rcases h with h | h <;> rw [h] <;> cases ks.contains j <;> simp [scrub]
theorem freeB_other {b : Nat} : ∀ (bs : List Nat) (m : List Blk), b ∉ bs → (freeB bs m)[b]? = m[b]?
  | [], m, _ => rfl
  | i :: bs, m, h => by
    have hne : i ≠ b := fun e => h (by simp [e])
    show (freeB bs (m.set i .none))[b]? = _
    rw [freeB_other bs _ (fun hb => h (by simp [hb])), List.getElem?_set_ne hne]
theorem KeepB.norm {g0 g : G} {m0 m : List Blk} {b : Nat} (k : KeepB g0 m0 g m b) {bs : List Nat} (hb : b ∉ bs) : KeepB g0 m0 g ((freeB bs m).map (scrubB bs)) b := by
  have e : ((freeB bs m).map (scrubB bs))[b]? = (m[b]?).map (scrubB bs) := by rw [List.getElem?_map, freeB_other bs m hb]
  refine ⟨fun wr cs h => ?_, fun n h => ?_, fun wr n s cs h => ?_⟩
  · obtain ⟨⟨wr', cs', h1⟩, h2⟩ := k.cells wr cs h
    exact ⟨⟨wr', _, by rw [e, h1]; rfl⟩, h2⟩
  · obtain ⟨n', h1, h2⟩ := k.buf n h
    exact ⟨n', by rw [e, h1]; rfl, h2⟩
  · obtain ⟨wr', n', s', cs', h1, h2⟩ := k.vec wr n s cs h
    exact ⟨wr', n', s', cs', by rw [e, h1]; rfl, h2⟩
theorem okS_not {n b : Nat} {bs : List Nat} (h : okS n bs = true) (hb : n ≤ b) : b ∉ bs := fun hm => by
  have := List.all_eq_true.1 h b hm
  simp at this
  omega
theorem bsOK_seq {n : Nat} {a b : ACode} (h : bsOK n (.seq a b) = true) : bsOK n a = true ∧ bsOK n b = true := by simpa [bsOK] using h
theorem bsOK_cond {n : Nat} {c : Arg} {a b : ACode} (h : bsOK n (.cond c a b) = true) : bsOK n a = true ∧ bsOK n b = true := by simpa [bsOK] using h
theorem bsOK_node {n id : Nat} {ki bi ks bs : List Nat} {c : ACode} (h : bsOK n (.node id ki bi ks bs c) = true) : okS n bi = true ∧ okS n bs = true ∧ bsOK n c = true := by simpa [bsOK] using h
theorem bsOK_block {n id : Nat} {ks bs : List Nat} {c : ACode} (h : bsOK n (.block id ks bs c) = true) : okS n bs = true ∧ bsOK n c = true := by simpa [bsOK] using h
theorem bsOK_loop {n : Nat} {ks bs : List Nat} {c : ACode} (h : bsOK n (.loop ks bs c) = true) : okS n bs = true ∧ bsOK n c = true := by simpa [bsOK] using h
theorem bsOK_ret {n : Nat} {ks bs : List Nat} (h : bsOK n (.ret ks bs) = true) : okS n bs = true := by simpa [bsOK] using h
theorem FRx.norm {x : Cx} {s : S} {a : Act} {w : World} {X : Nat → Prop} {g : G} {St : Nat → Nat → Prop} {Ds : List Nat} {t1 t2 : List AV} (h : FRx x s a w X g St Ds t1 t2) (ks bs : List Nat) (hbs : x.ld ≠ none → okS x.N bs = true) :
    FRx x (norm ks bs s) a w X g St Ds (scrubs bs (keepT ks 0 t1)) (scrubs bs (keepT ks t1.length t2)) := by
  refine ⟨h.df, h.nd, h.fx, ?_, h.sz, h.kp, fun p hp => norm_keep (h.xt p hp), h.lg, h.ly, h.φ, h.mo.norm bs, scrubs_sound bs _ _ (keepT_sound ks _ _ _ h.vr), fun q hq b hb => (h.kx q hq b hb).norm (okS_not (hbs (by rw [hq]; simp)) hb)⟩
  simp only [Gv.norm, kill, h.tt]
  rw [keepT_app, scrubs_app, Nat.zero_add]
theorem FR.norm {x : Cx} {s : S} {a : Act} {w : World} (h : FR x s a w) (ks bs : List Nat) (hbs : x.ld ≠ none → okS x.N bs = true) : FR x (norm ks bs s) a w := by
  obtain ⟨X, g, St, Ds, t1, t2, h⟩ := h
  exact ⟨X, g, St, Ds, _, _, h.norm ks bs hbs⟩
def QE (x : Cx) (e : Ext) (s : S) : Exit → Act → World → Prop
  | .normal, a, w => e = .normal ∧ FR x s a w
  | .exit i, a, w => e = .exit i ∧ i < 1000000 ∧ FR x s a w
  | .ret, a, w => e = .ret ∧ FR x s a w
  | _, _, _ => False
end Gv
namespace Gv
open Go Go.RowKit
variable {P : Program} {call : CallT}
theorem MemOK.abide {X : Nat → Prop} {J : Nat → JT} {g : G} {St St' : Nat → Nat → Prop} {m : List Blk} {w w' : World} {row : Option Nat} (h : MemOK X J g St m w) (hg : w.grownBy w' row)
    (hr : ∀ q, row = some q → ¬ X q ∧ (∀ b, live m b → g.ρ b ≠ q) ∧ g.φ q = none) (ev : Evo St w St' w') (hl : ∀ b o, St' b o → b < w'.heap.size)
    (hn : ∀ b o, St' b o → St b o ∨ (¬ X b ∧ (∀ b', live m b' → g.ρ b' ≠ b) ∧ g.φ b = none)) : MemOK X J g St' m w' := by
  refine ⟨h.ab _ X St St' w w' row h.inv hg (fun q e => (hr q e).1) ev hl (fun b o hs => (hn b o hs).imp id (·.1)), h.ab, fun q hq => Nat.lt_of_lt_of_le (h.b0 q hq) hg.size, hl, fun q o hq => ?_, fun b blk hm => ?_, h.inj⟩
  · obtain ⟨f1, f2, f3, f4⟩ := h.fix q o hq
    refine ⟨(hg.block q (heap_lt f1) (fun e => by have := (hr q (by simpa using e.symm)).2.2; rw [this] at hq; cases hq)).trans f1, f2, fun j hj => ?_, f4⟩
    rcases hn q j hj with k | k
    · exact f3 j k
    · have := k.2.2; rw [this] at hq; cases hq
  · have hbr := h.mem b blk hm
    cases blk with
    | none => trivial
    | cells wr cs =>
      obtain ⟨h1, cur, el, h2, h3, h4, hone⟩ := hbr
      have hl' : live m b := ⟨_, hm, rfl⟩
      refine ⟨h1, cur, el, (hg.block _ (heap_lt h2) (fun e => (hr _ (by simpa using e.symm)).2.1 b hl' rfl)).trans h2, VRs.mono ev (MExt.refl g m) _ _ h3, fun hw j hj => ?_, hone⟩
      rcases hn _ _ hj with k | k
      · exact h4 hw j k
      · exact k.2.1 b hl' rfl
    | buf n =>
      obtain ⟨h1, cur, el, h2, h3, h4, h5, h6⟩ := hbr
      have hl' : live m b := ⟨_, hm, rfl⟩
      refine ⟨h1, cur, el, (hg.block _ (heap_lt h2) (fun e => (hr _ (by simpa using e.symm)).2.1 b hl' rfl)).trans h2, h3, h4, h5, fun j hj hjs => ?_⟩
      rcases hn _ _ hjs with k | k
      · exact h6 j hj k
      · exact k.2.1 b hl' rfl
    | log sh k n cs => exact hbr
    | vec wr n sz cs =>
      obtain ⟨h1, cur, el, us, rest, h2, h3, h4, h5, h6, h7, h8, h9, h10, h11⟩ := hbr
      have hl' : live m b := ⟨_, hm, rfl⟩
      refine ⟨h1, cur, el, us, rest, (hg.block _ (heap_lt h2) (fun e => (hr _ (by simpa using e.symm)).2.1 b hl' rfl)).trans h2, h3, PRs.mono ev _ _ h4, h5, h6, h7, h8, h9, h10, fun hw j hj => ?_⟩
      rcases hn _ _ hj with k | k
      · exact h11 hw j k
      · exact k.2.1 b hl' rfl
def CI (x : Cx) (s : S) (a : Act) (sp : List (Nat × Obj)) (X : Nat → Prop) (St : Nat → Nat → Prop) (w : World) : Prop :=
  ∃ Xc g Ds t1 t2, FRx x s a w Xc g St Ds t1 t2 ∧ (∀ q, Xc q → X q) ∧ (∀ b, live s.m b → X (g.ρ b)) ∧ (∀ q o, g.φ q = some o → X q) ∧
    ∀ p ∈ sp, w.heap[p.1]? = some p.2 ∧ X p.1 ∧ ¬ Xc p.1 ∧ (∀ b, live s.m b → g.ρ b ≠ p.1) ∧ (∀ j, ¬ St p.1 j) ∧ g.φ p.1 = none
theorem CI.abides (x : Cx) (s : S) (a : Act) (sp : List (Nat × Obj)) : Abides (CI x s a sp) := by
  rintro X St St' w w' row ⟨Xc, g, Ds, t1, t2, h, c1, c2, c3, c4⟩ hg hr ev hl hn
  have hφn : ∀ q, ¬ X q → g.φ q = none := fun q hq => by
    cases hφ : g.φ q with
    | none => rfl
    | some o => exact absurd (c3 q o hφ) hq
  have mo := h.mo.abide hg (fun q e => ⟨fun hx => hr q e (c1 q hx), fun b hb he => hr q e (he ▸ c2 b hb), hφn q (hr q e)⟩) ev hl
    (fun b o hs => (hn b o hs).imp id fun hx => ⟨fun h => hx (c1 b h), fun b' hb he => hx (he ▸ c2 b' hb), hφn b hx⟩)
  refine ⟨Xc, g, Ds, t1, t2, { h with mo := mo, vr := VRs.mono ev (MExt.refl _ _) _ _ h.vr }, c1, c2, c3, fun p hp => ?_⟩
  obtain ⟨d1, d2, d3, d4, d5, d6⟩ := c4 p hp
  refine ⟨(hg.block p.1 (heap_lt d1) (fun e => hr p.1 (by simpa using e.symm) d2)).trans d1, d2, d3, d4, fun j hj => ?_, d6⟩
  rcases hn _ _ hj with k | k
  · exact d5 j k
  · exact k d2
theorem FRx.put2 {x : Cx} {s : S} {a : Act} {w : World} {X : Nat → Prop} {g : G} {St : Nat → Nat → Prop} {Ds : List Nat} {t1 t2 : List AV} (h : FRx x s a w X g St Ds t1 t2) {d : Nat} {v : AV} (hd : x.N ≤ d) (hxt : ∀ p ∈ x.xt, p.1 ≠ d) :
    FRx x ⟨s.t.set d v, s.m⟩ a w X g St Ds t1 (t2.set (d - t1.length) v) := by
  have hl := h.len
  refine { h with tt := ?_, xt := fun p hp => ?_ }
  · show s.t.set d v = _
    rw [h.tt, List.set_append_right _ _ (by omega)]
  · show (s.t.set d v)[p.1]? = _ ∨ (s.t.set d v)[p.1]? = _
    rw [List.getElem?_set, if_neg (fun e => hxt p hp e.symm)]
    exact h.xt p hp
theorem seq_inv {n : Nat} {c1 c2 : ACode} {s s' : S} {e : Ext} (h : exN call (n + 1) (.seq c1 c2) s = some (e, s')) :
    (∃ s1, exN call n c1 s = some (.normal, s1) ∧ exN call n c2 s1 = some (e, s')) ∨ (e ≠ .normal ∧ exN call n c1 s = some (e, s')) := by
  simp only [exN] at h
  cases hx : exN call n c1 s with
  | none => rw [hx] at h; cases h
  | some p =>
    obtain ⟨e1, s1⟩ := p
    rw [hx] at h
    cases e1 with
    | normal => exact .inl ⟨s1, rfl, h⟩
    | exit i => simp at h; obtain ⟨rfl, rfl⟩ := h; exact .inr ⟨by simp, rfl⟩
    | ret => simp at h; obtain ⟨rfl, rfl⟩ := h; exact .inr ⟨by simp, rfl⟩
theorem ops_inv {n : Nat} {l : List AOp} {s s' : S} {e : Ext} (h : exN call n (.ops l) s = some (e, s')) : e = .normal ∧ exOps call l s = some s' := by
  cases n with
  | zero => simp [exN] at h
  | succ n =>
    simp only [exN] at h
    split at h <;> try (cases h; done)
    rename_i s1 h1
    simp at h
    exact ⟨h.1.symm, by rw [h1, h.2]⟩
theorem block_inv {n id : Nat} {ks bs : List Nat} {c : ACode} {s s' : S} {e : Ext} (h : exN call n (.block id ks bs c) s = some (e, s')) :
    ∃ n', n = n' + 1 ∧ ∃ e1 s1, exN call n' c s = some (e1, s1) ∧ (((e1 = .normal ∨ e1 = .exit id) ∧ e = .normal ∧ s' = norm ks bs s1) ∨ (e1 ≠ .normal ∧ e1 ≠ .exit id ∧ e = e1 ∧ s' = s1)) := by
  cases n with
  | zero => simp [exN] at h
  | succ n =>
    refine ⟨n, rfl, ?_⟩
    simp only [exN] at h
    cases hx : exN call n c s with
    | none => rw [hx] at h; cases h
    | some p =>
      obtain ⟨e1, s1⟩ := p
      rw [hx] at h
      refine ⟨e1, s1, rfl, ?_⟩
      cases e1 with
      | normal => simp at h; exact .inl ⟨.inl rfl, h.1.symm, h.2.symm⟩
      | exit i =>
        simp only at h
        split at h
        · rename_i hi
          simp at h
          exact .inl ⟨.inr (by rw [hi]), h.1.symm, h.2.symm⟩
        · rename_i hi
          simp at h
          exact .inr ⟨by simp, by simpa using hi, h.1.symm, h.2.symm⟩
      | ret => simp at h; exact .inr ⟨by simp, by simp, h.1.symm, h.2.symm⟩
theorem rnd_inv {n : Nat} {ks bs : List Nat} {c : ACode} {s s' : S} {e : Ext} (h : exN call n (.rnd ks bs c) s = some (e, s')) : ∃ n', n = n' + 1 ∧ ∃ s1, exN call n' c s = some (e, s1) ∧ s' = norm ks bs s1 := by
  cases n with
  | zero => simp [exN] at h
  | succ n =>
    refine ⟨n, rfl, ?_⟩
    simp only [exN] at h
    cases hx : exN call n c s with
    | none => rw [hx] at h; cases h
    | some p =>
      obtain ⟨e1, s1⟩ := p
      rw [hx] at h
      simp at h
      exact ⟨s1, by rw [h.1], h.2.symm⟩
theorem cond_inv {n : Nat} {c : Arg} {x y : ACode} {s s' : S} {e : Ext} (h : exN call n (.cond c x y) s = some (e, s')) :
    ∃ n', n = n' + 1 ∧ ((c.get s.t = .p (.bool true) ∧ exN call n' x s = some (e, s')) ∨ (c.get s.t = .p (.bool false) ∧ exN call n' y s = some (e, s'))) := by
  cases n with
  | zero => simp [exN] at h
  | succ n =>
    refine ⟨n, rfl, ?_⟩
    simp only [exN] at h
    split at h
    · rename_i hc; exact .inl ⟨hc, h⟩
    · rename_i hc; exact .inr ⟨hc, h⟩
    · cases h
theorem loop_inv : ∀ {m : Nat} {ks bs : List Nat} {c : ACode} {s s' : S} {e : Ext}, exN call m (.loop ks bs c) s = some (e, s') →
    e ≠ .normal ∧ ∃ (K : Nat) (q : Nat → S), q 0 = s ∧ (∀ i, i < K → exN call m c (norm ks bs (q i)) = some (.normal, q (i + 1))) ∧ exN call m c (norm ks bs (q K)) = some (e, s')
  | 0, _, _, _, _, _, _, h => by simp [exN] at h
  | m + 1, ks, bs, c, s, s', e, h => by
    simp only [exN] at h
    cases hx : exN call m c (norm ks bs s) with
    | none => rw [hx] at h; cases h
    | some p =>
      obtain ⟨e1, s1⟩ := p
      rw [hx] at h
      have up : ∀ {s : S} {r : Ext × S}, exN call m c s = some r → exN call (m + 1) c s = some r := fun h => exN_mono (CLe.refl _) (Nat.le_succ m) h
      cases e1 with
      | normal =>
        obtain ⟨hne, K, q, h0, h1, h2⟩ := loop_inv h
        refine ⟨hne, K + 1, fun i => if i = 0 then s else q (i - 1), rfl, fun i hi => ?_, ?_⟩
        · cases i with
          | zero =>
            simp only [if_true]
            rw [show (if 0 + 1 = 0 then s else q (0 + 1 - 1)) = q 0 from rfl, h0]
            exact up hx
          | succ i =>
            have := h1 i (by omega)
            simp only [Nat.add_one_ne_zero, if_false, Nat.add_sub_cancel]
            exact up this
        · simp only [Nat.add_one_ne_zero, if_false, Nat.add_sub_cancel]
          exact up h2
      | exit i =>
        simp at h
        obtain ⟨rfl, rfl⟩ := h
        exact ⟨by simp, 0, fun _ => s, rfl, fun i hi => by omega, up hx⟩
      | ret =>
        simp at h
        obtain ⟨rfl, rfl⟩ := h
        exact ⟨by simp, 0, fun _ => s, rfl, fun i hi => by omega, up hx⟩
theorem get_tmp (t : List AV) (i : Nat) : (Arg.tmp i).get t = t.getD i .bad := rfl
theorem start_inv (hcall : CallOK P call) {b : Nat} {fa : Arg} {sh : List (Option Nat)} {s s1 : S} (h : exOps call (startOps b fa sh) s = some s1) :
    ∃ gf caps N cs, fa.get s.t = .p (.fn gf caps) ∧ call gf (.it sh 0 :: caps) = some (.val (.list N cs)) ∧ s1 = ⟨(s.t.set b (.p (.list N cs))).set (b + 1) (.p (.int .i64 0)), s.m⟩ := by
  simp only [startOps, exOps, exOp, grd, List.map_cons, List.map_nil, runK, put] at h
  cases hf : fa.get s.t with
  | p v =>
    cases v with
    | fn gf caps =>
      rw [hf] at h
      simp only [runL, Arg.get, pureAs, pureA, List.cons_append, List.nil_append] at h
      cases hc : call gf (.it sh 0 :: caps) with
      | none => rw [hc] at h; simp at h
      | some rv =>
        obtain ⟨N, cs, rfl, _⟩ := hcall.it gf sh caps rv hc
        rw [hc] at h
        simp at h
        exact ⟨gf, caps, N, cs, rfl, hc, h.symm⟩
    | _ => rw [hf] at h; simp [runL] at h
  | _ => rw [hf] at h; simp [runL] at h
theorem test_inv {b N i : Nat} {cs : List PV} {s sT : S} (hb : s.t[b]? = some (.p (.list N cs)) ∨ s.t[b]? = some .bad) (hi : s.t[b + 1]? = some (.p (.int .i64 i)) ∨ s.t[b + 1]? = some .bad)
    (h : exOps call (testOps b) s = some sT) : s.t[b]? = some (.p (.list N cs)) ∧ s.t[b + 1]? = some (.p (.int .i64 i)) ∧ sT = ⟨(s.t.set (b + 2) (.p (.int .i64 N))).set (b + 3) (.p (.bool (decide ((i : Int) < N)))), s.m⟩ := by
  simp only [testOps, exOps, exOp, grd, List.map_cons, List.map_nil, runK, put, get_tmp, List.getD] at h
  rcases hb with hb | hb
  · rcases hi with hi | hi
    · refine ⟨hb, hi, ?_⟩
      rw [hb] at h
      simp only [Option.getD_some, runL, asList, Option.map_some] at h
      rw [List.getElem?_set, if_neg (by omega), hi] at h
      simp only [Option.getD_some] at h
      rw [List.getElem?_set, if_pos rfl] at h
      by_cases hlt : b + 2 < s.t.length
      · rw [if_pos hlt] at h
        simp only [Option.getD_some, binA, if_true, iop, Option.map_some, Option.some.injEq] at h
        exact h.symm
      · rw [if_neg hlt] at h
        simp [binA] at h
    · rw [hb] at h
      simp only [Option.getD_some, runL, asList, Option.map_some] at h
      rw [List.getElem?_set, if_neg (by omega), hi] at h
      rw [List.getElem?_set, if_pos rfl] at h
      by_cases hlt : b + 2 < s.t.length
      · rw [if_pos hlt] at h
        simp [binA] at h
      · rw [if_neg hlt] at h
        simp [binA] at h
  · rw [hb] at h
    simp [runL, asList] at h
end Gv
namespace Gv
open Go Go.RowKit
variable {P : Program} {call : CallT}
theorem wrap_small {n : Nat} (h : n ≤ big) : IntKind.wrap .i64 ((n : Int) + 1) = ((n + 1 : Nat) : Int) := by
  unfold big at h
  rw [IntKind.wrap_i64]
  omega
def foldT : List Nat → List Value → Array Value → Array Value
  | p :: ps, v :: vs, t => foldT ps vs (t.setIfInBounds p v)
  | _, _, t => t
theorem foldT_other : ∀ (ps : List Nat) (vs : List Value) (t : Array Value) (i : Nat), i ∉ ps → (foldT ps vs t)[i]? = t[i]?
  | [], _, t, i, _ => by simp [foldT]
  | p :: ps, [], t, i, _ => by simp [foldT]
  | p :: ps, v :: vs, t, i, h => by
    simp only [foldT]
    rw [foldT_other ps vs _ i (fun hi => h (by simp [hi])), Array.getElem?_setIfInBounds_ne (fun e => h (by simp [e]))]
theorem foldT_eq (ps : Array Tmp) (vs : List Value) (t : Array Value) : (ps.zip vs.toArray).foldl (fun t (p, v) => t.setIfInBounds p v) t = foldT ps.toList vs t := by
  have key : ∀ (l : List Nat) (vs : List Value) (t : Array Value), (l.zip vs).foldl (fun (t : Array Value) (p : Nat × Value) => t.setIfInBounds p.1 p.2) t = foldT l vs t := by
    intro l
    induction l with
    | nil => intro vs t; simp [foldT]
    | cons p l ih =>
      intro vs t
      cases vs with
      | nil => simp [foldT]
      | cons v vs => simp only [List.zip_cons_cons, List.foldl_cons, foldT]; exact ih vs _
  rw [← key, ← Array.foldl_toList]
  simp
theorem FRx.row {x : Cx} (hx : x.OK P) {w : World} {X : Nat → Prop} {g : G} {St : Nat → Nat → Prop} {Ds : List Nat} {b o : Nat} {C : List PV} {sA : S} {rest : List AOp} (hb : x.N ≤ b) (hxt : ∀ p ∈ x.xt, p.1 ≠ b + 5) :
    ∀ (psL : List Nat) (sh : List (Option Nat)) (ps : List PV) (xs : List Value) (off : Nat) (s : S) (a : Act) (t1 t2 : List AV), shapeOK sh ps = true → PRs St w ps xs → psL.length = sh.length → (∀ p ∈ psL, dstOK x.L (some p) = true) →
      (b + 4 < s.t.length → s.t[b + 4]? = some (.p (.imm C o))) → o + off + shSize sh ≤ C.length → ps.flatMap pcells = (C.drop (o + off)).take (shSize sh) →
      exOps call (rowOps b off psL sh ++ rest) s = some sA → FRx x s a w X g St Ds t1 t2 →
      ∃ s' t1' t2', exOps call rest s' = some sA ∧ s'.m = s.m ∧ (∀ j, j ∉ psL → j ≠ b + 5 → s'.t[j]? = s.t[j]?) ∧ FRx x s' { a with tmps := foldT psL xs a.tmps } w X g St Ds t1' t2'
  | [], sh, ps, xs, off, s, a, t1, t2, hs, hp, hl, hd, hg, hC, hf, he, h => by
    have e : rowOps b off [] sh = [] := by cases sh <;> rfl
    rw [e] at he
    exact ⟨s, t1, t2, he, rfl, fun _ _ _ => rfl, by simpa [foldT] using h⟩
  | p :: psL, [], ps, xs, off, s, a, t1, t2, hs, hp, hl, hd, hg, hC, hf, he, h => by simp at hl
  | p :: psL, c :: sh, [], xs, off, s, a, t1, t2, hs, hp, hl, hd, hg, hC, hf, he, h => by cases c <;> simp [shapeOK] at hs
  | p :: psL, c :: sh, v :: ps, xs, off, s, a, t1, t2, hs, hp, hl, hd, hg, hC, hf, he, h => by
    simp only [PRs] at hp
    obtain ⟨u, us, rfl, hp1, hp2⟩ := hp
    have hpd := hd p (by simp)
    have hpN : p < x.N := by
      simp only [dstOK, Cx.L, Bool.and_eq_true] at hpd
      exact of_decide_eq_true hpd.1
    have hlt4 : b + 4 < s.t.length := by
      by_cases hlt : b + 4 < s.t.length
      · exact hlt
      · exfalso
        have hn : s.t[b + 4]? = none := List.getElem?_eq_none (by omega)
        cases c <;> simp [rowOps, exOps, exOp, grd, runK, get_tmp, List.getD, hn, runL] at he
    have hg4 := hg hlt4
    have s1 := h.put2 (d := b + 5) (v := .p (.imm C (o + off))) (by omega) hxt
    have go : ∀ (sz : Nat) (hsz : shSize (c :: sh) = sz + shSize sh) (hv : (pcells v).length = sz) (hsh : shapeOK sh ps = true)
        (he2 : exOps call (rowOps b (off + sz) psL sh ++ rest) ⟨(s.t.set (b + 5) (.p (.imm C (o + off)))).set p (.p v), s.m⟩ = some sA),
        ∃ s' t1' t2', exOps call rest s' = some sA ∧ s'.m = s.m ∧ (∀ j, j ∉ p :: psL → j ≠ b + 5 → s'.t[j]? = s.t[j]?) ∧ FRx x s' { a with tmps := foldT (p :: psL) (u :: us) a.tmps } w X g St Ds t1' t2' := by
      intro sz hsz hv hsh he2
      have s2 := FRx.put (dst := some p) (v := .p v) (u := u) (m' := s.m) (w' := w) hx s1 hpd s1.mo (Evo.refl _ _) (MExt.refl _ _) (by simpa only [VR] using hp1)
      have hfl : ps.flatMap pcells = (C.drop (o + (off + sz))).take (shSize sh) := by
        have h1 : (ps.flatMap pcells) = ((v :: ps).flatMap pcells).drop sz := by rw [List.flatMap_cons, ← hv, List.drop_left]
        rw [h1, hf, hsz, List.drop_take, List.drop_drop, show o + off + sz = o + (off + sz) by omega]
        congr 1
        omega
      obtain ⟨s', t1', t2', k1, k2, k3, k4⟩ := FRx.row hx hb hxt psL sh ps us (off + sz) _ _ _ _ hsh hp2 (by simpa using hl) (fun q hq => hd q (by simp [hq])) (fun _ => by
        show ((s.t.set (b + 5) _).set p _)[b + 4]? = _
        rw [List.getElem?_set, if_neg (by omega), List.getElem?_set, if_neg (by omega)]
        exact hg4) (by rw [hsz] at hC; omega) hfl he2 s2
      refine ⟨s', t1', t2', k1, k2, fun j hj hj5 => ?_, k4⟩
      rw [k3 j (fun hm => hj (by simp [hm])) hj5]
      show ((s.t.set (b + 5) _).set p _)[j]? = _
      rw [List.getElem?_set, if_neg (fun e => hj (by simp [e])), List.getElem?_set, if_neg (fun e => hj5 e.symm)]
    cases c with
    | none =>
      simp only [shapeOK, Bool.and_eq_true] at hs
      have hv1 : pcells v = [v] := by cases v <;> simp [isCellP] at hs <;> rfl
      have hcell : C[o + off]? = some v := by
        have h1 : ((C.drop (o + off)).take (shSize (none :: sh)))[0]? = some v := by rw [← hf, List.flatMap_cons, hv1]; rfl
        rw [List.getElem?_take] at h1
        split at h1 <;> try (cases h1; done)
        rw [List.getElem?_drop] at h1
        simpa using h1
      refine go 1 rfl (by rw [hv1]; rfl) hs.2 ?_
      simp only [rowOps, List.cons_append, exOps, exOp, grd, List.map_cons, List.map_nil, runK, Gv.put, get_tmp, List.getD, hg4, Option.getD_some, runL, Option.map_some] at he
      rw [List.getElem?_set, if_pos rfl] at he
      by_cases hlt : b + 5 < s.t.length
      · rw [if_pos hlt] at he
        simp only [Option.getD_some, runDV, runD, hcell] at he
        exact he
      · rw [if_neg hlt] at he
        simp [runDV, runD] at he
    | some n =>
      cases v <;> simp only [shapeOK] at hs <;> try (cases hs; done)
      rename_i ws
      simp only [Bool.and_eq_true, beq_iff_eq] at hs
      obtain ⟨⟨hn, _⟩, hs⟩ := hs
      subst hn
      have hsub : sub C (o + off) ws.length = some ws := by
        unfold sub
        rw [if_pos (by simp [shSize] at hC; omega)]
        congr 1
        have h1 : ((C.drop (o + off)).take (shSize (some ws.length :: sh))).take ws.length = ws := by rw [← hf, List.flatMap_cons]; simp [pcells]
        rw [List.take_take] at h1
        simp only [shSize] at h1
        rw [Nat.min_eq_left (by omega)] at h1
        exact h1
      refine go ws.length rfl rfl hs ?_
      simp only [rowOps, List.cons_append, exOps, exOp, grd, List.map_cons, List.map_nil, runK, Gv.put, get_tmp, List.getD, hg4, Option.getD_some, runL, Option.map_some] at he
      rw [List.getElem?_set, if_pos rfl] at he
      by_cases hlt : b + 5 < s.t.length
      · rw [if_pos hlt] at he
        simp only [Option.getD_some, runDV, runD, if_true, hsub] at he
        exact he
      · rw [if_neg hlt] at he
        simp [runDV, runD] at he
end Gv
namespace Gv
open Go Go.RowKit
variable {P : Program} {call : CallT}
def recL (fn : FuncId) (T : Array Value) (ps : Array Tmp) (as c : Code) (D : Nat) (st : LoopState) (pe : Option Code) : Loop := { state := st, pending := pe, fn, tmps := T, params := ps, assign := as, body := c, defers := D }
def spL (l : Nat) (r : Loop) (Dn : List Nat) : List (Nat × Obj) := (l, .loop r) :: Dn.map fun D => (D, .deferred (some []))
def xAt (x : Cx) (b N : Nat) (cs : List PV) (i : Nat) : Cx := { x with xt := (b, .list N cs) :: (b + 1, .int .i64 (i : Int)) :: x.xt }
theorem FRx.sub {x x' : Cx} {s : S} {a : Act} {w : World} {X : Nat → Prop} {g : G} {St : Nat → Nat → Prop} {Ds : List Nat} {t1 t2 : List AV} (h : FRx x s a w X g St Ds t1 t2) (hJ : x'.J = x.J) (hlg : x'.lg = x.lg) (hly : x'.ly = x.ly) (hN : x'.N = x.N)
    (hkp : ∀ i ∈ x'.kp, a.tmps[i]? = x'.u[i]?) (hxt : ∀ p ∈ x'.xt, s.t[p.1]? = some (.p p.2) ∨ s.t[p.1]? = some .bad) (hφ : x'.φ = x.φ) (hld : x'.ld = x.ld := by rfl) : FRx x' s a w X g St Ds t1 t2 :=
  ⟨h.df, h.nd, h.fx, h.tt, h.sz.trans hN.symm, hkp, hxt, h.lg.trans hlg.symm, h.ly.trans hly.symm, by rw [hφ]; exact h.φ, by rw [hJ]; exact h.mo, h.vr, fun q hq b hb => h.kx q (by rw [← hld]; exact hq) b (by rw [← hN]; exact hb)⟩
theorem CI.weak {x : Cx} {b N i : Nat} {cs : List PV} {s : S} {a : Act} {sp : List (Nat × Obj)} {X : Nat → Prop} {St : Nat → Nat → Prop} {w : World} (h : CI (xAt x b N cs i) s a sp X St w) : CI x s a sp X St w := by
  obtain ⟨Xc, g, Ds, t1, t2, h, r⟩ := h
  exact ⟨Xc, g, Ds, t1, t2, h.sub rfl rfl rfl rfl h.kp (fun p hp => h.xt p (by simp [xAt, hp])) rfl, r⟩
def roundA (b : Nat) (ps : List Nat) (sh : List (Option Nat)) (ks : List Nat) (c : ACode) : ACode :=
  .seq (.ops (testOps b)) (.cond (.tmp (b + 3)) (.seq (.ops (nextOps b ps sh)) (.rnd (b :: (b + 1) :: ks) [] c)) (.exit (3000000 + b)))
theorem round_inv {m b N i : Nat} {cs : List PV} {ps : List Nat} {sh : List (Option Nat)} {ks : List Nat} {c : ACode} {s s3 : S} {e3 : Ext} (hb : s.t[b]? = some (.p (.list N cs)) ∨ s.t[b]? = some .bad) (hi : s.t[b + 1]? = some (.p (.int .i64 i)) ∨ s.t[b + 1]? = some .bad)
    (h : exN call m (roundA b ps sh ks c) s = some (e3, s3)) : s.t[b]? = some (.p (.list N cs)) ∧ s.t[b + 1]? = some (.p (.int .i64 i)) ∧
      ((N ≤ i ∧ e3 = .exit (3000000 + b) ∧ s3 = ⟨(s.t.set (b + 2) (.p (.int .i64 N))).set (b + 3) (.p (.bool (decide ((i : Int) < N)))), s.m⟩) ∨
      (i < N ∧ ∃ sA sC, exOps call (nextOps b ps sh) ⟨(s.t.set (b + 2) (.p (.int .i64 N))).set (b + 3) (.p (.bool (decide ((i : Int) < N)))), s.m⟩ = some sA ∧ exN call m c sA = some (e3, sC) ∧ s3 = norm (b :: (b + 1) :: ks) [] sC)) := by
  cases m with
  | zero => simp [exN] at h
  | succ m =>
    rcases seq_inv h with ⟨sT, h1, h2⟩ | ⟨hne, h1⟩
    · obtain ⟨hb', hi', rfl⟩ := test_inv hb hi (ops_inv h1).2
      refine ⟨hb', hi', ?_⟩
      obtain ⟨m1, rfl, ⟨hc, h3⟩ | ⟨hc, h3⟩⟩ := cond_inv h2
      · right
        have hlt : i < N := by
          simp only [get_tmp, List.getD] at hc
          rw [List.getElem?_set, if_pos rfl] at hc
          split at hc
          · simp at hc; omega
          · simp at hc
        refine ⟨hlt, ?_⟩
        cases m1 with
        | zero => simp [exN] at h3
        | succ m1 =>
          rcases seq_inv h3 with ⟨sA, h4, h5⟩ | ⟨hne, h4⟩
          · obtain ⟨m2, rfl, sC, h6, rfl⟩ := rnd_inv h5
            exact ⟨sA, sC, (ops_inv h4).2, exN_mono (CLe.refl _) (by omega) h6, rfl⟩
          · exact absurd (ops_inv h4).1 hne
      · left
        have hle : N ≤ i := by
          simp only [get_tmp, List.getD] at hc
          rw [List.getElem?_set, if_pos rfl] at hc
          split at hc
          · simp at hc; omega
          · simp at hc
        cases m1 with
        | zero => simp [exN] at h3
        | succ m1 =>
          simp only [exN, Option.some.injEq, Prod.mk.injEq] at h3
          exact ⟨hle, h3.1.symm, h3.2.symm⟩
    · exact absurd (ops_inv h1).1 hne
theorem next_sound {x : Cx} (hx : x.OK P) {b N i : Nat} (hB : x.B ≤ b) {cs : List PV} (hbig : N ≤ big) (hcl : i < N) {psL : List Nat} {sh : List (Option Nat)} {pv : List PV} {xs : List Value} (hcs : cs.length = N * shSize sh) (hsh : shapeOK sh pv = true) (hpl : psL.length = sh.length) (hps : ∀ p ∈ psL, p < x.N)
    (hfl : pv.flatMap pcells = (cs.drop (i * shSize sh)).take (shSize sh)) {w : World} {X : Nat → Prop} {g : G} {St : Nat → Nat → Prop} {Ds : List Nat} {t1 t2 : List AV} {s sA : S} {a : Act} (hpr : PRs St w pv xs) (hb : s.t[b]? = some (.p (.list N cs))) (hi : s.t[b + 1]? = some (.p (.int .i64 i)))
    (he : exOps call (nextOps b psL sh) s = some sA) (h : FRx x s a w X g St Ds t1 t2) :
    ∃ t1' t2', sA.m = s.m ∧ FRx (xAt { x with kp := [], B := b + 6 } b N cs (i + 1)) sA { a with tmps := foldT psL xs a.tmps } w X g St Ds t1' t2' := by
  have hNB := hx.nb
  simp only [nextOps, exOps, exOp, grd, List.map_cons, List.map_nil, runK, Gv.put, get_tmp, List.getD, hb, hi, Option.getD_some, runL, asList] at he
  rw [if_pos (by omega), if_pos (by omega)] at he
  simp only [Option.map_some, Int.toNat_natCast] at he
  have h0 : FRx { x with kp := [] } s a w X g St Ds t1 t2 := h.sub rfl rfl rfl rfl (by simp) h.xt rfl
  have hx0 : ({ x with kp := [] } : Cx).OK P := ⟨hx.nb, hx.xt, hx.rd, hx.yk⟩
  have far : ∀ d, b ≤ d → ∀ p ∈ x.xt, p.1 ≠ d := fun d hd p hp => by have := (hx.xt p hp).2; omega
  have s1 := h0.put2 (d := b + 4) (v := .p (.imm cs (i * shSize sh))) (by show x.N ≤ _; omega) (far _ (by omega))
  have hrow : i * shSize sh + 0 + shSize sh ≤ cs.length := by
    rw [hcs]
    have : (i + 1) * shSize sh ≤ N * shSize sh := Nat.mul_le_mul_right _ hcl
    rw [Nat.add_mul, Nat.one_mul] at this
    omega
  obtain ⟨s', t1', t2', k1, k2, k3, k4⟩ := FRx.row hx0 (b := b) (o := i * shSize sh) (C := cs) (by show x.N ≤ b; omega) (far _ (by omega)) psL sh pv xs 0 _ _ _ _ hsh hpr hpl
    (fun p hp => by simp only [dstOK, Cx.L, Bool.and_eq_true]; exact ⟨decide_eq_true (hps p hp), by simp⟩)
    (fun hlt => by
      show (s.t.set (b + 4) _)[b + 4]? = _
      rw [List.getElem?_set, if_pos rfl, if_pos (by simpa using hlt)]) hrow (by rw [Nat.add_zero]; exact hfl) he s1
  have nb : ∀ d, b ≤ d → d ∉ psL := fun d hd hm => by have := hps d hm; omega
  have gb : s'.t[b]? = some (.p (.list N cs)) := by
    rw [k3 b (nb b (Nat.le_refl _)) (by omega)]
    show (s.t.set (b + 4) _)[b]? = _
    rw [List.getElem?_set, if_neg (by omega), hb]
  have gi : s'.t[b + 1]? = some (.p (.int .i64 i)) := by
    rw [k3 (b + 1) (nb _ (by omega)) (by omega)]
    show (s.t.set (b + 4) _)[b + 1]? = _
    rw [List.getElem?_set, if_neg (by omega), hi]
  simp only [exOps, exOp, grd, List.map_cons, List.map_nil, runK, Gv.put, List.getD, gi, Option.getD_some, runL, Arg.get, binA, if_true, iop, Option.map_some, Option.some.injEq] at k1
  rw [wrap_small (by omega)] at k1
  subst k1
  have s2 := k4.put2 (d := b + 1) (v := .p (.int .i64 ((i + 1 : Nat) : Int))) (by show x.N ≤ _; omega) (far _ (by omega))
  have hltb : b + 1 < s'.t.length := (List.getElem?_eq_some_iff.1 gi).1
  refine ⟨_, _, k2, s2.sub rfl rfl rfl rfl (by simp [xAt]) (fun p hp => ?_) rfl⟩
  simp only [xAt, List.mem_cons] at hp
  rcases hp with rfl | rfl | hp
  · left
    show (s'.t.set (b + 1) _)[b]? = _
    rw [List.getElem?_set, if_neg (by omega), gb]
  · left
    show (s'.t.set (b + 1) _)[b + 1]? = _
    rw [List.getElem?_set, if_pos rfl, if_pos hltb]
  · exact s2.xt p hp
end Gv
namespace Gv
open Go Go.RowKit
variable {P : Program} {call : CallT}
def updF (φ : Nat → Option Obj) (q : Nat) (o : Option Obj) : Nat → Option Obj := fun p => if p = q then o else φ p
def jumpOf : Ext → Code
  | .normal => .skip
  | .exit i => .exit i
  | .ret => .ret
def Left (e : Ext) : Prop := (∃ j, e = .exit j ∧ j < 1000000) ∨ e = .ret
theorem MExt0.same (g g' : G) (m : List Blk) (hρ : g'.ρ = g.ρ) (hκ : g'.κ = g.κ) (hσ : g'.σ = g.σ) (hly : g'.ly = g.ly) : MExt0 g m g' m :=
  ⟨fun _ wr cs h => ⟨⟨wr, cs, h⟩, by rw [hρ]⟩, fun _ n h => ⟨n, h, Nat.le_refl _, fun _ => ⟨by rw [hρ], by rw [hκ], by rw [hσ]⟩⟩, fun _ wr n s cs h => ⟨wr, n, s, cs, h, Nat.le_refl _, fun _ => ⟨by rw [hρ], by rw [hκ], by rw [hσ]⟩⟩, hly⟩
theorem MemOK.seen {X X' : Nat → Prop} {J J' : Nat → JT} {g : G} {St : Nat → Nat → Prop} {m : List Blk} {w : World} (h : MemOK X J g St m w) (φ : Nat → Option Obj) (hinv : J' g.ι X' St w) (hab : ∀ i, Abides (J' i)) (hb0 : ∀ q, X' q → q < w.heap.size)
    (hfix : ∀ q o, φ q = some o → w.heap[q]? = some o ∧ ¬ X' q ∧ (∀ j, ¬ St q j) ∧ ∀ b, live m b → g.ρ b ≠ q) (hown : ∀ b, live m b → ¬ X' (g.ρ b)) : MemOK X' J' { g with φ := φ } St m w := by
  refine ⟨hinv, hab, hb0, h.stLt, hfix, fun b blk hb => ?_, h.inj⟩
  have := h.mem b blk hb
  cases blk with
  | none => trivial
  | cells wr cs =>
    obtain ⟨k1, cur, e, k2, k3, k4⟩ := this
    exact ⟨hown b ⟨_, hb, rfl⟩, cur, e, k2, VRs.mono0 (Evo.refl _ _) (MExt0.same g { g with φ := φ } m rfl rfl rfl rfl) _ _ k3, k4⟩
  | buf n =>
    obtain ⟨k1, k2⟩ := this
    exact ⟨hown b ⟨_, hb, rfl⟩, k2⟩
  | log sh k n cs => exact this
  | vec wr n sz cs =>
    obtain ⟨k1, k2⟩ := this
    exact ⟨hown b ⟨_, hb, rfl⟩, k2⟩
theorem FRx.turn {x : Cx} {s : S} {a : Act} {w : World} {X : Nat → Prop} {g : G} {St : Nat → Nat → Prop} {Ds : List Nat} {t1 t2 : List AV} (h : FRx x s a w X g St Ds t1 t2) {l : Nat} {r : Loop} (hl : g.φ l = some (.loop r)) (r' : Loop) :
    FRx { x with φ := updF x.φ l (some (.loop r')) } s a (w.putObj l (.loop r')) X { g with φ := updF g.φ l (some (.loop r')) } St Ds t1 t2 := by
  obtain ⟨f1, f2, f3, f4⟩ := h.mo.fix l _ hl
  have hlt := heap_lt f1
  have hg : w.grownBy (w.putObj l (.loop r')) (some l) := grownBy_putObj' w l _
  have ev : Evo St w St (w.putObj l (.loop r')) := fun b o hs => ⟨hs, World.cell?_of_block (World.putObj_heap_other (fun e => f3 o (e ▸ hs)))⟩
  have hsz : (w.putObj l (.loop r')).heap.size = w.heap.size := World.putObj_size
  have own : ∀ b, live s.m b → ¬ X (g.ρ b) := fun b hb => h.mo.notX hb
  have m0 := h.mo.seen (updF g.φ l none) (J' := x.J) (X' := X) h.mo.inv h.mo.ab h.mo.b0 (fun q o hq => by
    simp only [updF] at hq
    split at hq
    · cases hq
    · exact h.mo.fix q o hq) own
  have m1 := m0.abide hg (fun q e => by cases e; exact ⟨f2, f4, by simp [updF]⟩) ev (fun b o hs => by rw [hsz]; exact h.mo.stLt b o hs) (fun b o hs => .inl hs)
  have m2 := m1.seen (updF g.φ l (some (.loop r'))) (J' := x.J) (X' := X) m1.inv m1.ab m1.b0 (fun q o hq => by
    simp only [updF] at hq
    split at hq
    · rename_i e
      subst e
      simp at hq
      subst hq
      exact ⟨World.putObj_heap_same hlt, f2, f3, f4⟩
    · rename_i e
      exact m1.fix q o (by simp only [updF, if_neg e]; exact hq)) own
  refine ⟨h.df, h.nd, fun D hD => ?_, h.tt, h.sz, h.kp, h.xt, h.lg, h.ly, fun q o hq => ?_, m2, VRs.mono0 ev (MExt0.same g { g with φ := updF g.φ l (some (.loop r')) } s.m rfl rfl rfl rfl) _ _ h.vr, fun q hq b hb => (h.kx q hq b hb).same rfl rfl rfl⟩
  · have h1 := h.fx D hD
    have hne : D ≠ l := fun e => by rw [e, hl] at h1; cases h1
    simp only [updF, if_neg hne, h1]
  · simp only [updF] at hq ⊢
    split at hq
    · rename_i e
      rw [if_pos e]; exact hq
    · rename_i e
      rw [if_neg e]; exact h.φ q o hq
def JR (J : Nat → JT) (Xc X' : Nat → Prop) (St1 : Nat → Nat → Prop) (W1 : World) (i : Nat) : JT := fun X St w =>
  (∀ q, X q ↔ X' q) ∧ J i Xc St w ∧ W1.heap.size ≤ w.heap.size ∧ (∀ q, X' q → w.heap[q]? = W1.heap[q]?) ∧ Evo St1 W1 St w ∧ (∀ b o, St b o → St1 b o ∨ ¬ X' b) ∧ ∀ b o, St b o → b < w.heap.size
theorem JR.abides {J : Nat → JT} (hJ : ∀ i, Abides (J i)) {Xc X' : Nat → Prop} (hc : ∀ q, Xc q → X' q) {St1 : Nat → Nat → Prop} {W1 : World} (hX : ∀ q, X' q → q < W1.heap.size) (i : Nat) : Abides (JR J Xc X' St1 W1 i) := by
  rintro X St St' w w' row ⟨h1, h2, h3, h4, h5, h6, h7⟩ hg hr ev hl hn
  have hr' : ∀ q, row = some q → ¬ X' q := fun q e hx => hr q e ((h1 q).2 hx)
  refine ⟨h1, hJ i Xc St St' w w' row h2 hg (fun q e hx => hr' q e (hc q hx)) ev hl (fun b o hs => (hn b o hs).imp id fun hx h => hx ((h1 b).2 (hc b h))), Nat.le_trans h3 hg.size, fun q hq => ?_, h5.trans ev, fun b o hs => ?_, hl⟩
  · exact (hg.block q (Nat.lt_of_lt_of_le (hX q hq) h3) (fun e => hr' q (by simpa using e.symm) hq)).trans (h4 q hq)
  · rcases hn b o hs with k | k
    · exact h6 b o k
    · exact .inr fun hx => k ((h1 b).2 hx)
theorem kept_back {g : G} {m : List Blk} {St : Nat → Nat → Prop} {w : World} {KB kk : List Nat} {N : Nat} (hk : ∀ i, KB.contains i = true → i < N → i ∈ kk) : ∀ (t : List AV) (us vs : List Value) (j : Nat), VRs g m St w t us → us.length = vs.length → j + us.length ≤ N →
    (∀ i ∈ kk, ∀ d, i = j + d → d < us.length → us[d]? = vs[d]?) → VRs g m St w (keepT KB j t) vs
  | [], us, vs, j, h, hl, _, _ => by
    simp only [VRs] at h
    subst h
    have : vs = [] := List.eq_nil_of_length_eq_zero hl.symm
    subst this
    simp [keepT, VRs]
  | v :: t, us, vs, j, h, hl, hN, he => by
    simp only [VRs] at h
    obtain ⟨u, us, rfl, h1, h2⟩ := h
    cases vs with
    | nil => simp at hl
    | cons v' vs =>
      simp only [keepT, VRs]
      refine ⟨v', vs, rfl, ?_, kept_back hk t us vs (j + 1) h2 (by simpa using hl) (by simp at hN; omega) fun i hi d hd hlt => ?_⟩
      · cases hc : KB.contains j with
        | false => simp only [cond_false, VR]
        | true =>
          have hj := hk j hc (by simp at hN; omega)
          have := he j hj 0 (by omega) (by simp)
          simp at this
          rw [← this]
          exact h1
      · have := he i hi (d + 1) (by omega) (by simp; omega)
        simpa using this
end Gv
namespace Gv
open Go Go.RowKit
variable {P : Program} {call : CallT}
theorem own_not {X : Nat → Prop} {J : Nat → JT} {g : G} {St : Nat → Nat → Prop} {m : List Blk} {w : World} (h : MemOK X J g St m w) {b : Nat} (hb : live m b) : ¬ X (g.ρ b) := h.notX hb
theorem round_back {x xr : Cx} {a a3 : Act} {b N i l : Nat} {cs : List PV} {kk Dn : List Nat} {r0 rb : Loop} {X1 Xc X' : Nat → Prop} {g : G} {St1 : Nat → Nat → Prop} {W1 w3 : World} {Ds : List Nat} {t1 t2 : List AV} {si sA sC : S}
    (hB : x.N ≤ b) (_hkk : ∀ i ∈ kk, i < x.N) (h : FRx (xAt x b N cs i) si a W1 Xc g St1 Ds t1 t2) (c1 : ∀ q, Xc q → X1 q) (c2 : ∀ b, live si.m b → X1 (g.ρ b)) (c3 : ∀ q o, g.φ q = some o → X1 q)
    (c4 : ∀ p ∈ spL l r0 Dn, W1.heap[p.1]? = some p.2 ∧ X1 p.1 ∧ ¬ Xc p.1 ∧ (∀ b, live si.m b → g.ρ b ≠ p.1) ∧ (∀ j, ¬ St1 p.1 j) ∧ g.φ p.1 = none) (hX1 : ∀ q, X1 q → q < W1.heap.size) (hlD : l ∉ Dn)
    (hA : ∀ b, live sA.m b → live si.m b) (hb0 : ∀ q, Xc q → q < W1.heap.size)
    (hX' : ∀ q, X' q ↔ (q < W1.heap.size ∧ (∀ b, live sA.m b → g.ρ b ≠ q) ∧ q ≠ l ∧ q ∉ Dn ∧ g.φ q = none)) (hXc : ∀ q, Xc q → X' q)
    (hJ : xr.J = JR x.J Xc X' St1 W1) (hN : xr.N = x.N) (hkp : xr.kp = kk) (hu : xr.u = a.tmps) (hxt : xr.xt = (xAt x b N cs (i + 1)).xt) (hlg : xr.lg = x.lg) (hly : xr.ly = x.ly) (hldx : x.ld = none) (hldr : xr.ld = none)
    (hφl : xr.φ l = some (.loop rb)) (hφD : ∀ D ∈ Dn, xr.φ D = some (.deferred (some []))) (hφg : ∀ q o, g.φ q = some o → xr.φ q = some o)
    (hf : FR xr sC a3 w3) : w3.heap[l]? = some (.loop rb) ∧ ∀ r' : Loop, ∃ X4 St4, CI (xAt x b N cs (i + 1)) (norm (b :: (b + 1) :: kk) [] sC) a (spL l r' Dn) X4 St4 (w3.putObj l (.loop r')) ∧ Yields X1 St1 W1 X4 St4 (w3.putObj l (.loop r')) := by
  obtain ⟨X3, g3, St3, Ds3, v1, v2, k⟩ := hf
  have hl4 := c4 (l, .loop r0) (by simp [spL])
  have hD4 : ∀ D ∈ Dn, _ := fun D hD => c4 (D, .deferred (some [])) (by simp [spL, hD])
  have hinv := k.mo.inv
  rw [hJ] at hinv
  obtain ⟨j1, j2, j3, j4, j5, j6, j7⟩ := hinv
  have hg3 : ∀ q o, g.φ q = some o → g3.φ q = some o := fun q o hq => k.φ q o (hφg q o hq)
  have hg3l : g3.φ l = some (.loop rb) := k.φ l _ hφl
  have hg3D : ∀ D ∈ Dn, g3.φ D = some (.deferred (some [])) := fun D hD => k.φ D _ (hφD D hD)
  obtain ⟨f1, f2, f3, f4⟩ := k.mo.fix l _ hg3l
  have hgl : g.φ l = none := hl4.2.2.2.2.2
  have hgD : ∀ D ∈ Dn, g.φ D = none := fun D hD => (hD4 D hD).2.2.2.2.2
  refine ⟨f1, fun r' => ?_⟩
  have notX' : ∀ q, q < W1.heap.size → ¬ X' q → X1 q := fun q hq hx => by
    rw [hX'] at hx
    by_cases e1 : ∃ b, live sA.m b ∧ g.ρ b = q
    · obtain ⟨b, hb, he⟩ := e1
      rw [← he]
      exact c2 b (hA b hb)
    · by_cases e2 : q = l
      · rw [e2]; exact hl4.2.1
      · by_cases e3 : q ∈ Dn
        · exact (hD4 q e3).2.1
        · cases hφ : g.φ q with
          | some o => exact c3 q o hφ
          | none => exact absurd ⟨hq, fun b hb he => e1 ⟨b, hb, he⟩, e2, e3, hφ⟩ hx
  obtain ⟨φ4, hφ4⟩ : ∃ φ4 : Nat → Option Obj, φ4 = fun q => if q = l ∨ q ∈ Dn then none else g3.φ q := ⟨_, rfl⟩
  have h4of : ∀ q o, φ4 q = some o → g3.φ q = some o ∧ q ≠ l ∧ q ∉ Dn := fun q o hq => by
    rw [hφ4] at hq
    simp only at hq
    split at hq
    · cases hq
    · rename_i e
      exact ⟨hq, fun e1 => e (.inl e1), fun e1 => e (.inr e1)⟩
  have h4to : ∀ q o, g3.φ q = some o → q ≠ l → q ∉ Dn → φ4 q = some o := fun q o hq e1 e2 => by
    rw [hφ4]
    simp only
    rw [if_neg (fun e => e.elim e1 e2)]
    exact hq
  have h4l : φ4 l = none := by rw [hφ4]; simp
  have h4D : ∀ D ∈ Dn, φ4 D = none := fun D hD => by rw [hφ4]; simp [hD]
  have hXc3 : ∀ q, Xc q → X3 q := fun q hq => (j1 q).2 (hXc q hq)
  have m4 := k.mo.seen φ4 (J' := x.J) (X' := Xc) j2 (fun i => h.mo.ab i) (fun q hq => Nat.lt_of_lt_of_le (hb0 q hq) j3) (fun q o hq => by
    obtain ⟨q1, _, _⟩ := h4of q o hq
    obtain ⟨p1, p2, p3, p4⟩ := k.mo.fix q o q1
    exact ⟨p1, fun hx => p2 (hXc3 q hx), p3, p4⟩) (fun b hb hx => own_not k.mo hb (hXc3 _ hx))
  have m5 := m4.norm []
  have hsz : (w3.putObj l (.loop r')).heap.size = w3.heap.size := World.putObj_size
  have ev : Evo St3 w3 St3 (w3.putObj l (.loop r')) := fun b o hs => ⟨hs, World.cell?_of_block (World.putObj_heap_other (fun e => f3 o (e ▸ hs)))⟩
  have m6 := m5.abide (grownBy_putObj' w3 l (.loop r')) (fun q e => by cases e; exact ⟨hl4.2.2.1, fun b hb => f4 b (live_norm hb), h4l⟩) ev (fun b o hs => by rw [hsz]; exact k.mo.stLt b o hs) (fun b o hs => .inl hs)
  have kn := k.norm (b :: (b + 1) :: kk) [] (fun hl => absurd hldr hl)
  have hvr : VRs { g3 with φ := φ4 } (norm (b :: (b + 1) :: kk) [] sC).m St3 (w3.putObj l (.loop r')) (scrubs [] (keepT (b :: (b + 1) :: kk) 0 v1)) a.tmps.toList := by
    have l3 : a3.tmps.size = x.N := k.sz.trans hN
    have l0 : a.tmps.size = x.N := h.sz
    have e1 := kept_back (KB := b :: (b + 1) :: kk) (kk := kk) (N := x.N) (fun i hi hlt => by
      simp only [List.contains_cons, Bool.or_eq_true, beq_iff_eq] at hi
      rcases hi with hi | hi | hi
      · omega
      · omega
      · simpa using hi) v1 _ a.tmps.toList 0 k.vr (by simp [l3, l0]) (by simp [l3]) (fun i hi d hd hlt => by
      have := k.kp i (by rw [hkp]; exact hi)
      rw [hu] at this
      have hdi : d = i := by omega
      subst hdi
      simpa using this)
    exact VRs.mono0 ev (MExt0.same g3 { g3 with φ := φ4 } _ rfl rfl rfl rfl) _ _ (scrubs_sound [] _ _ e1)
  refine ⟨fun q => X1 q ∨ False ∨ (∃ b', live (norm (b :: (b + 1) :: kk) [] sC).m b' ∧ g3.ρ b' = q) ∨ ∃ o, g3.φ q = some o, St3, ⟨Xc, { g3 with φ := φ4 }, Ds, scrubs [] (keepT (b :: (b + 1) :: kk) 0 v1), scrubs [] (keepT (b :: (b + 1) :: kk) v1.length v2), ?_, ?_, ?_, ?_, ?_⟩, ?_⟩
  · refine ⟨h.df, h.nd, fun D hD => ?_, kn.tt, h.sz, h.kp, fun p hp => kn.xt p (by rw [hxt]; exact hp), k.lg.trans hlg, k.ly.trans hly, fun q o hq => ?_, m6, hvr, fun q hq => by rw [show (xAt x b N cs (i + 1)).ld = none from hldx] at hq; cases hq⟩
    · have h1 := h.fx D hD
      refine h4to D _ (hg3 D _ h1) (fun e => ?_) (fun e => ?_)
      · rw [e, hgl] at h1; cases h1
      · rw [hgD D e] at h1; cases h1
    · have h1 := h.φ q o hq
      refine h4to q _ (hg3 q _ h1) (fun e => ?_) (fun e => ?_)
      · rw [e, hgl] at h1; cases h1
      · rw [hgD q e] at h1; cases h1
  · exact fun q hq => .inl (c1 q hq)
  · exact fun b' hb' => .inr (.inr (.inl ⟨b', hb', rfl⟩))
  · exact fun q o hq => .inr (.inr (.inr ⟨o, (h4of q o hq).1⟩))
  · intro p hp
    simp only [spL, List.mem_cons, List.mem_map] at hp
    rcases hp with rfl | ⟨D, hD, rfl⟩
    · exact ⟨World.putObj_heap_same (heap_lt f1), .inl hl4.2.1, hl4.2.2.1, fun b hb => f4 b (live_norm hb), f3, h4l⟩
    · have hd := hD4 D hD
      have hne : D ≠ l := fun e => hlD (e ▸ hD)
      obtain ⟨p1, p2, p3, p4⟩ := k.mo.fix D _ (hg3D D hD)
      exact ⟨(World.putObj_heap_other hne).trans p1, .inl hd.2.1, hd.2.2.1, fun b hb => p4 b (live_norm hb), p3, h4D D hD⟩
  · have new : ∀ q, ¬ X3 q → X1 q ∨ W1.heap.size ≤ q := fun q hq => by
      by_cases hlt : q < W1.heap.size
      · exact .inl (notX' q hlt fun hx => hq ((j1 q).2 hx))
      · exact .inr (by omega)
    refine ⟨by rw [hsz]; exact j3, fun q hq hx => ?_, fun q hq => .inl hq, fun q hq => ?_, fun q hq => ?_, j5.trans ev, fun b o hs => by rw [hsz]; exact j7 b o hs, fun b o hs => ?_⟩
    · have hne : q ≠ l := fun e => hx (e ▸ hl4.2.1)
      have hx' : X' q := by
        by_cases hx' : X' q
        · exact hx'
        · exact absurd (notX' q hq hx') hx
      exact (World.putObj_heap_other hne).trans (j4 q hx')
    · rcases hq with hq | hq | ⟨b', hb', rfl⟩ | ⟨o, hq⟩
      · exact .inl hq
      · exact hq.elim
      · exact new _ (own_not k.mo (live_norm hb'))
      · exact new _ (k.mo.fix q o hq).2.1
    · rw [hsz]
      rcases hq with hq | hq | ⟨b', hb', rfl⟩ | ⟨o, hq⟩
      · exact Nat.lt_of_lt_of_le (hX1 q hq) j3
      · exact hq.elim
      · exact k.mo.lt (live_norm hb')
      · exact heap_lt (k.mo.fix q o hq).1
    · rcases j6 b o hs with h1 | h1
      · exact .inl h1
      · by_cases hlt : b < W1.heap.size
        · exact .inr (.inl (.inl (notX' b hlt h1)))
        · exact .inr (.inr (by omega))
end Gv
namespace Gv
open Go Go.RowKit
variable {P : Program} {call : CallT}
def Less (P : Program) (call : CallT) (fr : List Nat) (n : Nat) : Prop := ∀ (x : Cx) (c : Code) (ac : ACode) (ks ks' : List (List Nat × List Nat)) (s : S) (e : Ext) (s' : S) (a : Act) (w : World), x.OK P → (hasRange c = true → x.lg = none ∧ x.ld = none) → (x.ld ≠ none → bsOK x.N ac = true) →
  codeC P x.L fr c ks = some (ac, ks') → exN call n ac s = some (e, s') → Will x s'.m → FR x s a w → c.wpIn (FW x.r) 0 P (QE x e s') a w
theorem plain_normal {L : Lm} {fr : List Nat} : ∀ {c : Code} {ac : ACode} {ks ks' : List (List Nat × List Nat)} {n : Nat} {s s' : S} {e : Ext}, isPlain c = true → codeC P L fr c ks = some (ac, ks') → exN call n ac s = some (e, s') → e = .normal := by
  intro c
  induction c with
  | skip =>
    intro ac ks ks' n s s' e _ hc h
    simp [codeC] at hc
    obtain ⟨rfl, rfl⟩ := hc
    cases n <;> simp [exN] at h
    exact h.1.symm
  | region id ops dr =>
    intro ac ks ks' n s s' e _ hc h
    simp only [codeC] at hc
    split at hc
    · simp at hc
      obtain ⟨rfl, rfl⟩ := hc
      cases hg : gupL fr id with
      | nil =>
        simp only [gup, hg] at h
        exact (ops_inv h).1
      | cons b bs =>
        simp only [gup, hg] at h
        obtain ⟨n', _, s1, h1, _⟩ := rnd_inv h
        exact (ops_inv h1).1
    · simp at hc
      obtain ⟨rfl, rfl⟩ := hc
      exact (ops_inv h).1
  | seq a b iha ihb =>
    intro ac ks ks' n s s' e hp hc h
    simp only [isPlain, Bool.and_eq_true] at hp
    match ks with
    | [] => simp [codeC] at hc
    | [_] => simp [codeC] at hc
    | k :: k' :: ks =>
      simp only [codeC] at hc
      split at hc <;> try (cases hc; done)
      rename_i ax ks1 hx
      split at hc <;> try (cases hc; done)
      rename_i ay ks2 hy
      simp at hc
      obtain ⟨rfl, rfl⟩ := hc
      cases n with
      | zero => simp [exN] at h
      | succ n =>
        rcases seq_inv h with ⟨s1, h1, h2⟩ | ⟨hne, h1⟩
        · exact ihb hp.2 hy h2
        · exfalso
          unfold wrap at h1
          cases hk : k'.2.contains 999999 with
          | true =>
            rw [hk] at h1
            exact hne (iha hp.1 hx h1)
          | false =>
            rw [hk] at h1
            simp only [cond_false] at h1
            cases n with
            | zero => simp [exN] at h1
            | succ n =>
              simp only [exN] at h1
              cases hxx : exN call n ax (norm k.1 k.2 s) with
              | none => rw [hxx] at h1; cases h1
              | some r =>
                obtain ⟨e1, s2⟩ := r
                rw [hxx] at h1
                have := iha hp.1 hx hxx
                subst this
                simp at h1
                exact hne h1.1.symm
  | _ => intro ac ks ks' n s s' e hp; simp [isPlain] at hp
theorem shape_pv : ∀ (sh : List (Option Nat)) (pv : List PV), shapeOK sh pv = true → pv.length = sh.length
  | [], [], _ => rfl
  | [], _ :: _, h => by simp [shapeOK] at h
  | none :: s, [], h => by simp [shapeOK] at h
  | some n :: s, [], h => by simp [shapeOK] at h
  | none :: s, p :: ps, h => by
    simp only [shapeOK, Bool.and_eq_true] at h
    simp [shape_pv s ps h.2]
  | some n :: s, p :: ps, h => by
    cases p <;> simp only [shapeOK] at h <;> try (cases h; done)
    simp only [Bool.and_eq_true] at h
    simp [shape_pv s ps h.2]
theorem round_sound {x : Cx} (hx : x.OK P) (hlgx : x.lg = none) (hldx : x.ld = none) {fr : List Nat} {n : Nat} (ih : Less P call fr n) {a : Act} {b N l : Nat} {cs : List PV} {kk bs Dn : List Nat} {ps : Array Tmp} {sh : List (Option Nat)} {as c : Code} {xa ya : ACode} {ks ks1 ks2 : List (List Nat × List Nat)} {fn : FuncId} {D : Nat}
    (hB : x.B ≤ b) (hbig : N ≤ big) (hcs : cs.length = N * shSize sh) (hps : ∀ p ∈ ps.toList, p < x.N ∧ p ∉ kk) (hkk : ∀ i ∈ kk, i < x.N) (hshl : ps.toList.length = sh.length) (hpl : isPlain as = true)
    (hxa : codeC P (x.N, kk, b + 6) fr as ks = some (xa, ks1)) (hya : codeC P (x.N, kk, b + 6) fr c ks1 = some (ya, ks2)) (hlD : l ∉ Dn)
    {i : Nat} {si s3 : S} {e3 : Ext} (hrun : exN call n (roundA b ps.toList sh kk (.seq xa ya)) (norm (b :: (b + 1) :: kk) bs si) = some (e3, s3))
    {X1 : Nat → Prop} {St1 : Nat → Nat → Prop} {W1 : World} (hci : CI (xAt x b N cs i) si a (spL l (recL fn a.tmps ps as c D .ready none) Dn) X1 St1 W1) (hX1 : ∀ q, X1 q → q < W1.heap.size) (hSt1 : ∀ b o, St1 b o → b < W1.heap.size)
    (hiN : i < N) {pv : List PV} {xs : List Value} (hsh : shapeOK sh pv = true) (hfl : pv.flatMap pcells = (cs.drop (i * shSize sh)).take (shSize sh)) (hpr : PRs St1 W1 pv xs) :
    YieldAt Fence.wide 0 P l xs.toArray W1 fun e' W' =>
      (e3 = .normal ∧ e' = .returned (.bool true) ∧ ∃ X' St', CI (xAt x b N cs (i + 1)) s3 a (spL l (recL fn a.tmps ps as c D .ready none) Dn) X' St' W' ∧ Yields X1 St1 W1 X' St' W') ∨
      (Left e3 ∧ e' = .returned (.bool false) ∧ ∃ X' St', CI (xAt x b N cs (i + 1)) s3 a (spL l (recL fn a.tmps ps as c D .done (some (jumpOf e3))) Dn) X' St' W' ∧ Yields X1 St1 W1 X' St' W') := by
  obtain ⟨Xc, g, Ds, t1, t2, h, c1, c2, c3, c4⟩ := hci
  have hNB := hx.nb
  have hl4 := c4 (l, .loop (recL fn a.tmps ps as c D .ready none)) (by simp [spL])
  have hD4 : ∀ D ∈ Dn, _ := fun D hD => c4 (D, .deferred (some [])) (by simp [spL, hD])
  have h0 := h.norm (b :: (b + 1) :: kk) bs (fun hl => absurd hldx hl)
  have hxb := h0.xt (b, .list N cs) (by simp [xAt])
  have hxi := h0.xt (b + 1, .int .i64 (i : Int)) (by simp [xAt])
  obtain ⟨hb, hi, ⟨hle, _⟩ | ⟨_, sA, sC, hn, hbd, rfl⟩⟩ := round_inv (b := b) (N := N) (cs := cs) (i := i) hxb hxi hrun
  · omega
  have hw0 : FRx x (norm (b :: (b + 1) :: kk) bs si) a W1 Xc g St1 Ds _ _ := h0.sub rfl rfl rfl rfl h.kp (fun p hp => h0.xt p (by simp [xAt, hp])) rfl
  have far : ∀ d, b ≤ d → ∀ p ∈ x.xt, p.1 ≠ d := fun d hd p hp => by have := (hx.xt p hp).2; omega
  have hT := (hw0.put2 (d := b + 2) (v := .p (.int .i64 N)) (by omega) (far _ (by omega))).put2 (d := b + 3) (v := .p (.bool (decide ((i : Int) < N)))) (by omega) (far _ (by omega))
  obtain ⟨t1A, t2A, hmA, hA⟩ := next_sound hx hB hbig hiN hcs hsh hshl (fun p hp => (hps p hp).1) hfl hpr (by
      show ((norm _ bs si).t.set (b + 2) _ |>.set (b + 3) _)[b]? = _
      rw [List.getElem?_set, if_neg (by omega), List.getElem?_set, if_neg (by omega)]
      exact hb) (by
      show ((norm _ bs si).t.set (b + 2) _ |>.set (b + 3) _)[b + 1]? = _
      rw [List.getElem?_set, if_neg (by omega), List.getElem?_set, if_neg (by omega)]
      exact hi) hn hT
  have hlive : ∀ b, live sA.m b → live si.m b := fun b hb => by
    rw [hmA] at hb
    exact live_norm hb
  obtain ⟨φr, hφr⟩ : ∃ φr : Nat → Option Obj, φr = fun q => if q = l then some (.loop (recL fn a.tmps ps as c D .ready none)) else if q ∈ Dn then some (.deferred (some [])) else g.φ q := ⟨_, rfl⟩
  have φl : φr l = some (.loop (recL fn a.tmps ps as c D .ready none)) := by rw [hφr]; simp
  have φD : ∀ D ∈ Dn, φr D = some (.deferred (some [])) := fun D hD => by
    rw [hφr]
    simp only
    rw [if_neg (fun e => hlD (by rw [← e]; exact hD)), if_pos hD]
  have φo : ∀ q, q ≠ l → q ∉ Dn → φr q = g.φ q := fun q e1 e2 => by rw [hφr]; simp only; rw [if_neg e1, if_neg e2]
  have φg : ∀ q o, g.φ q = some o → φr q = some o := fun q o hq => by
    have e1 : q ≠ l := fun e => by rw [e, hl4.2.2.2.2.2] at hq; cases hq
    have e2 : q ∉ Dn := fun e => by rw [(hD4 q e).2.2.2.2.2] at hq; cases hq
    rw [φo q e1 e2]; exact hq
  obtain ⟨X', hX'⟩ : ∃ X' : Nat → Prop, ∀ q, X' q ↔ (q < W1.heap.size ∧ (∀ b, live sA.m b → g.ρ b ≠ q) ∧ q ≠ l ∧ q ∉ Dn ∧ g.φ q = none) := ⟨fun q => (q < W1.heap.size ∧ (∀ b, live sA.m b → g.ρ b ≠ q) ∧ q ≠ l ∧ q ∉ Dn ∧ g.φ q = none), fun q => Iff.rfl⟩
  have hXc : ∀ q, Xc q → X' q := fun q hq => (hX' q).2 ⟨hA.mo.b0 q hq, fun b hb he => own_not hA.mo hb (by rw [he]; exact hq), fun e => hl4.2.2.1 (e ▸ hq), fun e => (hD4 q e).2.2.1 hq, by
    cases hφ : g.φ q with
    | none => rfl
    | some o => exact absurd hq (hA.mo.fix q o hφ).2.1⟩
  have mr := hA.mo.seen φr (J' := JR x.J Xc X' St1 W1) (X' := X') ⟨fun _ => Iff.rfl, hA.mo.inv, Nat.le_refl _, fun _ _ => rfl, Evo.refl _ _, fun b o h => .inl h, hSt1⟩
    (JR.abides (fun i => hA.mo.ab i) hXc (fun q hq => ((hX' q).1 hq).1)) (fun q hq => ((hX' q).1 hq).1) (fun q o hq => by
      by_cases e1 : q = l
      · rw [e1, φl] at hq
        cases hq
        rw [e1]
        exact ⟨hl4.1, fun hx => ((hX' l).1 hx).2.2.1 rfl, hl4.2.2.2.2.1, fun b hb => hl4.2.2.2.1 b (hlive b hb)⟩
      · by_cases e2 : q ∈ Dn
        · rw [φD q e2] at hq
          cases hq
          have hd := hD4 q e2
          exact ⟨hd.1, fun hx => ((hX' q).1 hx).2.2.2.1 e2, hd.2.2.2.2.1, fun b hb => hd.2.2.2.1 b (hlive b hb)⟩
        · rw [φo q e1 e2] at hq
          obtain ⟨f1, f2, f3, f4⟩ := hA.mo.fix q o hq
          exact ⟨f1, fun hx => (by have := ((hX' q).1 hx).2.2.2.2; rw [this] at hq; cases hq), f3, f4⟩) (fun b hb hx => ((hX' _).1 hx).2.1 b hb rfl)
  obtain ⟨xr, hxr⟩ : ∃ xr : Cx, xr = { x with J := JR x.J Xc X' St1 W1, kp := kk, u := a.tmps, B := b + 6, xt := (xAt x b N cs (i + 1)).xt, r := some l, φ := φr } := ⟨_, rfl⟩
  have okr : ∀ φ', (∃ rec, φ' l = some (.loop rec)) → ({ xr with φ := φ' } : Cx).OK P := fun φ' hφ' => by
    subst hxr
    refine ⟨by show x.N ≤ b + 6; omega, fun p hp => ?_, fun l' hl' => ?_, fun sh k hk => ?_⟩
    · simp only [xAt, List.mem_cons] at hp
      show x.N ≤ p.1 ∧ p.1 < b + 6
      rcases hp with rfl | rfl | hp
      · exact ⟨by show x.N ≤ b; omega, by show b < b + 6; omega⟩
      · exact ⟨by show x.N ≤ b + 1; omega, by show b + 1 < b + 6; omega⟩
      · have := hx.xt p hp; omega
    · simp at hl'
      subst hl'
      exact hφ'
    · have : x.lg = some (sh, k) := hk
      rw [hlgx] at this
      cases this
  have hR : FRx xr sA { tmps := foldT ps.toList xs a.tmps, defers := [] } W1 X' { g with φ := φr } St1 [] t1A t2A := by
    subst hxr
    refine ⟨rfl, List.nodup_nil, fun D hD => by simp at hD, hA.tt, hA.sz, fun i hi => ?_, hA.xt, hA.lg, hA.ly, fun q o hq => hq, mr, VRs.mono0 (Evo.refl _ _) (MExt0.same g { g with φ := φr } _ rfl rfl rfl rfl) _ _ hA.vr, fun q hq => by have hq : x.ld = some q := hq; rw [hldx] at hq; cases hq⟩
    exact foldT_other _ _ _ _ fun hm => (hps i hm).2 hi
  have hLr : xr.L = (x.N, kk, b + 6) := by rw [hxr]; rfl
  have hwill : ∀ φ' (m : List Blk), Will { xr with φ := φ' } m := fun φ' m sh k hk => by
    rw [hxr] at hk
    have : x.lg = some (sh, k) := hk
    rw [hlgx] at this
    cases this
  have hrr : xr.r = some l := by rw [hxr]
  refine ⟨fn, _, as, c, run_yield hl4.1 ?_, ?_⟩
  · have e1 := hpr.length
    have e2 := shape_pv sh pv hsh
    show xs.toArray.size = ps.size
    simp only [List.size_toArray]
    have : ps.size = ps.toList.length := by simp
    omega
  rw [show (recL fn a.tmps ps as c D .ready none).params = ps from rfl, show (recL fn a.tmps ps as c D .ready none).tmps = a.tmps from rfl, foldT_eq]
  refine roundIn_of_wpIn trivial ?_
  show as.wpIn (FW (some l)) 0 P _ _ _
  cases n with
  | zero => simp [exN] at hbd
  | succ n =>
    have up : ∀ {ac : ACode} {s : S} {r : Ext × S}, exN call n ac s = some r → exN call (n + 1) ac s = some r := fun h => exN_mono (CLe.refl _) (Nat.le_succ n) h
    rcases seq_inv hbd with ⟨sB, hb1, hb2⟩ | ⟨hne, hb1⟩
    · have hAs := ih xr as xa ks ks1 sA .normal sB _ W1 (by have := okr φr ⟨_, φl⟩; rw [hxr] at this ⊢; exact this) (fun _ => by rw [hxr]; exact ⟨hlgx, hldx⟩) (fun hl => absurd (show xr.ld = none by rw [hxr]; exact hldx) hl) (by rw [hLr]; exact hxa) (up hb1) (by have := hwill φr sB.m; rw [hxr] at this ⊢; exact this) ⟨_, _, _, _, _, _, hR⟩
      rw [hrr] at hAs
      refine wpIn_mono hAs fun ex a1 w1 hq => ?_
      cases ex with
      | normal =>
        obtain ⟨_, X2, g2, St2, Ds2, u1, u2, h2⟩ := hq
        have hφ2 : g2.φ l = some (.loop (recL fn a.tmps ps as c D .ready none)) := h2.φ l _ (by rw [hxr]; exact φl)
        obtain ⟨f1, _⟩ := h2.mo.fix l _ hφ2
        refine ⟨_, run_beginRound f1 rfl, ?_⟩
        have h3 := h2.turn hφ2 (recL fn a.tmps ps as c D .busy none)
        obtain ⟨xb, hxb⟩ : ∃ xb : Cx, xb = { xr with φ := updF xr.φ l (some (.loop (recL fn a.tmps ps as c D .busy none))) } := ⟨_, rfl⟩
        rw [← hxb] at h3
        have hBd := ih xb c ya ks1 ks2 sB e3 sC a1 _ (by rw [hxb]; exact okr _ ⟨recL fn a.tmps ps as c D .busy none, by simp [updF]⟩) (fun _ => by rw [hxb, hxr]; exact ⟨hlgx, hldx⟩) (fun hl => absurd (show xb.ld = none by rw [hxb, hxr]; exact hldx) hl) (by rw [show xb.L = xr.L by rw [hxb]; rfl, hLr]; exact hya) (up hb2) (by rw [hxb]; exact hwill _ _) ⟨_, _, _, _, _, _, h3⟩
        rw [show xb.r = some l by rw [hxb]; exact hrr] at hBd
        have back : ∀ a3 w3, FR xb sC a3 w3 → _ := fun a3 w3 hf => round_back (xr := xb) (r0 := recL fn a.tmps ps as c D .ready none) (rb := recL fn a.tmps ps as c D .busy none) (by omega) hkk h c1 c2 c3 c4 hX1 hlD hlive hA.mo.b0 hX' hXc (by rw [hxb, hxr]) (by rw [hxb, hxr]) (by rw [hxb, hxr]) (by rw [hxb, hxr]) (by rw [hxb, hxr]) (by rw [hxb, hxr]) (by rw [hxb, hxr]) hldx (by rw [hxb, hxr]; exact hldx) (by rw [hxb]; simp [updF]) (fun D hD => by
            rw [hxb, hxr]
            simp only [updF]
            rw [if_neg (fun e => hlD (by rw [← e]; exact hD))]
            exact φD D hD) (fun q o hq => by
            rw [hxb, hxr]
            simp only [updF]
            rw [if_neg (fun e => by rw [e, hl4.2.2.2.2.2] at hq; cases hq)]
            exact φg q o hq) hf
        refine wpIn_mono hBd fun ex a3 w3 hq => ?_
        cases ex with
        | normal =>
          obtain ⟨rfl, hf⟩ := hq
          obtain ⟨q1, q2⟩ := back a3 w3 hf
          obtain ⟨X4, St4, q3, q4⟩ := q2 (recL fn a.tmps ps as c D .ready none)
          exact ⟨_, _, run_endRound none q1, .inl ⟨rfl, rfl, X4, St4, q3, q4⟩⟩
        | exit j =>
          obtain ⟨rfl, hj, hf⟩ := hq
          obtain ⟨q1, q2⟩ := back a3 w3 hf
          obtain ⟨X4, St4, q3, q4⟩ := q2 (recL fn a.tmps ps as c D .done (some (.exit j)))
          exact ⟨_, _, run_endRound (some (.exit j)) q1, .inr ⟨.inl ⟨j, rfl, hj⟩, rfl, X4, St4, q3, q4⟩⟩
        | ret =>
          obtain ⟨rfl, hf⟩ := hq
          obtain ⟨q1, q2⟩ := back a3 w3 hf
          obtain ⟨X4, St4, q3, q4⟩ := q2 (recL fn a.tmps ps as c D .done (some .ret))
          exact ⟨_, _, run_endRound (some .ret) q1, .inr ⟨.inr rfl, rfl, X4, St4, q3, q4⟩⟩
        | goto _ => exact hq.elim
        | panic _ => exact hq.elim
        | outgrown => exact hq.elim
      | exit _ => cases hq.1
      | ret => cases hq.1
      | goto _ => exact hq.elim
      | panic _ => exact hq.elim
      | outgrown => exact hq.elim
    · exact absurd (plain_normal hpl hxa hb1) hne
end Gv
namespace Gv
open Go Go.RowKit
variable {P : Program} {call : CallT}
theorem and_abides {J : JT} (h : Abides J) (p : Prop) : Abides (fun X St w => J X St w ∧ p) := fun X St St' w w' row hs hg hr ev hl hn => ⟨h X St St' w w' row hs.1 hg hr ev hl hn, hs.2⟩
theorem enter_loop {r : Option Nat} {w : World} (hr : ∀ l, r = some l → ∃ rec, w.heap[l]? = some (.loop rec)) (fn : FuncId) (T : Array Value) (ps : Array Tmp) (as c : Code) :
    ∃ l D Dn w1, (Instr.enterLoop fn T ps as c r).run P w = .ok (l, marks Dn) w1 ∧ Dn.Nodup ∧ l ∉ Dn ∧ w.heap.size ≤ l ∧ (∀ d ∈ Dn, w.heap.size ≤ d) ∧ Below w.heap.size w w1 ∧
      ∀ p ∈ spL l (recL fn T ps as c D .ready none) Dn, w1.heap[p.1]? = some p.2 := by
  cases r with
  | none =>
    refine ⟨w.heap.size + 1, w.heap.size, [w.heap.size], _, run_enterLoop_outer fn T ps as c, by simp, by simp, by omega, by simp, ?_, ?_⟩
    · exact ((Below.refl _ w).alloc (Nat.le_refl _) _).alloc (by simp) _
    · intro p hp
      simp only [spL, List.map_cons, List.map_nil, List.mem_cons, List.not_mem_nil, or_false] at hp
      rcases hp with rfl | rfl
      · have := World.alloc_heap_new (w.alloc (.deferred (some []))) (.loop (recL fn T ps as c w.heap.size .ready none))
        rwa [World.size_alloc] at this
      · exact (Below.heap_alloc _ _ _ (by simp)).trans (World.alloc_heap_new w _)
  | some l0 =>
    obtain ⟨rec, hrec⟩ := hr l0 rfl
    refine ⟨w.heap.size, rec.defers, [], _, run_enterLoop_inner hrec fn T ps as c, by simp, by simp, Nat.le_refl _, by simp, ?_, ?_⟩
    · exact (Below.refl _ w).alloc (Nat.le_refl _) _
    · intro p hp
      simp only [spL, List.map_nil, List.mem_cons, List.not_mem_nil, or_false] at hp
      subst hp
      exact World.alloc_heap_new w _
theorem CI.leave {x : Cx} {s : S} {a : Act} {l : Nat} {r : Loop} {Dn : List Nat} {X : Nat → Prop} {St : Nat → Nat → Prop} {w : World} (h : CI x s a (spL l r Dn) X St w) (hnd : Dn.Nodup) (hlD : l ∉ Dn) (r' : Loop) :
    FR x s { a with defers := marks Dn ++ a.defers } (w.putObj l (.loop r')) := by
  obtain ⟨Xc, g, Ds, t1, t2, h, c1, c2, c3, c4⟩ := h
  have hl4 := c4 (l, .loop r) (by simp [spL])
  have hD4 : ∀ D ∈ Dn, _ := fun D hD => c4 (D, .deferred (some [])) (by simp [spL, hD])
  obtain ⟨φ4, hφ4⟩ : ∃ φ4 : Nat → Option Obj, φ4 = fun q => if q ∈ Dn then some (.deferred (some [])) else g.φ q := ⟨_, rfl⟩
  have φD : ∀ D ∈ Dn, φ4 D = some (.deferred (some [])) := fun D hD => by rw [hφ4]; simp [hD]
  have φo : ∀ q, q ∉ Dn → φ4 q = g.φ q := fun q hq => by rw [hφ4]; simp [hq]
  have φg : ∀ q o, g.φ q = some o → φ4 q = some o := fun q o hq => by
    rw [φo q (fun e => by rw [(hD4 q e).2.2.2.2.2] at hq; cases hq)]; exact hq
  have m1 := h.mo.seen φ4 (J' := x.J) (X' := Xc) h.mo.inv h.mo.ab h.mo.b0 (fun q o hq => by
    by_cases e : q ∈ Dn
    · rw [φD q e] at hq
      cases hq
      have hd := hD4 q e
      exact ⟨hd.1, hd.2.2.1, hd.2.2.2.2.1, hd.2.2.2.1⟩
    · rw [φo q e] at hq
      exact h.mo.fix q o hq) (fun b hb => own_not h.mo hb)
  have hsz : (w.putObj l (.loop r')).heap.size = w.heap.size := World.putObj_size
  have ev : Evo St w St (w.putObj l (.loop r')) := fun b o hs => ⟨hs, World.cell?_of_block (World.putObj_heap_other (fun e => hl4.2.2.2.2.1 o (e ▸ hs)))⟩
  have m2 := m1.abide (grownBy_putObj' w l (.loop r')) (fun q e => by cases e; exact ⟨hl4.2.2.1, hl4.2.2.2.1, by show φ4 l = none; rw [φo l hlD]; exact hl4.2.2.2.2.2⟩) ev (fun b o hs => by rw [hsz]; exact h.mo.stLt b o hs) (fun b o hs => .inl hs)
  refine ⟨Xc, { g with φ := φ4 }, St, Dn ++ Ds, t1, t2, ⟨?_, ?_, fun D hD => ?_, h.tt, h.sz, h.kp, h.xt, h.lg, h.ly, fun q o hq => φg q o (h.φ q o hq), m2, VRs.mono0 ev (MExt0.same g { g with φ := φ4 } _ rfl rfl rfl rfl) _ _ h.vr, fun q hq b hb => (h.kx q hq b hb).same rfl rfl rfl⟩⟩
  · show marks Dn ++ a.defers = _
    rw [h.df]
    simp [marks]
  · rw [List.nodup_append]
    refine ⟨hnd, h.nd, fun d hd e he heq => ?_⟩
    subst heq
    have h1 := h.fx d he
    rw [(hD4 d hd).2.2.2.2.2] at h1
    cases h1
  · rcases List.mem_append.1 hD with hD | hD
    · exact φD D hD
    · exact φg D _ (h.fx D hD)
theorem row_take {cs : List PV} {m n i : Nat} (h : i < m) : ((cs.take (m * n)).drop (i * n)).take n = (cs.drop (i * n)).take n := by
  rw [List.drop_take, List.take_take]
  congr 1
  have : (i + 1) * n ≤ m * n := Nat.mul_le_mul_right _ h
  rw [Nat.add_mul, Nat.one_mul] at this
  omega
theorem run_rangeCall {a : Act} {f : Operand} {gf l : Nat} {uc : List Value} {w : World} (hf : a.eval f = .func (.func gf) #[] uc.toArray) (he : Enters P gf) :
    (resolve a.eval (rangeCall f l) 0).run P w = .ok { target := .fn (.func gf) uc.toArray, args := #[.func (.yield l) #[] #[]] } w ∧
    (invoke (.fn (.func gf) uc.toArray) #[.func (.yield l) #[] #[]]).run P w = .ok (.enter gf ((Value.func (.yield l) #[] #[] :: uc).toArray)) w := by
  obtain ⟨fn, h1, h2, h3⟩ := he
  have h4 : fn.body.isNone = false := by cases hb : fn.body <;> simp_all
  have h5 : (fn.name == "runtime.NumGoroutine") = false := by simpa using h3
  constructor
  · simp only [resolve, hf]
    simp [go_sem]
  · simp only [invoke, callFunc, run_program, h1, h5, h4, Bool.false_eq_true, if_false, Sem.run_bind, Result.andThen_ok]
    simp
theorem binA_bad (y : AV) : binA .lss 0 .bad y = none := by
  cases y <;> rfl
theorem test_len {b : Nat} {s sT : S} (h : exOps call (testOps b) s = some sT) : b + 1 < s.t.length := by
  have h0 : b < s.t.length := by
    by_cases hlt : b < s.t.length
    · exact hlt
    · exfalso
      have hn : s.t[b]? = none := List.getElem?_eq_none (by omega)
      simp [testOps, exOps, exOp, grd, runK, get_tmp, List.getD, hn, runL, asList] at h
  by_cases hlt : b + 1 < s.t.length
  · exact hlt
  · exfalso
    have hn : s.t[b + 1]? = none := List.getElem?_eq_none (by omega)
    simp only [testOps, exOps, exOp, grd, List.map_cons, List.map_nil, runK, Gv.put, get_tmp, List.getD] at h
    split at h <;> try (cases h; done)
    rename_i s1 hs1
    split at hs1 <;> try (cases hs1; done)
    simp at hs1
    subst hs1
    rw [List.getElem?_set, if_neg (by omega), hn] at h
    simp only [Option.getD_none, runL, binA_bad, Option.map_none] at h
    cases h
theorem round_len {m b : Nat} {ps : List Nat} {sh : List (Option Nat)} {ks : List Nat} {c : ACode} {s s3 : S} {e3 : Ext} (h : exN call m (roundA b ps sh ks c) s = some (e3, s3)) : b + 1 < s.t.length := by
  cases m with
  | zero => simp [exN] at h
  | succ m =>
    rcases seq_inv h with ⟨sT, h1, _⟩ | ⟨hne, h1⟩
    · exact test_len (ops_inv h1).2
    · exact absurd (ops_inv h1).1 hne
theorem norm_len (ks bs : List Nat) (s : S) : (norm ks bs s).t.length = s.t.length := by
  apply Nat.le_antisymm
  · by_cases h : (norm ks bs s).t.length ≤ s.t.length
    · exact h
    · exfalso
      have h1 := norm_t ks bs s s.t.length
      rw [List.getElem?_eq_none (l := s.t) (Nat.le_refl _)] at h1
      have := List.getElem?_eq_none_iff.1 h1
      omega
  · by_cases h : s.t.length ≤ (norm ks bs s).t.length
    · exact h
    · exfalso
      have h1 := norm_t ks bs s (norm ks bs s).t.length
      rw [List.getElem?_eq_none (l := (norm ks bs s).t) (Nat.le_refl _), List.getElem?_eq_getElem (l := s.t) (by omega)] at h1
      cases h1
theorem range_sound {fr : List Nat} {n : Nat} (hcall : CallOK P call) (ih : Less P call fr n) {x : Cx} (hx : x.OK P) (hlgx : x.lg = none) (hldx : x.ld = none) {f : Operand} {ps : Array Tmp} {as c : Code} {ks0 ks' : List (List Nat × List Nat)} {ac : ACode} {s s' : S} {e : Ext} {a : Act} {w : World}
    (hc : codeC P x.L fr (.rangeFunc f ps as c) ks0 = some (ac, ks')) (he : exN call (n + 1) ac s = some (e, s')) (h : FR x s a w) : (Code.rangeFunc f ps as c).wpIn (FW x.r) 0 P (QE x e s') a w := by
  cases ks0 with
  | nil => simp [codeC] at hc
  | cons k ks =>
  simp only [codeC] at hc
  split at hc <;> try (cases hc; done)
  rename_i fa b r' hfa hk2
  split at hc <;> try (cases hc; done)
  rename_i hcnd
  obtain ⟨hpl, hB, hrl, hk1, hps⟩ := hcnd
  split at hc <;> try (cases hc; done)
  rename_i xa ks1 hxa
  split at hc <;> try (cases hc; done)
  rename_i ya ks2 hya
  simp only [Option.some.injEq, Prod.mk.injEq] at hc
  obtain ⟨rfl, rfl⟩ := hc
  obtain ⟨sh, hsh⟩ : ∃ sh, sh = (r'.take ps.size).map shOf1 := ⟨_, rfl⟩
  obtain ⟨bs, hbs⟩ : ∃ bs, bs = r'.drop ps.size := ⟨_, rfl⟩
  rw [← hsh, ← hbs] at he
  have hshl : ps.toList.length = sh.length := by rw [hsh]; simp; omega
  obtain ⟨kk, hkk0⟩ : ∃ kk, kk = k.1 := ⟨_, rfl⟩
  rw [← hkk0] at he hk1 hps hxa hya
  have hkk : ∀ i ∈ kk, i < x.N := fun i hi => of_decide_eq_true (List.all_eq_true.1 hk1 i hi)
  have hps' : ∀ p ∈ ps.toList, p < x.N ∧ p ∉ kk := fun p hp => by
    have := List.all_eq_true.1 hps p hp
    simp only [Bool.and_eq_true] at this
    exact ⟨of_decide_eq_true this.1, by simpa using this.2⟩
  have hB : x.B ≤ b := hB
  have hNB := hx.nb
  unfold rangeA at he
  rcases seq_inv he with ⟨s1, h1, h2⟩ | ⟨hne, h1⟩
  case inr => exact absurd (ops_inv h1).1 hne
  obtain ⟨gf, caps, N, cs, hfv, hcl, rfl⟩ := start_inv hcall (ops_inv h1).2
  obtain ⟨N', cs', e1, hbig, hcs, hen, hit⟩ := hcall.it gf sh caps _ hcl
  simp only [RV.val.injEq, PV.list.injEq] at e1
  obtain ⟨rfl, rfl⟩ := e1
  obtain ⟨n1, rfl, e2, s2, hl, hblk⟩ := block_inv h2
  obtain ⟨hne, K, q, hq0, hqn, hqK⟩ := loop_inv hl
  have up : ∀ {ac : ACode} {s : S} {r : Ext × S}, exN call n1 ac s = some r → exN call (n1 + 1) ac s = some r := fun h => exN_mono (CLe.refl _) (Nat.le_succ n1) h
  obtain ⟨X, g, St, Ds, t1, t2, h⟩ := h
  have hlen : t1.length = x.L.1 := h.len
  have hfn := arg_sound (t2 := t2) hfa hlen h.vr
  rw [← h.tt, hfv] at hfn
  simp only [VR, PR] at hfn
  obtain ⟨uc, huc, hpc⟩ := hfn
  refine wpIn_rangeFunc fun fn _ => ?_
  obtain ⟨l, D, Dn, w1, hent, hnd, hlD, hll, hDl, hbel, hsp⟩ := enter_loop (P := P) (r := x.r) (w := w) (fun l hl => by
    obtain ⟨rec, hrec⟩ := hx.rd l hl
    exact ⟨rec, (h.mo.fix l _ (h.φ l _ hrec)).1⟩) fn a.tmps ps as c
  obtain ⟨hr1, hr2⟩ := run_rangeCall (P := P) (l := l) (w := w1) huc hen
  refine ⟨l, marks Dn, w1, _, w1, gf, _, w1, hent, hr1, fun _ _ => trivial, hr2, (fun h => by cases h), ?_⟩
  obtain ⟨m1, ev1⟩ := h.mo.grow (St' := St) hbel (fun _ _ hs => hs) (fun b o hs => Nat.lt_of_lt_of_le (h.mo.stLt b o hs) hbel.size) (fun _ _ hs => .inl hs)
  obtain ⟨rd, hrd⟩ : ∃ rd : LoopState → Option Code → Loop, rd = recL fn a.tmps ps as c D := ⟨_, rfl⟩
  obtain ⟨𝒥, h𝒥⟩ : ∃ 𝒥 : Nat → JT, 𝒥 = fun i => if i ≤ K then CI (xAt x b N cs i) (q i) a (spL l (rd .ready none) Dn) else fun X St w => CI (xAt x b N cs i) s2 a (spL l (rd .done (some (jumpOf e2))) Dn) X St w ∧ Left e2 := ⟨_, rfl⟩
  have hab : ∀ i, Abides (𝒥 i) := fun i => by
    rw [h𝒥]
    simp only
    split
    · exact CI.abides _ _ _ _
    · exact and_abides (CI.abides _ _ _ _) _
  have hJle : ∀ {i X St w}, i ≤ K → (𝒥 i X St w ↔ CI (xAt x b N cs i) (q i) a (spL l (rd .ready none) Dn) X St w) := fun {i X St w} hi => by rw [h𝒥]; simp only; rw [if_pos hi]
  have hJgt : ∀ {i X St w}, ¬ i ≤ K → (𝒥 i X St w ↔ CI (xAt x b N cs i) s2 a (spL l (rd .done (some (jumpOf e2))) Dn) X St w ∧ Left e2) := fun {i X St w} hi => by rw [h𝒥]; simp only; rw [if_neg hi]
  have hlt1 : b + 1 < s.t.length := by
    have : ∃ e3 s3, exN call n1 (roundA b ps.toList sh kk (.seq xa ya)) (norm (b :: (b + 1) :: kk) bs (q 0)) = some (e3, s3) := by
      by_cases h0 : 0 < K
      · exact ⟨_, _, hqn 0 h0⟩
      · have : K = 0 := by omega
        subst this
        exact ⟨_, _, hqK⟩
    obtain ⟨e3, s3, hr⟩ := this
    have h1 := round_len hr
    rw [norm_len, hq0] at h1
    simpa using h1
  have hstart : 𝒥 0 (fun q => q < w1.heap.size) St w1 := by
    rw [hJle (Nat.zero_le _), hq0]
    have far : ∀ d, b ≤ d → ∀ p ∈ x.xt, p.1 ≠ d := fun d hd p hp => by have := (hx.xt p hp).2; omega
    have f0 : FRx x s a w1 X g St Ds t1 t2 := { h with mo := m1, vr := VRs.mono ev1 (MExt.refl _ _) _ _ h.vr }
    have f1 := (f0.put2 (d := b) (v := .p (.list N cs)) (by omega) (far _ (by omega))).put2 (d := b + 1) (v := .p (.int .i64 0)) (by omega) (far _ (by omega))
    refine ⟨X, g, Ds, _, _, f1.sub rfl rfl rfl rfl h.kp (fun p hp => ?_) rfl, fun q hq => m1.b0 q hq, fun b hb => m1.lt hb, fun q o hq => heap_lt (m1.fix q o hq).1, fun p hp => ?_⟩
    · simp only [xAt, List.mem_cons] at hp
      rcases hp with rfl | rfl | hp
      · left
        show ((s.t.set b _).set (b + 1) _)[b]? = _
        rw [List.getElem?_set, if_neg (by omega), List.getElem?_set, if_pos rfl, if_pos (by omega)]
      · left
        show ((s.t.set b _).set (b + 1) _)[b + 1]? = _
        rw [List.getElem?_set, if_pos rfl, if_pos (by simp; omega)]
        rfl
      · exact f1.xt p hp
    · have hlt : w.heap.size ≤ p.1 := by
        simp only [spL, List.mem_cons, List.mem_map] at hp
        rcases hp with rfl | ⟨d, hd, rfl⟩
        · exact hll
        · exact hDl d hd
      refine ⟨by rw [hrd] at hp; exact hsp p hp, heap_lt (by rw [hrd] at hp; exact hsp p hp), fun hx => by have := h.mo.b0 _ hx; omega, fun b hb he => by have := h.mo.lt hb; omega, fun j hj => by have := h.mo.stLt _ _ hj; omega, ?_⟩
      cases hφ : g.φ p.1 with
      | none => rfl
      | some o => have := heap_lt (h.mo.fix _ o hφ).1; omega
  have hit := hit (min K N) (Nat.min_le_right _ _) l 𝒥 (fun q => q < w1.heap.size) St w1 uc hab (fun _ => Iff.rfl) m1.stLt (PRs.mono ev1 _ _ hpc) (fun i X1 St1 W1 pv xs hi hJi hX1 hSt1 hshp hflp hprp => ?_) hstart
  · refine callsFW (hit.mono fun ee w3 hp => ?_)
    obtain ⟨v, X3, St3, rfl, hJ3, _⟩ := hp
    by_cases hKN : K < N
    · have e1 : min (min K N + 1) N = K + 1 := by omega
      rw [e1, hJgt (by omega)] at hJ3
      obtain ⟨hci, hleft⟩ := hJ3
      obtain ⟨Xc, gg, Dz, u1, u2, hfx, hc1, hc2, hc3, hc4⟩ := hci
      have hl4 := hc4 (l, .loop (rd .done (some (jumpOf e2)))) (by simp [spL])
      have hlv := CI.leave (x := x) (CI.weak ⟨Xc, gg, Dz, u1, u2, hfx, hc1, hc2, hc3, hc4⟩) hnd hlD { rd .done (some (jumpOf e2)) with state := .exhausted }
      subst hrd
      have hel := run_endLoop (P := P) hl4.1 (by simp [recL])
      refine ⟨some (jumpOf e2), _, hel, ?_⟩
      simp only
      rcases hleft with ⟨j, rfl, hj⟩ | rfl
      · rcases hblk with ⟨hx1 | hx1, _⟩ | ⟨_, _, rfl, rfl⟩
        · cases hx1
        · simp at hx1; omega
        · exact wpIn_exit ⟨rfl, hj, hlv⟩
      · rcases hblk with ⟨hx1 | hx1, _⟩ | ⟨_, _, rfl, rfl⟩
        · cases hx1
        · cases hx1
        · exact wpIn_ret ⟨rfl, hlv⟩
    · have e1 : min (min K N + 1) N = N := by omega
      rw [e1, hJle (by omega)] at hJ3
      obtain ⟨Xc, gg, Dz, u1, u2, hfx, hc1, hc2, hc3, hc4⟩ := hJ3
      have hl4 := hc4 (l, .loop (rd .ready none)) (by simp [spL])
      have hn0 := hfx.norm (b :: (b + 1) :: kk) bs (fun hl => absurd hldx hl)
      have hxb := hn0.xt (b, .list N cs) (by simp [xAt])
      have hxi := hn0.xt (b + 1, .int .i64 (N : Int)) (by simp [xAt])
      have far : ∀ d, b ≤ d → ∀ p ∈ x.xt, p.1 ≠ d := fun d hd p hp => by have := (hx.xt p hp).2; omega
      have fin : ∀ e3 s3, exN call n1 (roundA b ps.toList sh kk (.seq xa ya)) (norm (b :: (b + 1) :: kk) bs (q N)) = some (e3, s3) → e3 = .exit (3000000 + b) ∧ s3 = ⟨((norm (b :: (b + 1) :: kk) bs (q N)).t.set (b + 2) (.p (.int .i64 N))).set (b + 3) (.p (.bool (decide ((N : Int) < N)))), (norm (b :: (b + 1) :: kk) bs (q N)).m⟩ := fun e3 s3 hr => by
        obtain ⟨_, _, ⟨_, he3, hs3⟩ | ⟨hlt, _⟩⟩ := round_inv (b := b) (N := N) (cs := cs) (i := N) hxb hxi hr
        · exact ⟨he3, hs3⟩
        · omega
      have hKe : K = N := by
        by_cases hlt : N < K
        · have := (fin _ _ (hqn N hlt)).1
          cases this
        · omega
      subst hKe
      obtain ⟨rfl, rfl⟩ := fin _ _ hqK
      have hci2 : CI x ⟨((norm (b :: (b + 1) :: kk) bs (q K)).t.set (b + 2) (.p (.int .i64 K))).set (b + 3) (.p (.bool (decide ((K : Int) < K)))), (norm (b :: (b + 1) :: kk) bs (q K)).m⟩ a (spL l (rd .ready none) Dn) X3 St3 w3 := by
        have f1 : FRx x (norm (b :: (b + 1) :: kk) bs (q K)) a w3 Xc gg St3 Dz _ _ := hn0.sub rfl rfl rfl rfl hfx.kp (fun p hp => hn0.xt p (by simp [xAt, hp])) rfl
        have f2 := (f1.put2 (d := b + 2) (v := .p (.int .i64 K)) (by omega) (far _ (by omega))).put2 (d := b + 3) (v := .p (.bool (decide ((K : Int) < K)))) (by omega) (far _ (by omega))
        exact ⟨Xc, gg, Dz, _, _, f2, hc1, fun b hb => hc2 b (live_norm hb), hc3, fun p hp => by
          obtain ⟨d1, d2, d3, d4, d5, d6⟩ := hc4 p hp
          exact ⟨d1, d2, d3, fun b hb => d4 b (live_norm hb), d5, d6⟩⟩
      have hlv := hci2.leave hnd hlD { rd .ready none with state := .exhausted }
      subst hrd
      have hel := run_endLoop (P := P) hl4.1 (by simp [recL])
      refine ⟨none, _, hel, ?_⟩
      simp only
      rcases hblk with ⟨_, rfl, rfl⟩ | ⟨_, hx2, _⟩
      · exact ⟨rfl, hlv.norm kk [] (fun hl => absurd hldx hl)⟩
      · exact absurd rfl hx2
  ·
    have hiK : i ≤ K := by omega
    have hiN : i < N := by omega
    rw [hJle hiK] at hJi
    rw [row_take hi] at hflp
    have run : ∃ e3 s3, exN call (n1 + 1) (roundA b ps.toList sh kk (.seq xa ya)) (norm (b :: (b + 1) :: kk) bs (q i)) = some (e3, s3) ∧ ((i < K ∧ e3 = .normal ∧ s3 = q (i + 1)) ∨ (i = K ∧ e3 = e2 ∧ s3 = s2)) := by
      by_cases hlt : i < K
      · exact ⟨_, _, up (hqn i hlt), .inl ⟨hlt, rfl, rfl⟩⟩
      · have : i = K := by omega
        subst this
        exact ⟨_, _, up hqK, .inr ⟨rfl, rfl, rfl⟩⟩
    obtain ⟨e3, s3, hrun, hcase⟩ := run
    rw [hrd] at hJi
    have hrs := round_sound hx hlgx hldx ih hB hbig hcs hps' hkk hshl hpl hxa hya hlD hrun hJi hX1 hSt1 hiN hshp hflp hprp
    obtain ⟨fn', tm, as', c', hy, hround⟩ := hrs
    refine ⟨fn', tm, as', c', hy, hround.mono fun e' W' hp => ?_⟩
    rcases hcase with ⟨hlt, rfl, rfl⟩ | ⟨rfl, rfl, rfl⟩
    · rcases hp with ⟨_, rfl, X4, St4, hci, hys⟩ | ⟨hleft, _⟩
      · refine ⟨?_, X4, St4, ?_, hys⟩
        · have : (i != min K N) = true := by simp; omega
          rw [this]
        · rw [hJle (by omega), hrd]
          exact hci
      · rcases hleft with ⟨j, hj, _⟩ | hj <;> cases hj
    · rcases hp with ⟨hno, _⟩ | ⟨hleft, rfl, X4, St4, hci, hys⟩
      · exact absurd hno hne
      · refine ⟨?_, X4, St4, ?_, hys⟩
        · have : (i != min i N) = false := by simp; omega
          rw [this]
        · rw [hJgt (by omega), hrd]
          exact ⟨hci, hleft⟩
end Gv
namespace Gv
open Go Go.RowKit
variable {P : Program} {call : CallT}
theorem exists_least {p : Nat → Prop} : ∀ n, p n → ∃ n, p n ∧ ∀ m, p m → n ≤ m := by
  intro n
  induction n using Nat.strongRecOn with
  | _ n ih =>
    intro h
    by_cases hm : ∃ m, m < n ∧ p m
    · obtain ⟨m, h1, h2⟩ := hm
      exact ih m h1 h2
    · exact ⟨n, h, fun m hp => by
        by_cases hlt : m < n
        · exact absurd ⟨m, hlt, hp⟩ hm
        · omega⟩
open Classical in
noncomputable def least (p : Nat → Prop) : Nat := if h : ∃ n, p n ∧ ∀ m, p m → n ≤ m then h.choose else 0
theorem least_spec {p : Nat → Prop} (h : ∃ n, p n) : p (least p) ∧ ∀ m, p m → least p ≤ m := by
  obtain ⟨n, hn⟩ := h
  have hl := exists_least n hn
  unfold least
  rw [dif_pos hl]
  exact hl.choose_spec
theorem loop_sound {x : Cx} {n : Nat} {c : Code} {ac : ACode} {kl bl : List Nat} {e : Ext} {s' : S} {Q : Exit → Act → World → Prop} (hQ : Q = QE x e s') (hw : Will x s'.m) (hbl : x.ld ≠ none → okS x.N bl = true)
    (ih : ∀ (s : S) (e1 : Ext) (s1 : S) (a : Act) (w : World), exN call n ac s = some (e1, s1) → Will x s1.m → FR x s a w → c.wpIn (FW x.r) 0 P (QE x e1 s1) a w) {s : S} {a : Act} {w : World}
    (he : exN call (n + 1) (.loop kl bl ac) s = some (e, s')) (h : FR x s a w) : (Code.loop c).wpIn (FW x.r) 0 P Q a w := by
  subst hQ
  let R : Act → World → Nat → Prop := fun a w m => m ≤ n + 1 ∧ ∃ s, exN call m (.loop kl bl ac) s = some (e, s') ∧ FR x s a w
  let μ : Act → World → Nat := fun a w => least (R a w)
  refine wpIn_loop (fun a w => ∃ m, R a w m) μ ⟨n + 1, Nat.le_refl _, s, he, h⟩ fun a w hI => ?_
  obtain ⟨⟨hle, s, he, h⟩, hmin⟩ := least_spec hI
  have hle : μ a w ≤ n + 1 := hle
  have he : exN call (μ a w) (.loop kl bl ac) s = some (e, s') := he
  obtain ⟨m, hm⟩ : ∃ m, μ a w = m + 1 := by
    cases hmm : μ a w with
    | zero => rw [hmm] at he; simp [exN] at he
    | succ m => exact ⟨m, rfl⟩
  rw [hm] at he hle
  simp only [exN] at he
  cases hx : exN call m ac (norm kl bl s) with
  | none => rw [hx] at he; cases he
  | some r =>
    obtain ⟨e1, s1⟩ := r
    rw [hx] at he
    have hx' := exN_mono (c' := call) (CLe.refl _) (show m ≤ n by omega) hx
    have fin : ∀ (hne : e1 ≠ .normal), e1 = e ∧ s1 = s' := fun hne => by
      cases e1 with
      | normal => exact absurd rfl hne
      | exit i => simpa using he
      | ret => simpa using he
    have hw1 : Will x s1.m := by
      by_cases hn : e1 = .normal
      · subst hn
        exact hw.back (exN_log he)
      · obtain ⟨_, rfl⟩ := fin hn
        exact hw
    refine wpIn_mono (ih _ e1 s1 a w hx' hw1 (h.norm kl bl hbl)) fun ex a' w' hq => ?_
    cases ex with
    | normal =>
      obtain ⟨rfl, hf⟩ := hq
      have hR : R a' w' m := ⟨by omega, s1, he, hf⟩
      have hE : ∃ m, R a' w' m := ⟨m, hR⟩
      refine ⟨hE, ?_⟩
      rw [hm]
      exact Nat.lt_succ_of_le ((least_spec hE).2 m hR)
    | exit i =>
      obtain ⟨rfl, hi, hf⟩ := hq
      obtain ⟨rfl, rfl⟩ := fin (by simp)
      exact ⟨rfl, hi, hf⟩
    | ret =>
      obtain ⟨rfl, hf⟩ := hq
      obtain ⟨rfl, rfl⟩ := fin (by simp)
      exact ⟨rfl, hf⟩
    | goto _ => exact hq.elim
    | panic _ => exact hq.elim
    | outgrown => exact hq.elim
theorem code_sound (fr : List Nat) (hm : P.follows .mixedOrders = true) (hcall : CallOK P call) : ∀ (n : Nat),
    (∀ (x : Cx) (c : Code) (ac : ACode) (ks ks' : List (List Nat × List Nat)) (s : S) (e : Ext) (s' : S) (a : Act) (w : World), x.OK P → (hasRange c = true → x.lg = none ∧ x.ld = none) → (x.ld ≠ none → bsOK x.N ac = true) → codeC P x.L fr c ks = some (ac, ks') → exN call n ac s = some (e, s') → Will x s'.m → FR x s a w → c.wpIn (FW x.r) 0 P (QE x e s') a w)
  | 0 => fun _ _ _ _ _ _ _ _ _ _ _ _ _ _ he _ _ => by simp [exN] at he
  | n + 1 => by
    have ihA := code_sound fr hm hcall n
    intro xx c ac ks ks' s e s' a w hxx hrf hbo hc he hw h
    cases c with
    | skip =>
      simp [codeC] at hc
      obtain ⟨rfl, rfl⟩ := hc
      simp [exN] at he
      obtain ⟨rfl, rfl⟩ := he
      exact wpIn_skip ⟨rfl, h⟩
    | region id ops dr =>
      simp only [codeC] at hc
      split at hc
      · rename_i l hl
        simp at hc
        obtain ⟨rfl, rfl⟩ := hc
        cases hg : gupL fr id with
        | nil =>
          simp only [gup, hg, exN] at he
          split at he
          · rename_i s1 hs1
            simp at he
            obtain ⟨rfl, rfl⟩ := he
            exact region_sound hxx hm hcall hl hs1 hw h fun a w hf => ⟨rfl, hf⟩
          · cases he
        | cons b bs =>
          have he' : exN call (n + 1) (.rnd (List.range (xx.L.1 + 60)) (b :: bs) (.ops l)) s = some (e, s') := by simpa only [gup, hg] using he
          obtain ⟨n', _, s1, h1, rfl⟩ := rnd_inv he'
          have hbk : xx.ld ≠ none → okS xx.N (b :: bs) = true := fun hl => by
            have := hbo hl
            simp only [gup, hg, bsOK, Bool.and_eq_true] at this
            exact this.1
          cases n' with
          | zero => simp [exN] at h1
          | succ m =>
            simp only [exN] at h1
            split at h1
            · rename_i s2 hs2
              simp at h1
              obtain ⟨rfl, rfl⟩ := h1
              have hr : (Code.region id ops dr).wpIn (FW xx.r) 0 P (QE xx .normal s2) a w := region_sound hxx hm hcall hl hs2 (hw.back (norm_log _ _ _)) h fun a w hf => ⟨rfl, hf⟩
              refine wpIn_mono hr fun ex a' w' hq => ?_
              cases ex with
              | normal => exact ⟨rfl, hq.2.norm _ _ hbk⟩
              | exit i => cases hq.1
              | ret => cases hq.1
              | goto _ => exact hq.elim
              | panic _ => exact hq.elim
              | outgrown => exact hq.elim
            · cases h1
      · simp at hc
        obtain ⟨rfl, rfl⟩ := hc
        simp [exN, stuckL, exOps, exOp, grd, runK, runL] at he
    | seq x y =>
      match ks with
      | [] => simp [codeC] at hc
      | [_] => simp [codeC] at hc
      | k :: k' :: ks =>
      simp only [codeC] at hc
      split at hc
      · rename_i ax ks1 hx
        split at hc
        · rename_i ay ks2 hy
          simp at hc
          obtain ⟨rfl, rfl⟩ := hc
          simp only [exN] at he
          have rfx : hasRange x = true → xx.lg = none ∧ xx.ld = none := fun h => hrf (by simp [hasRange, h])
          have rfy : hasRange y = true → xx.lg = none ∧ xx.ld = none := fun h => hrf (by simp [hasRange, h])
          have hby : xx.ld ≠ none → bsOK xx.N ay = true := fun hl => (bsOK_seq (hbo hl)).2
          have hbw : xx.ld ≠ none → bsOK xx.N (wrap (1000000 + ks.length) k k' ax) = true := fun hl => (bsOK_seq (hbo hl)).1
          have part : ∀ e1 s1, exN call n (wrap (1000000 + ks.length) k k' ax) s = some (e1, s1) → Will xx s1.m → x.wpIn (FW xx.r) 0 P (QE xx e1 s1) a w := by
            intro e1 s1 h1 hw1
            unfold wrap at h1 hbw
            cases hk : k'.2.contains 999999 with
            | true =>
              rw [hk] at h1 hbw
              exact ihA xx x ax ks ks1 s e1 s1 a w hxx rfx hbw hx h1 hw1 h
            | false =>
              rw [hk] at h1 hbw
              simp only [cond_false] at h1 hbw
              have hbi : xx.ld ≠ none → okS xx.N k.2 = true := fun hl => (bsOK_node (hbw hl)).1
              have hbk : xx.ld ≠ none → okS xx.N k'.2 = true := fun hl => (bsOK_node (hbw hl)).2.1
              have hbx : xx.ld ≠ none → bsOK xx.N ax = true := fun hl => (bsOK_node (hbw hl)).2.2
              cases n with
              | zero => simp [exN] at h1
              | succ n =>
                simp only [exN] at h1
                split at h1
                · rename_i s0 h0
                  simp at h1
                  obtain ⟨rfl, rfl⟩ := h1
                  have h0' := exN_mono (CLe.refl _) (Nat.le_succ n) h0
                  refine wpIn_mono (ihA xx x ax ks ks1 _ _ s0 a w hxx rfx hbx hx h0' (hw1.back (norm_log _ _ s0)) (h.norm k.1 k.2 hbi)) fun ex a' w' hq => ?_
                  cases ex with
                  | normal => exact ⟨rfl, hq.2.norm k'.1 k'.2 hbk⟩
                  | exit i => cases hq.1
                  | ret => cases hq.1
                  | goto _ => exact hq.elim
                  | panic _ => exact hq.elim
                  | outgrown => exact hq.elim
                · rename_i r hr
                  have h1' := exN_mono (c' := call) (CLe.refl _) (Nat.le_succ n) h1
                  exact ihA xx x ax ks ks1 _ _ s1 a w hxx rfx hbx hx h1' hw1 (h.norm k.1 k.2 hbi)
          split at he
          · rename_i s1 hs1
            refine wpIn_seq (wpIn_mono (part _ s1 hs1 (hw.back (exN_log he))) fun ex a' w' hq => ?_)
            cases ex with
            | normal => exact ihA xx y ay ks1 ks2 s1 e s' a' w' hxx rfy hby hy he hw hq.2
            | exit i => cases hq.1
            | ret => cases hq.1
            | goto _ => exact hq.elim
            | panic _ => exact hq.elim
            | outgrown => exact hq.elim
          · rename_i r hr
            cases hex : exN call n (wrap (1000000 + ks.length) k k' ax) s with
            | none => rw [hex] at he; cases he
            | some r =>
              obtain ⟨e1, s1⟩ := r
              rw [hex] at he
              simp at he
              obtain ⟨rfl, rfl⟩ := he
              refine wpIn_seq (wpIn_mono (part _ s1 hex hw) fun ex a' w' hq => ?_)
              cases ex with
              | normal =>
                have := hq.1
                subst this
                exact absurd hex (hr s1)
              | exit i => exact hq
              | ret => exact hq
              | goto _ => exact hq.elim
              | panic _ => exact hq.elim
              | outgrown => exact hq.elim
        · cases hc
      · cases hc
    | cond cv x y =>
      simp only [codeC] at hc
      split at hc
      · rename_i ar har
        split at hc
        · rename_i ax ks1 hx
          split at hc
          · rename_i ay ks2 hy
            simp at hc
            obtain ⟨rfl, rfl⟩ := hc
            have rfx : hasRange x = true → xx.lg = none ∧ xx.ld = none := fun h => hrf (by simp [hasRange, h])
            have rfy : hasRange y = true → xx.lg = none ∧ xx.ld = none := fun h => hrf (by simp [hasRange, h])
            have hh := h
            obtain ⟨X, g, St, Ds, t1, t2, h⟩ := h
            have hl : t1.length = xx.L.1 := h.len
            have hv := arg_sound (t2 := t2) har hl h.vr
            rw [← h.tt] at hv
            simp only [exN] at he
            split at he
            · rename_i hb
              rw [hb] at hv
              exact wpIn_cond_true hv.bool (ihA xx x ax ks ks1 s e s' a w hxx rfx (fun hl => (bsOK_cond (hbo hl)).1) hx he hw hh)
            · rename_i hb
              rw [hb] at hv
              exact wpIn_cond_false hv.bool (ihA xx y ay ks1 ks2 s e s' a w hxx rfy (fun hl => (bsOK_cond (hbo hl)).2) hy he hw hh)
            · cases he
          · cases hc
        · cases hc
      · cases hc
    | block id c =>
      cases ks with
      | nil => simp [codeC] at hc
      | cons k ks =>
      simp only [codeC] at hc
      split at hc
      · rename_i ax ks1 hx
        simp at hc
        obtain ⟨rfl, rfl⟩ := hc
        simp only [exN] at he
        split at he
        · rename_i i s1 hs1
          have hw1 : Will xx s1.m := by
            split at he
            · simp at he; rw [← he.2] at hw; exact hw.back (norm_log _ _ s1)
            · simp at he; rw [← he.2] at hw; exact hw
          refine wpIn_block (wpIn_mono (ihA xx c ax ks ks1 s _ s1 a w hxx hrf (fun hl => (bsOK_block (hbo hl)).2) hx hs1 hw1 h) fun ex a' w' hq => ?_)
          cases ex with
          | normal => cases hq.1
          | exit j =>
            have := hq.1
            simp at this
            subst this
            simp only [Exit.inBlock]
            split at he
            · simp at he
              obtain ⟨rfl, rfl⟩ := he
              rw [if_pos (by assumption)]
              exact ⟨rfl, hq.2.2.norm k.1 k.2 (fun hl => (bsOK_block (hbo hl)).1)⟩
            · simp at he
              obtain ⟨rfl, rfl⟩ := he
              rw [if_neg (by assumption)]
              exact ⟨rfl, hq.2⟩
          | ret => cases hq.1
          | goto _ => exact hq.elim
          | panic _ => exact hq.elim
          | outgrown => exact hq.elim
        · rename_i s1 hs1
          simp at he
          obtain ⟨rfl, rfl⟩ := he
          refine wpIn_block (wpIn_mono (ihA xx c ax ks ks1 s _ s1 a w hxx hrf (fun hl => (bsOK_block (hbo hl)).2) hx hs1 (hw.back (norm_log _ _ s1)) h) fun ex a' w' hq => ?_)
          cases ex with
          | normal => exact ⟨rfl, hq.2.norm k.1 k.2 (fun hl => (bsOK_block (hbo hl)).1)⟩
          | exit j => cases hq.1
          | ret => cases hq.1
          | goto _ => exact hq.elim
          | panic _ => exact hq.elim
          | outgrown => exact hq.elim
        · rename_i r hr hr2
          cases hex : exN call n ax s with
          | none => rw [hex] at he; cases he
          | some r =>
            obtain ⟨e1, s1⟩ := r
            rw [hex] at he
            simp at he
            obtain ⟨rfl, rfl⟩ := he
            refine wpIn_block (wpIn_mono (ihA xx c ax ks ks1 s _ s1 a w hxx hrf (fun hl => (bsOK_block (hbo hl)).2) hx hex hw h) fun ex a' w' hq => ?_)
            cases ex with
            | normal =>
              have := hq.1
              subst this
              exact absurd hex (hr2 s1)
            | exit j =>
              have := hq.1
              subst this
              exact absurd hex (hr j s1)
            | ret => exact hq
            | goto _ => exact hq.elim
            | panic _ => exact hq.elim
            | outgrown => exact hq.elim
      · cases hc
    | loop c =>
      cases ks with
      | nil => simp [codeC] at hc
      | cons k ks =>
        simp only [codeC] at hc
        split at hc
        · rename_i ax ks1 hx
          simp at hc
          obtain ⟨rfl, rfl⟩ := hc
          exact loop_sound rfl hw (fun hl => (bsOK_loop (hbo hl)).1) (fun s e1 s1 a w h1 hw1 hf => ihA xx c ax ks ks1 s e1 s1 a w hxx hrf (fun hl => (bsOK_loop (hbo hl)).2) hx h1 hw1 hf) he h
        · cases hc
    | exit id =>
      simp only [codeC] at hc
      split at hc <;> try (cases hc; done)
      rename_i hid
      simp at hc
      obtain ⟨rfl, rfl⟩ := hc
      simp [exN] at he
      obtain ⟨rfl, rfl⟩ := he
      exact wpIn_exit ⟨rfl, hid, h⟩
    | ret =>
      cases ks with
      | nil => simp [codeC] at hc
      | cons k ks =>
      simp [codeC] at hc
      obtain ⟨rfl, rfl⟩ := hc
      simp [exN] at he
      obtain ⟨rfl, rfl⟩ := he
      exact wpIn_ret ⟨rfl, h.norm k.1 k.2 (fun hl => bsOK_ret (hbo hl))⟩
    | rangeFunc f ps as c => exact range_sound hcall ihA hxx (hrf rfl).1 (hrf rfl).2 hc he h
    | scope _ => simp [codeC] at hc
    | label _ => simp [codeC] at hc
    | goto _ => simp [codeC] at hc
    | refuse _ => simp [codeC] at hc
end Gv
