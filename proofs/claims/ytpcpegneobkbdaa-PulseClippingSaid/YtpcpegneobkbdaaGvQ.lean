/- Code: what the abstract machine does with fuel, the model does. -/
import Derived.Test.YtpcpegneobkbdaaGvPm
namespace Gv
open Go Go.RowKit

variable {P : Program} {B0 : Nat} {St0 : Nat → Nat → Prop} {w0 : World} {call : Nat → List PV → Option RV}

/-! ### The head of a loop -/

theorem free_other : ∀ (bs : List Nat) (m : List Blk) (b : Nat), b ∉ bs → (freeB bs m)[b]? = m[b]?
  | [], m, b, _ => rfl
  | d :: bs, m, b, h => by
    simp only [freeB, List.foldl_cons]
    have := free_other bs (m.set d .none) b (fun hb => h (by simp [hb]))
    simp only [freeB] at this
    rw [this, set_other (fun e => h (by simp [e]))]

theorem free_none : ∀ (bs : List Nat) (m : List Blk) (b : Nat), m[b]? = some .none → (freeB bs m)[b]? = some .none
  | [], m, b, h => h
  | d :: bs, m, b, h => by
    simp only [freeB, List.foldl_cons]
    have := free_none bs (m.set d .none) b (by
      by_cases e : b = d
      · subst e; exact set_same h
      · rw [set_other e]; exact h)
    simpa only [freeB] using this

theorem free_in : ∀ (bs : List Nat) (m : List Blk) (b : Nat) (x : Blk), b ∈ bs → (freeB bs m)[b]? = some x → x = .none
  | d :: bs, m, b, x, h, hx => by
    simp only [freeB, List.foldl_cons] at hx
    by_cases e : b = d
    · subst e
      cases hm : m[b]? with
      | none =>
        by_cases hb : b ∈ bs
        · exact free_in bs _ b x hb (by simpa only [freeB] using hx)
        · have := free_other bs (m.set b .none) b hb
          simp only [freeB] at this
          rw [this, List.getElem?_set, if_pos rfl, if_neg (by
            intro hlt
            rw [List.getElem?_eq_getElem hlt] at hm
            cases hm)] at hx
          cases hx
      | some y =>
        have := free_none bs (m.set b .none) b (set_same hm)
        simp only [freeB] at this
        rw [this] at hx
        simp at hx
        exact hx.symm
    · have hb : b ∈ bs := by simpa [e] using h
      exact free_in bs _ b x hb (by simpa only [freeB] using hx)

theorem norm_get {bs : List Nat} {m : List Blk} {b : Nat} {x : Blk} (h : ((freeB bs m).map (scrubB bs))[b]? = some x) : x = .none ∨ (b ∉ bs ∧ ∃ y, m[b]? = some y ∧ x = scrubB bs y) := by
  rw [List.getElem?_map] at h
  cases hf : (freeB bs m)[b]? with
  | none => simp [hf] at h
  | some y =>
    simp [hf] at h
    by_cases hb : b ∈ bs
    · left
      have := free_in bs m b y hb hf
      subst this
      exact h.symm
    · right
      rw [free_other bs m b hb] at hf
      exact ⟨hb, y, hf, h.symm⟩

theorem norm_cells {bs : List Nat} {m : List Blk} {b : Nat} {wr : Bool} {cs : List AV} (hb : b ∉ bs) (h : m[b]? = some (.cells wr cs)) : ((freeB bs m).map (scrubB bs))[b]? = some (.cells wr (scrubs bs cs)) := by
  rw [List.getElem?_map, free_other bs m b hb, h]
  rfl
theorem norm_buf {bs : List Nat} {m : List Blk} {b n : Nat} (hb : b ∉ bs) (h : m[b]? = some (.buf n)) : ((freeB bs m).map (scrubB bs))[b]? = some (.buf n) := by
  rw [List.getElem?_map, free_other bs m b hb, h]
  rfl

mutual
theorem scrub_sound {g : G} {m : List Blk} {St : Nat → Nat → Prop} {w : World} (bs : List Nat) : ∀ (v : AV) (u : Value), VR g m St w v u → VR g ((freeB bs m).map (scrubB bs)) St w (scrub bs v) u
  | .p v, u, h => by simpa only [scrub, VR] using h
  | .nilS, u, h => by simpa only [scrub, VR] using h
  | .undef, u, h => by simpa only [scrub, VR] using h
  | .bad, u, h => by simp only [scrub, VR]
  | .lit n sz cs, u, h => by simpa only [scrub, VR] using h
  | .loc b o, u, h => by
    simp only [scrub]
    split
    · simp only [VR]
    · rename_i hb
      simp only [VR] at h ⊢
      obtain ⟨⟨wr, cs, hm⟩, rfl⟩ := h
      exact ⟨⟨wr, _, norm_cells (by simpa using hb) hm⟩, rfl⟩
  | .msl b o n sz, u, h => by
    simp only [scrub]
    split
    · simp only [VR]
    · rename_i hb
      simp only [VR] at h ⊢
      obtain ⟨⟨wr, cs, hm⟩, cap, rfl, hc⟩ := h
      exact ⟨⟨wr, _, norm_cells (by simpa using hb) hm⟩, cap, rfl, hc⟩
  | .app b n sz cs, u, h => by
    simp only [scrub]
    split
    · simp only [VR, PR] at h ⊢
      obtain ⟨q, cap, us, rfl, hc, h1, h2, h3, _⟩ := h
      exact ⟨_, cap, us, rfl, h1, hc, .inr ⟨_, rfl, h3⟩⟩
    · rename_i hb
      simp only [VR] at h ⊢
      obtain ⟨q, cap, us, rfl, hc, h1, h2, h3, n', h4, h5⟩ := h
      exact ⟨q, cap, us, rfl, hc, h1, h2, h3, n', norm_buf (by simpa using hb) h4, h5⟩
  | .agg cs, u, h => by
    simp only [scrub, VR] at h ⊢
    obtain ⟨us, rfl, h⟩ := h
    exact ⟨us, rfl, scrubs_sound bs cs us h⟩
  | .clo f caps, u, h => by
    simp only [scrub, VR] at h ⊢
    obtain ⟨us, rfl, h⟩ := h
    exact ⟨us, rfl, scrubs_sound bs caps us h⟩
theorem scrubs_sound {g : G} {m : List Blk} {St : Nat → Nat → Prop} {w : World} (bs : List Nat) : ∀ (vs : List AV) (us : List Value), VRs g m St w vs us → VRs g ((freeB bs m).map (scrubB bs)) St w (scrubs bs vs) us
  | [], us, h => by simpa only [scrubs, VRs] using h
  | v :: vs, us, h => by
    simp only [scrubs, VRs] at h ⊢
    obtain ⟨x, xs, rfl, h1, h2⟩ := h
    exact ⟨x, xs, rfl, scrub_sound bs v x h1, scrubs_sound bs vs xs h2⟩
end

theorem keepT_sound {g : G} {m : List Blk} {St : Nat → Nat → Prop} {w : World} (ks : List Nat) : ∀ (t : List AV) (i : Nat) (us : List Value), VRs g m St w t us → VRs g m St w (keepT ks i t) us
  | [], i, us, h => h
  | v :: t, i, us, h => by
    simp only [VRs] at h
    obtain ⟨x, xs, rfl, h1, h2⟩ := h
    simp only [keepT, VRs]
    refine ⟨x, xs, rfl, ?_, keepT_sound ks t (i + 1) xs h2⟩
    cases ks.contains i with
    | true => exact h1
    | false => simp only [cond_false, VR]

theorem kill_sound {g : G} {m : List Blk} {St : Nat → Nat → Prop} {w : World} (ks : List Nat) (t : List AV) (us : List Value) (h : VRs g m St w t us) : VRs g m St w (kill ks t) us := keepT_sound ks t 0 us h

theorem FR.norm {s : S} {a : Act} {w : World} (h : FR B0 St0 w0 s a w) (ks bs : List Nat) : FR B0 St0 w0 (norm ks bs s) a w := by
  obtain ⟨hd, g, St, h1, h2⟩ := h
  refine ⟨hd, g, St, ⟨h1.below, h1.b0, h1.stLt, h1.stOld, h1.stNew, fun b x hx => ?_, fun b b' hb hb' he => ?_⟩, ?_⟩
  · rcases norm_get hx with rfl | ⟨hb, y, hy, rfl⟩
    · trivial
    · have hbr := h1.mem b y hy
      cases y with
      | none => trivial
      | cells wr cs =>
        obtain ⟨k1, cur, e, k2, k3, k4⟩ := hbr
        exact ⟨k1, cur, e, k2, scrubs_sound bs cs _ k3, k4⟩
      | buf n => exact hbr
  · have lv : ∀ b, live ((freeB bs s.m).map (scrubB bs)) b → live s.m b := by
      intro b hb
      rcases hb with ⟨wr, cs, hb⟩ | ⟨n, hb⟩
      · rcases norm_get hb with h0 | ⟨_, y, hy, hxy⟩
        · cases h0
        · cases y <;> simp [scrubB] at hxy
          exact .inl ⟨_, _, hy⟩
      · rcases norm_get hb with h0 | ⟨_, y, hy, hxy⟩
        · cases h0
        · cases y <;> simp [scrubB] at hxy
          exact .inr ⟨_, hy⟩
    exact h1.inj b b' (lv b hb) (lv b' hb') he
  · exact scrubs_sound bs _ _ (kill_sound ks _ _ h2)

/-! ### Code -/

def QE (B0 : Nat) (St0 : Nat → Nat → Prop) (w0 : World) (e : Ext) (s : S) : Exit → Act → World → Prop
  | .normal, a, w => e = .normal ∧ FR B0 St0 w0 s a w
  | .exit i, a, w => e = .exit i ∧ FR B0 St0 w0 s a w
  | .ret, a, w => e = .ret ∧ FR B0 St0 w0 s a w
  | _, _, _ => False

def LoopWP (P : Program) (c : Code) (Q : Exit → Act → World → Prop) (a : Act) (w : World) : Prop :=
  ∀ (b : Frame) (k : List Item) (cs : List Frame), ∃ e a' w', Q e a' w' ∧ Arrives P (lone (b.at a (.code c :: .inLoop c :: k)) cs w) b k cs e a' w'

theorem wp_loop_of {c : Code} {Q : Exit → Act → World → Prop} {a : Act} {w : World} (h : LoopWP P c Q a w) : (Code.loop c).wp P Q a w :=
  fun b k cs => let ⟨e, a', w', hq, harr⟩ := h b k cs; ⟨e, a', w', hq, .of_steps (.one step_loop) harr⟩

theorem loop_round {c : Code} {Q : Exit → Act → World → Prop} {a : Act} {w : World} (h : c.wp P (Exit.then (LoopWP P c Q) Q) a w) : LoopWP P c Q a w := by
  intro b k cs
  obtain ⟨e, a₁, w₁, hq, harr⟩ := h b (.inLoop c :: k) cs
  cases e with
  | normal =>
    obtain ⟨e₂, a₂, w₂, hq₂, harr₂⟩ := hq b k cs
    exact ⟨e₂, a₂, w₂, hq₂, .of_steps (Steps.trans harr (.one step_inLoop)) harr₂⟩
  | exit id => exact ⟨_, a₁, w₁, hq, .pass (x := .inLoop c) rfl (fun _ _ => .inl (by simp)) harr⟩
  | goto l => exact ⟨_, a₁, w₁, hq, .pass (x := .inLoop c) rfl (fun _ _ => .inl (by simp)) harr⟩
  | ret => exact ⟨_, a₁, w₁, hq, .pass (x := .inLoop c) rfl (fun _ _ => .inl (by simp)) harr⟩
  | panic ch => exact ⟨_, a₁, w₁, hq, .pass (x := .inLoop c) rfl (fun _ _ => .inl (by simp)) harr⟩
  | outgrown => exact ⟨_, a₁, w₁, hq, .pass (x := .inLoop c) rfl (fun _ _ => .inl (by simp)) harr⟩

theorem code_sound (fr : List Nat) (hm : P.follows .mixedOrders = true) (hcall : CallOK P call) : ∀ (n : Nat),
    (∀ (c : Code) (ac : ACode) (ks ks' : List (List Nat × List Nat)) (s : S) (e : Ext) (s' : S) (a : Act) (w : World), codeC P fr c ks = some (ac, ks') → exN call n ac s = some (e, s') → FR B0 St0 w0 s a w → c.wp P (QE B0 St0 w0 e s') a w) ∧
    (∀ (c : Code) (ac : ACode) (kl bl : List Nat) (ks ks' : List (List Nat × List Nat)) (s : S) (e : Ext) (s' : S) (a : Act) (w : World), codeC P fr c ks = some (ac, ks') → exN call n (.loop kl bl ac) s = some (e, s') → FR B0 St0 w0 s a w → LoopWP P c (QE B0 St0 w0 e s') a w)
  | 0 => ⟨fun _ _ _ _ _ _ _ _ _ _ he _ => by simp [exN] at he, fun _ _ _ _ _ _ _ _ _ _ _ _ he _ => by simp [exN] at he⟩
  | n + 1 => by
    obtain ⟨ihA, ihB⟩ := code_sound fr hm hcall n
    have hB : ∀ (c : Code) (ac : ACode) (kl bl : List Nat) (ks ks' : List (List Nat × List Nat)) (s : S) (e : Ext) (s' : S) (a : Act) (w : World), codeC P fr c ks = some (ac, ks') → exN call (n + 1) (.loop kl bl ac) s = some (e, s') → FR B0 St0 w0 s a w → LoopWP P c (QE B0 St0 w0 e s') a w := by
      intro c ac kl bl ks ks' s e s' a w hc he h
      simp only [exN] at he
      split at he
      · rename_i s1 hs1
        refine loop_round (wp_mono (ihA c ac ks ks' _ _ s1 a w hc hs1 (h.norm kl bl)) fun ex a' w' hq => ?_)
        cases ex with
        | normal => exact ihB c ac kl bl ks ks' s1 e s' a' w' hc he hq.2
        | exit i => cases hq.1
        | ret => cases hq.1
        | goto _ => exact hq.elim
        | panic _ => exact hq.elim
        | outgrown => exact hq.elim
      · rename_i r hr
        cases hx : exN call n ac (norm kl bl s) with
        | none => rw [hx] at he; cases he
        | some r =>
          obtain ⟨e1, s1⟩ := r
          rw [hx] at he
          simp at he
          obtain ⟨rfl, rfl⟩ := he
          refine loop_round (wp_mono (ihA c ac ks ks' _ _ s1 a w hc hx (h.norm kl bl)) fun ex a' w' hq => ?_)
          cases ex with
          | normal =>
            have := hq.1
            subst this
            exact absurd hx (hr s1)
          | exit i => exact hq
          | ret => exact hq
          | goto _ => exact hq.elim
          | panic _ => exact hq.elim
          | outgrown => exact hq.elim
    refine ⟨fun c ac ks ks' s e s' a w hc he h => ?_, hB⟩
    cases c with
    | skip =>
      simp [codeC] at hc
      obtain ⟨rfl, rfl⟩ := hc
      simp [exN] at he
      obtain ⟨rfl, rfl⟩ := he
      exact wp_skip ⟨rfl, h⟩
    | region id ops dr =>
      simp only [codeC] at hc
      split at hc
      · rename_i l hl
        simp at hc
        obtain ⟨rfl, rfl⟩ := hc
        simp only [exN] at he
        split at he
        · rename_i s1 hs1
          simp at he
          obtain ⟨rfl, rfl⟩ := he
          exact region_sound hm hcall hl hs1 h fun a w hf => ⟨rfl, hf⟩
        · cases he
      · cases hc
    | seq x y =>
      match ks with
      | [] => simp [codeC] at hc
      | [_] => simp [codeC] at hc
      | k :: k' :: ks =>
      simp only [codeC] at hc
      split at hc
      · rename_i ax ks1 hx
        split at hc
        · rename_i ay ks2 hy
          simp at hc
          obtain ⟨rfl, rfl⟩ := hc
          simp only [exN] at he
          -- the first part, by itself or not
          have part : ∀ e1 s1, exN call n (wrap (1000000 + ks.length) k k' ax) s = some (e1, s1) → x.wp P (QE B0 St0 w0 e1 s1) a w := by
            intro e1 s1 h1
            unfold wrap at h1
            cases hk : k'.2.contains 999999 with
            | true =>
              rw [hk] at h1
              exact ihA x ax ks ks1 s e1 s1 a w hx h1 h
            | false =>
              rw [hk] at h1
              simp only [cond_false] at h1
              cases n with
              | zero => simp [exN] at h1
              | succ n =>
                simp only [exN] at h1
                split at h1
                · rename_i s0 h0
                  simp at h1
                  obtain ⟨rfl, rfl⟩ := h1
                  have h0' := exN_mono (fun _ _ _ h => h) (Nat.le_succ n) h0
                  refine wp_mono (ihA x ax ks ks1 _ _ s0 a w hx h0' (h.norm k.1 k.2)) fun ex a' w' hq => ?_
                  cases ex with
                  | normal => exact ⟨rfl, hq.2.norm k'.1 k'.2⟩
                  | exit i => cases hq.1
                  | ret => cases hq.1
                  | goto _ => exact hq.elim
                  | panic _ => exact hq.elim
                  | outgrown => exact hq.elim
                · rename_i r hr
                  have h1' := exN_mono (c' := call) (fun _ _ _ h => h) (Nat.le_succ n) h1
                  exact ihA x ax ks ks1 _ _ s1 a w hx h1' (h.norm k.1 k.2)
          split at he
          · rename_i s1 hs1
            refine wp_seq (wp_mono (part _ s1 hs1) fun ex a' w' hq => ?_)
            cases ex with
            | normal => exact ihA y ay ks1 ks2 s1 e s' a' w' hy he hq.2
            | exit i => cases hq.1
            | ret => cases hq.1
            | goto _ => exact hq.elim
            | panic _ => exact hq.elim
            | outgrown => exact hq.elim
          · rename_i r hr
            cases hxx : exN call n (wrap (1000000 + ks.length) k k' ax) s with
            | none => rw [hxx] at he; cases he
            | some r =>
              obtain ⟨e1, s1⟩ := r
              rw [hxx] at he
              simp at he
              obtain ⟨rfl, rfl⟩ := he
              refine wp_seq (wp_mono (part _ s1 hxx) fun ex a' w' hq => ?_)
              cases ex with
              | normal =>
                have := hq.1
                subst this
                exact absurd hxx (hr s1)
              | exit i => exact hq
              | ret => exact hq
              | goto _ => exact hq.elim
              | panic _ => exact hq.elim
              | outgrown => exact hq.elim
        · cases hc
      · cases hc
    | cond cv x y =>
      simp only [codeC] at hc
      split at hc
      · rename_i ar har
        split at hc
        · rename_i ax ks1 hx
          split at hc
          · rename_i ay ks2 hy
            simp at hc
            obtain ⟨rfl, rfl⟩ := hc
            obtain ⟨hd, g, St, h1, h2⟩ := h
            have hv := arg_sound har h2
            simp only [exN] at he
            split at he
            · rename_i hb
              rw [hb] at hv
              exact wp_cond_true hv.bool (ihA x ax ks ks1 s e s' a w hx he ⟨hd, g, St, h1, h2⟩)
            · rename_i hb
              rw [hb] at hv
              exact wp_cond_false hv.bool (ihA y ay ks1 ks2 s e s' a w hy he ⟨hd, g, St, h1, h2⟩)
            · cases he
          · cases hc
        · cases hc
      · cases hc
    | block id c =>
      cases ks with
      | nil => simp [codeC] at hc
      | cons k ks =>
      simp only [codeC] at hc
      split at hc
      · rename_i ax ks1 hx
        simp at hc
        obtain ⟨rfl, rfl⟩ := hc
        simp only [exN] at he
        split at he
        · rename_i i s1 hs1
          refine wp_block (wp_mono (ihA c ax ks ks1 s _ s1 a w hx hs1 h) fun ex a' w' hq => ?_)
          cases ex with
          | normal => cases hq.1
          | exit j =>
            have := hq.1
            simp at this
            subst this
            simp only [Exit.inBlock]
            split at he
            · simp at he
              obtain ⟨rfl, rfl⟩ := he
              rw [if_pos (by assumption)]
              exact ⟨rfl, hq.2.norm k.1 k.2⟩
            · simp at he
              obtain ⟨rfl, rfl⟩ := he
              rw [if_neg (by assumption)]
              exact ⟨rfl, hq.2⟩
          | ret => cases hq.1
          | goto _ => exact hq.elim
          | panic _ => exact hq.elim
          | outgrown => exact hq.elim
        · rename_i s1 hs1
          simp at he
          obtain ⟨rfl, rfl⟩ := he
          refine wp_block (wp_mono (ihA c ax ks ks1 s _ s1 a w hx hs1 h) fun ex a' w' hq => ?_)
          cases ex with
          | normal => exact ⟨rfl, hq.2.norm k.1 k.2⟩
          | exit j => cases hq.1
          | ret => cases hq.1
          | goto _ => exact hq.elim
          | panic _ => exact hq.elim
          | outgrown => exact hq.elim
        · rename_i r hr hr2
          cases hxx : exN call n ax s with
          | none => rw [hxx] at he; cases he
          | some r =>
            obtain ⟨e1, s1⟩ := r
            rw [hxx] at he
            simp at he
            obtain ⟨rfl, rfl⟩ := he
            refine wp_block (wp_mono (ihA c ax ks ks1 s _ s1 a w hx hxx h) fun ex a' w' hq => ?_)
            cases ex with
            | normal =>
              have := hq.1
              subst this
              exact absurd hxx (hr2 s1)
            | exit j =>
              have := hq.1
              subst this
              exact absurd hxx (hr j s1)
            | ret => exact hq
            | goto _ => exact hq.elim
            | panic _ => exact hq.elim
            | outgrown => exact hq.elim
      · cases hc
    | loop c =>
      cases ks with
      | nil => simp [codeC] at hc
      | cons k ks =>
        simp only [codeC] at hc
        split at hc
        · rename_i ax ks1 hx
          simp at hc
          obtain ⟨rfl, rfl⟩ := hc
          exact wp_loop_of (hB c ax k.1 k.2 ks ks1 s e s' a w hx he h)
        · cases hc
    | exit id =>
      simp [codeC] at hc
      obtain ⟨rfl, rfl⟩ := hc
      simp [exN] at he
      obtain ⟨rfl, rfl⟩ := he
      exact wp_exit ⟨rfl, h⟩
    | ret =>
      cases ks with
      | nil => simp [codeC] at hc
      | cons k ks =>
      simp [codeC] at hc
      obtain ⟨rfl, rfl⟩ := hc
      simp [exN] at he
      obtain ⟨rfl, rfl⟩ := he
      exact wp_ret ⟨rfl, h.norm k.1 k.2⟩
    | rangeFunc _ _ _ _ => simp [codeC] at hc
    | scope _ => simp [codeC] at hc
    | label _ => simp [codeC] at hc
    | goto _ => simp [codeC] at hc
    | refuse _ => simp [codeC] at hc
end Gv
