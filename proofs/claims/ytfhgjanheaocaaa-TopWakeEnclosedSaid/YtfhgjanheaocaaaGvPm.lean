/- More fuel gives no other answer. -/
import Derived.Test.YtfhgjanheaocaaaGvP
namespace Gv
open Go
structure CLe (c c' : CallT) : Prop where
  fn : ∀ f a r, c.fn f a = some r → c'.fn f a = some r
  ln : ∀ f a ms r, c.ln f a ms = some r → c'.ln f a ms = some r
theorem CLe.refl (c : CallT) : CLe c c := ⟨fun _ _ _ h => h, fun _ _ _ _ h => h⟩
theorem runL_other (c c' : CallT) {k : KL} (vs : List AV) (h : k ≠ .call) : runL c k vs = runL c' k vs := by
  cases k <;> first | (exact absurd rfl h) | (unfold runL; split <;> first | rfl | (rename_i hq; cases hq; done))
theorem runA_other (c c' : CallT) {d : Nat} {k : KA} (vs : List AV) (h : k ≠ .callO) (h2 : k ≠ .callG) (h3 : k ≠ .callV) : runA c d k vs = runA c' d k vs := by
  cases k <;> first | (exact absurd rfl h) | (exact absurd rfl h2) | (exact absurd rfl h3) | (unfold runA; split <;> first | rfl | (rename_i hq; cases hq; done))
theorem runS_other (c c' : CallT) {k : KS} (vs : List AV) (m : List Blk) (h : ∀ d, k ≠ .callF d) (h2 : ∀ d, k ≠ .callB d) : runS c k vs m = runS c' k vs m := by
  cases k <;> first | (exact absurd rfl (h _)) | (exact absurd rfl (h2 _)) | (unfold runS; split <;> first | rfl | (rename_i hq; cases hq; done))
theorem runL_mono {c c' : CallT} (h : CLe c c') {k : KL} {vs : List AV} {v : AV} (hr : runL c k vs = some v) : runL c' k vs = some v := by
  cases k
  case call =>
    cases vs with
    | nil => exact hr
    | cons x vs =>
      cases x <;> try exact hr
      rename_i p
      cases p <;> try exact hr
      rename_i f caps
      simp only [runL] at hr ⊢
      split at hr <;> try (cases hr; done)
      rename_i ps hps
      cases hc : c f (ps ++ caps) with
      | none => simp [hc] at hr
      | some rv => simp only [hc, h.fn _ _ _ hc] at hr ⊢; exact hr
  all_goals (rw [← runL_other c c' vs (by simp)]; exact hr)
theorem runA_mono {c c' : CallT} (h : CLe c c') {d : Nat} {k : KA} {vs : List AV} {v : AV × Blk} (hr : runA c d k vs = some v) : runA c' d k vs = some v := by
  cases k
  case callO =>
    cases vs with
    | nil => exact hr
    | cons x vs =>
      cases x <;> try exact hr
      rename_i p
      cases p <;> try exact hr
      rename_i f caps
      simp only [runA] at hr ⊢
      split at hr <;> try (cases hr; done)
      rename_i ps hps
      cases hc : c f (ps ++ caps) with
      | none => simp [hc] at hr
      | some rv => simp only [hc, h.fn _ _ _ hc] at hr ⊢; exact hr
  case callV =>
    cases vs with
    | nil => exact hr
    | cons x vs =>
      cases x <;> try exact hr
      rename_i p
      cases p <;> try exact hr
      rename_i f caps
      simp only [runA] at hr ⊢
      split at hr <;> try (cases hr; done)
      rename_i ps hps
      cases hc : c f (ps ++ caps) with
      | none => simp [hc] at hr
      | some rv => simp only [hc, h.fn _ _ _ hc] at hr ⊢; exact hr
  case callG =>
    unfold runA at hr ⊢
    split at hr <;> try (rename_i hk; cases hk; done)
    · rename_i f k n hk
      cases hc : c f [.nilL, .int k n] with
      | none => rw [hc] at hr; cases hr
      | some rv => rw [hc] at hr; simp only [h.fn _ _ _ hc]; exact hr
    · cases hr
  all_goals (rw [← runA_other c c' vs (by simp) (by simp) (by simp)]; exact hr)
theorem lendB_mono {c c' : CallT} (h : CLe c c') {d : Nat} {vs : List AV} {m : List Blk} {v : AV × List Blk} (hr : lendB c d vs m = some v) : lendB c' d vs m = some v := by
  unfold lendB at hr ⊢
  split at hr <;> try (cases hr; done)
  split at hr <;> try (cases hr; done)
  split at hr <;> try (cases hr; done)
  rename_i f caps hfo
  simp only at hr ⊢
  split at hr <;> try (cases hr; done)
  rename_i as' ms0 h1 h2
  split at hr <;> try (cases hr; done)
  rename_i ms h3
  split at hr <;> try (cases hr; done)
  rename_i v1 ms' hcl
  simp only [h.ln _ _ _ _ hcl]
  exact hr
theorem runS_mono {c c' : CallT} (h : CLe c c') {k : KS} {vs : List AV} {m : List Blk} {v : AV × List Blk} (hr : runS c k vs m = some v) : runS c' k vs m = some v := by
  cases k
  case callF d =>
    simp only [runS] at hr ⊢
    split at hr <;> try (cases hr; done)
    rename_i f caps ps hps
    cases hc : c f (ps ++ caps) with
    | none => simp [hc] at hr
    | some rv => simp only [hc, h.fn _ _ _ hc] at hr ⊢; exact hr
  case callB d =>
    simp only [runS] at hr ⊢
    exact lendB_mono h hr
  all_goals (rw [← runS_other c c' vs m (by simp) (by simp)]; exact hr)
theorem runK_mono {c c' : CallT} (h : CLe c c') {k : K} {vs : List AV} {m : List Blk} {v : AV × List Blk} (hr : runK c k vs m = some v) : runK c' k vs m = some v := by
  cases k with
  | l k =>
    simp only [runK] at hr ⊢
    cases hk : runL c k vs with
    | none => simp [hk] at hr
    | some x => rw [runL_mono h hk]; rw [hk] at hr; exact hr
  | ld _ _ _ => exact hr
  | a d k =>
    simp only [runK] at hr ⊢
    split at hr <;> try (cases hr; done)
    cases hk : runA c d k vs with
    | none => simp [hk] at hr
    | some x => rw [runA_mono h hk]; rw [hk] at hr; exact hr
  | s k =>
    simp only [runK] at hr ⊢
    exact runS_mono h hr
theorem exOp_mono {c c' : CallT} (h : CLe c c') {o : AOp} {s s' : S} (hr : exOp c o s = some s') : exOp c' o s = some s' := by
  simp only [exOp] at hr ⊢
  split at hr
  · cases hr
  · exact hr
  · split at hr <;> try (cases hr; done)
    rename_i v m hk
    rw [runK_mono h hk]
    exact hr
theorem exOps_mono {c c' : CallT} (h : CLe c c') : ∀ {l : List AOp} {s s' : S}, exOps c l s = some s' → exOps c' l s = some s'
  | [], _, _, hr => hr
  | o :: l, s, s', hr => by
    simp only [exOps] at hr ⊢
    split at hr <;> try (cases hr; done)
    rename_i s1 h1
    rw [exOp_mono h h1]
    exact exOps_mono h hr
theorem exN_mono {c c' : CallT} (h : CLe c c') : ∀ {n n' : Nat} {a : ACode} {s : S} {r : Ext × S}, n ≤ n' → exN c n a s = some r → exN c' n' a s = some r
  | 0, _, _, _, _, _, hr => by simp [exN] at hr
  | n + 1, 0, _, _, _, hn, _ => by omega
  | n + 1, n' + 1, a, s, r, hn, hr => by
    have hn : n ≤ n' := by omega
    cases a with
    | skip => exact hr
    | exit _ => exact hr
    | ret _ _ => exact hr
    | ops l =>
      simp only [exN] at hr ⊢
      split at hr <;> try (cases hr; done)
      rename_i s1 h1
      rw [exOps_mono h h1]
      exact hr
    | seq x y =>
      simp only [exN] at hr ⊢
      cases hx : exN c n x s with
      | none => simp [hx] at hr
      | some p =>
        obtain ⟨e, s1⟩ := p
        rw [exN_mono h hn hx]
        rw [hx] at hr
        cases e <;> first | exact hr | exact exN_mono h hn hr
    | cond v x y =>
      simp only [exN] at hr ⊢
      split at hr
      · exact exN_mono h hn hr
      · exact exN_mono h hn hr
      · cases hr
    | block id _ _ x =>
      simp only [exN] at hr ⊢
      cases hx : exN c n x s with
      | none => simp [hx] at hr
      | some p =>
        obtain ⟨e, s1⟩ := p
        rw [exN_mono h hn hx]
        rw [hx] at hr
        exact hr
    | node id ki bi ks bs x =>
      simp only [exN] at hr ⊢
      cases hx : exN c n x (norm ki bi s) with
      | none => simp [hx] at hr
      | some p =>
        obtain ⟨e, s1⟩ := p
        rw [exN_mono h hn hx]
        rw [hx] at hr
        exact hr
    | loop ks bs x =>
      simp only [exN] at hr ⊢
      cases hx : exN c n x (norm ks bs s) with
      | none => simp [hx] at hr
      | some p =>
        obtain ⟨e, s1⟩ := p
        rw [exN_mono h hn hx]
        rw [hx] at hr
        cases e <;> first | exact hr | exact exN_mono h hn hr
    | rnd ks bs x =>
      simp only [exN] at hr ⊢
      cases hx : exN c n x s with
      | none => simp [hx] at hr
      | some p =>
        obtain ⟨e, s1⟩ := p
        rw [exN_mono h hn hx]
        rw [hx] at hr
        exact hr
theorem free_log : ∀ (bs : List Nat) (m : List Blk), LogBack m (freeB bs m)
  | [], m => LogBack.refl _
  | b :: bs, m => by
    have := free_log bs (m.set b .none)
    exact (LogBack.set (by intros; simp)).trans this
theorem norm_log (ks bs : List Nat) (s : S) : LogBack s.m (norm ks bs s).m := by
  refine (free_log bs s.m).trans fun sh k n' cs' h => ?_
  simp only [norm, List.getElem?_map] at h
  cases hf : (freeB bs s.m)[0]? with
  | none => rw [hf] at h; cases h
  | some b =>
    rw [hf] at h
    cases b <;> simp [scrubB] at h
    obtain ⟨rfl, rfl, rfl, rfl⟩ := h
    exact ⟨_, _, rfl, Nat.le_refl _, List.prefix_refl _⟩
theorem exN_log {c : CallT} : ∀ {n : Nat} {a : ACode} {s s' : S} {e : Ext}, exN c n a s = some (e, s') → LogBack s.m s'.m
  | 0, _, _, _, _, h => by simp [exN] at h
  | n + 1, a, s, s', e, h => by
    cases a with
    | skip => simp [exN] at h; rw [h.2]; exact LogBack.refl _
    | exit _ => simp [exN] at h; rw [h.2]; exact LogBack.refl _
    | ret ks bs => simp [exN] at h; rw [← h.2]; exact norm_log ks bs s
    | ops l =>
      simp only [exN] at h
      split at h <;> try (cases h; done)
      rename_i s1 h1
      simp at h; rw [← h.2]
      exact exOps_log h1
    | seq x y =>
      simp only [exN] at h
      cases hx : exN c n x s with
      | none => simp [hx] at h
      | some p =>
        obtain ⟨e1, s1⟩ := p
        rw [hx] at h
        have k1 := exN_log hx
        cases e1 <;> simp only at h
        · exact k1.trans (exN_log h)
        · simp at h; rw [← h.2]; exact k1
        · simp at h; rw [← h.2]; exact k1
    | cond v x y =>
      simp only [exN] at h
      split at h
      · exact exN_log h
      · exact exN_log h
      · cases h
    | block id ks bs x =>
      simp only [exN] at h
      cases hx : exN c n x s with
      | none => simp [hx] at h
      | some p =>
        obtain ⟨e1, s1⟩ := p
        rw [hx] at h
        have k1 := exN_log hx
        cases e1 <;> simp only at h
        · simp at h; rw [← h.2]; exact k1.trans (norm_log ks bs s1)
        · split at h
          · simp at h; rw [← h.2]; exact k1.trans (norm_log ks bs s1)
          · simp at h; rw [← h.2]; exact k1
        · simp at h; rw [← h.2]; exact k1
    | node id ki bi ks bs x =>
      simp only [exN] at h
      cases hx : exN c n x (norm ki bi s) with
      | none => simp [hx] at h
      | some p =>
        obtain ⟨e1, s1⟩ := p
        rw [hx] at h
        have k1 := (norm_log ki bi s).trans (exN_log hx)
        cases e1 <;> simp only at h
        · simp at h; rw [← h.2]; exact k1.trans (norm_log ks bs s1)
        · simp at h; rw [← h.2]; exact k1
        · simp at h; rw [← h.2]; exact k1
    | loop ks bs x =>
      simp only [exN] at h
      cases hx : exN c n x (norm ks bs s) with
      | none => simp [hx] at h
      | some p =>
        obtain ⟨e1, s1⟩ := p
        rw [hx] at h
        have k1 := (norm_log ks bs s).trans (exN_log hx)
        cases e1 <;> simp only at h
        · exact k1.trans (exN_log h)
        · simp at h; rw [← h.2]; exact k1
        · simp at h; rw [← h.2]; exact k1
    | rnd ks bs x =>
      simp only [exN] at h
      cases hx : exN c n x s with
      | none => simp [hx] at h
      | some p =>
        obtain ⟨e1, s1⟩ := p
        rw [hx] at h
        simp at h; rw [← h.2]
        exact (exN_log hx).trans (norm_log ks bs s1)
theorem Full.unique {r : Nat → Option RV} {sh : List (Option Nat)} {N N' : Nat} {cs cs' : List PV} (h : Full r sh N cs) (h' : Full r sh N' cs') : N = N' ∧ cs = cs' := by
  have key : ∀ {N N' : Nat} {cs cs' : List PV}, Full r sh N cs → Full r sh N' cs' → N ≤ N' → N = N' ∧ cs = cs' := by
    rintro N N' cs cs' ⟨_, l1, h1⟩ ⟨_, l2, h2⟩ hle
    have a := h1 N (Nat.le_refl _)
    have b := h2 N hle
    rw [a] at b
    simp only [Option.some.injEq, RV.val.injEq, PV.list.injEq] at b
    obtain ⟨b1, b2⟩ := b
    have e : N = N' := by omega
    subst e
    refine ⟨rfl, ?_⟩
    have hm : min (N + 1) N = N := by omega
    rw [hm] at b2
    rw [List.take_of_length_le (by omega), List.take_of_length_le (by omega)] at b2
    exact b2
  rcases Nat.le_total N N' with hle | hle
  · exact key h h' hle
  · obtain ⟨a, b⟩ := key h' h hle
    exact ⟨a.symm, b.symm⟩
theorem full_iff {r : Nat → Option RV} {sh : List (Option Nat)} {rv : RV} : full r sh = some rv ↔ ∃ N cs, rv = .val (.list N cs) ∧ Full r sh N cs := by
  unfold full
  constructor
  · intro h
    split at h
    · rename_i hq
      simp at h
      exact ⟨_, _, h.symm, hq.choose_spec⟩
    · cases h
  · rintro ⟨N, cs, rfl, h⟩
    have hq : ∃ q : Nat × List PV, Full r sh q.1 q.2 := ⟨(N, cs), h⟩
    rw [dif_pos hq]
    obtain ⟨e1, e2⟩ := Full.unique hq.choose_spec h
    rw [e1, e2]
theorem full_mono {r r' : Nat → Option RV} (h : ∀ k x, r k = some x → r' k = some x) {sh : List (Option Nat)} {rv : RV} (hr : full r sh = some rv) : full r' sh = some rv := by
  obtain ⟨N, cs, rfl, h1, h2, h3⟩ := full_iff.1 hr
  exact full_iff.2 ⟨N, cs, rfl, h1, h2, fun k hk => h _ _ (h3 k hk)⟩
variable (env : Nat → Option AFn)
theorem callN_it (n f : Nat) (sh : List (Option Nat)) (caps : List PV) : callN env (n + 1) f (.it sh 0 :: caps) = full (fun k => callN env n f (.it sh k :: caps)) sh := by
  simp only [callN]
theorem callN_fn (n f : Nat) (args : List PV) (h : ∀ sh caps, args ≠ .it sh 0 :: caps) : callN env (n + 1) f args = match env f with
    | some af => if args.length = af.np ∧ yOK af args = true then
        match exN (callN env n) n af.body (start af args) with
        | some (.normal, s) => result s af.res
        | some (.ret, s) => result s af.res
        | _ => none
      else none
    | none => none := by
  match args, h with
  | [], _ => rfl
  | x :: r, h =>
    cases x <;> try rfl
    rename_i sh k
    cases k
    · exact absurd rfl (h _ _)
    · rfl
theorem callN_ln (n f : Nat) (as : List AV) (ms : List Blk) : (callN env (n + 1)).ln f as ms = match env f with
    | some af => if as.length = af.np ∧ af.rf = false ∧ bsOK af.nt af.body = true then match startB af as ms with
        | some s0 => match exN (callN env n) n af.body s0 with
          | some (.normal, s) => resultB af.nt ms.length s af.res
          | some (.ret, s) => resultB af.nt ms.length s af.res
          | _ => Option.none
        | Option.none => Option.none
      else Option.none
    | Option.none => Option.none := by
  simp only [callN]
  rfl
theorem callN_mono : ∀ {n n' : Nat}, n ≤ n' → CLe (callN env n) (callN env n')
  | 0, _, _ => ⟨fun _ _ _ h => by simp [callN, noCall] at h, fun _ _ _ _ h => by simp [callN, noCall] at h⟩
  | n + 1, 0, hn => by omega
  | n + 1, n' + 1, hn => by
    have hn : n ≤ n' := by omega
    refine ⟨fun f a r hr => ?_, fun f a ms r hr => ?_⟩
    · by_cases hit : ∃ sh caps, a = .it sh 0 :: caps
      · obtain ⟨sh, caps, rfl⟩ := hit
        rw [callN_it] at hr ⊢
        exact full_mono (fun k x => (callN_mono hn).fn f _ x) hr
      have hit' : ∀ sh caps, a ≠ .it sh 0 :: caps := fun sh caps e => hit ⟨sh, caps, e⟩
      rw [callN_fn env n f a hit'] at hr
      rw [callN_fn env n' f a hit']
      split at hr <;> try (cases hr; done)
      rename_i af haf
      split at hr <;> try (cases hr; done)
      rename_i hl
      rw [if_pos hl]
      cases hx : exN (callN env n) n af.body (start af a) with
      | none => simp [hx] at hr
      | some p =>
        rw [exN_mono (callN_mono hn) hn hx]
        rw [hx] at hr
        exact hr
    · rw [callN_ln] at hr ⊢
      split at hr <;> try (cases hr; done)
      rename_i af haf
      split at hr <;> try (cases hr; done)
      rename_i hl
      rw [if_pos hl]
      split at hr <;> try (cases hr; done)
      rename_i s0 hs0
      cases hx : exN (callN env n) n af.body s0 with
      | none => simp [hx] at hr
      | some p =>
        rw [exN_mono (callN_mono hn) hn hx]
        rw [hx] at hr
        exact hr
end Gv
