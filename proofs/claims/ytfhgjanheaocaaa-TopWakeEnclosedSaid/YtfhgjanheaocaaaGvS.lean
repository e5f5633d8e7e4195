/- The abstract machine without fuel: what it gives with enough of it, and equations to run it by. -/
import Derived.Test.YtfhgjanheaocaaaGvR
namespace Gv
open Go
variable (env : Nat → Option AFn)
open Classical in
noncomputable def lim {α : Type} (F : Nat → Option α) : Option α := if h : ∃ n r, F n = some r then F h.choose else none
theorem lim_iff {α : Type} {F : Nat → Option α} (hF : ∀ {n n' r}, n ≤ n' → F n = some r → F n' = some r) {r : α} : lim F = some r ↔ ∃ n, F n = some r := by
  unfold lim
  constructor
  · intro h
    split at h
    · exact ⟨_, h⟩
    · cases h
  · rintro ⟨n, h⟩
    have he : ∃ n r, F n = some r := ⟨n, r, h⟩
    rw [dif_pos he]
    obtain ⟨r', h'⟩ := he.choose_spec
    have a := hF (Nat.le_max_left he.choose n) h'
    have b := hF (Nat.le_max_right he.choose n) h
    rw [a] at b
    rw [h', b]
noncomputable def run : CallT := ⟨fun f args => lim fun n => (callN env n).fn f args, fun f as ms => lim fun n => (callN env n).ln f as ms⟩
noncomputable def ex (c : ACode) (s : S) : Option (Ext × S) := lim fun n => exN (callN env n) n c s
theorem run_iff {f : Nat} {args : List PV} {r : RV} : run env f args = some r ↔ ∃ n, callN env n f args = some r :=
  lim_iff fun hn h => (callN_mono env hn).fn _ _ _ h
theorem run_ln {f : Nat} {as : List AV} {ms : List Blk} {r : AV × List Blk} : (run env).ln f as ms = some r ↔ ∃ n, (callN env n).ln f as ms = some r :=
  lim_iff fun hn h => (callN_mono env hn).ln _ _ _ _ h
theorem ex_iff {c : ACode} {s : S} {r : Ext × S} : ex env c s = some r ↔ ∃ n, exN (callN env n) n c s = some r :=
  lim_iff fun hn h => exN_mono (callN_mono env hn) hn h
theorem opt_ext {α : Type} {a b : Option α} (h1 : ∀ r, a = some r → b = some r) (h2 : ∀ r, b = some r → a = some r) : a = b := by
  cases a with
  | none =>
    cases b with
    | none => rfl
    | some y => exact absurd (h2 y rfl) (by simp)
  | some x => exact (h1 x rfl).symm
variable {env}
theorem call_lt (n : Nat) : CLe (callN env n) (run env) := ⟨fun _ _ _ h => (run_iff env).2 ⟨n, h⟩, fun _ _ _ _ h => (run_ln env).2 ⟨n, h⟩⟩
theorem lendB_lim {d : Nat} {vs : List AV} {m : List Blk} {v : AV × List Blk} (hr : lendB (run env) d vs m = some v) : ∃ n, lendB (callN env n) d vs m = some v := by
  unfold lendB at hr
  split at hr <;> try (cases hr; done)
  rename_i hlog
  split at hr <;> try (cases hr; done)
  split at hr <;> try (cases hr; done)
  rename_i f caps hfo
  simp only at hr
  split at hr <;> try (cases hr; done)
  rename_i as' ms0 h1 h2
  split at hr <;> try (cases hr; done)
  rename_i ms h3
  split at hr <;> try (cases hr; done)
  rename_i v1 ms' hcl
  obtain ⟨n, hn⟩ := (run_ln env).1 hcl
  refine ⟨n, ?_⟩
  unfold lendB
  split
  · rename_i h
    exact absurd h (hlog _ _ _ _)
  · simp only [hfo, h1, h2, h3, hn]
    exact hr
theorem runK_lim {k : K} {vs : List AV} {m : List Blk} {v : AV × List Blk} (hr : runK (run env) k vs m = some v) : ∃ n, runK (callN env n) k vs m = some v := by
  have key : ∀ (f : Nat) (a : List PV) (G : Option RV → Option (AV × List Blk)), G none = none → G (run env f a) = some v → ∃ n, G (callN env n f a) = some v := by
    intro f a G h0 hG
    cases hf : run env f a with
    | none => rw [hf, h0] at hG; cases hG
    | some rv =>
      obtain ⟨n, hn⟩ := (run_iff env).1 hf
      exact ⟨n, by rw [hn]; rw [hf] at hG; exact hG⟩
  cases k with
  | l k =>
    cases k
    case call =>
      cases vs with
      | nil => exact ⟨0, by revert hr; simp [runK, runL]⟩
      | cons x vs =>
        cases x <;> try (refine ⟨0, ?_⟩; revert hr; simp [runK, runL]; done)
        rename_i p
        cases p <;> try (refine ⟨0, ?_⟩; revert hr; simp [runK, runL]; done)
        rename_i f caps
        simp only [runK, runL] at hr ⊢
        cases hps : pureAs vs with
        | none => simp [hps] at hr
        | some ps =>
          simp only [hps] at hr ⊢
          exact key f (ps ++ caps) (fun o => Option.map (fun v => (v, m)) (match o with
            | some (.val v) => some (.p v)
            | some (.own n _ cs) => some (.p (.list n cs))
            | none => none)) rfl hr
    all_goals (refine ⟨0, ?_⟩; simp only [runK] at hr ⊢; rw [runL_other _ (run env) vs (by simp)]; exact hr)
  | ld _ _ _ => exact ⟨0, hr⟩
  | a d k =>
    cases k
    case callO =>
      cases vs with
      | nil => exact ⟨0, by revert hr; simp [runK, runA]⟩
      | cons x vs =>
        cases x <;> try (refine ⟨0, ?_⟩; revert hr; simp [runK, runA]; done)
        rename_i p
        cases p <;> try (refine ⟨0, ?_⟩; revert hr; simp [runK, runA]; done)
        rename_i f caps
        simp only [runK, runA] at hr ⊢
        split at hr <;> try (cases hr; done)
        rename_i hd
        cases hps : pureAs vs with
        | none => simp [hps] at hr
        | some ps =>
          simp only [hps] at hr ⊢
          exact key f (ps ++ caps) (fun o => Option.map (fun r => (r.1, m.set d r.2)) (match o with
            | some (.val v) => some (.p v, .none)
            | some (.own n sz cs) => some (.app d n sz cs, .buf n)
            | none => none)) rfl hr
    case callG =>
      obtain ⟨hd, blk, hq, _⟩ := runK_a hr
      obtain ⟨f, k, n, rfl, _⟩ := callG_args hq
      simp only [runK, hd] at hr ⊢
      exact key f [.nilL, .int k n] (fun o => Option.map (fun r => (r.1, m.set d r.2)) (growR d o)) rfl hr
    case callV =>
      cases vs with
      | nil => exact ⟨0, by revert hr; simp [runK, runA]⟩
      | cons x vs =>
        cases x <;> try (refine ⟨0, ?_⟩; revert hr; simp [runK, runA]; done)
        rename_i p
        cases p <;> try (refine ⟨0, ?_⟩; revert hr; simp [runK, runA]; done)
        rename_i f caps
        simp only [runK, runA] at hr ⊢
        split at hr <;> try (cases hr; done)
        rename_i hd
        cases hps : pureAs vs with
        | none => simp [hps] at hr
        | some ps =>
          simp only [hps] at hr ⊢
          exact key f (ps ++ caps) (fun o => Option.map (fun r => (r.1, m.set d r.2)) (match o with
            | some (.val v) => some (.p v, .none)
            | some (.own n sz cs) => if cs.all plain then some (.vap d n sz, .vec true n sz cs) else some (.app d n sz cs, .buf n)
            | none => none)) rfl hr
    all_goals (refine ⟨0, ?_⟩; simp only [runK] at hr ⊢; rw [runA_other _ (run env) vs (by simp) (by simp) (by simp)]; exact hr)
  | s k =>
    cases k
    case callB d =>
      simp only [runK, runS] at hr ⊢
      exact lendB_lim hr
    case callF d =>
      simp only [runK, runS] at hr ⊢
      split at hr <;> try (cases hr; done)
      rename_i f caps ps hps
      exact key f (ps ++ caps) (fun o => match o with
        | some (.val v) => some (.p v, lock m (vs.flatMap (reachA m deep)))
        | some (.own n sz cs) => match (lock m (vs.flatMap (reachA m deep)))[d]? with
          | some .none => some (.app d n sz cs, (lock m (vs.flatMap (reachA m deep))).set d (.buf n))
          | _ => some (.p (.list n cs), lock m (vs.flatMap (reachA m deep)))
        | none => none) rfl hr
    all_goals (refine ⟨0, ?_⟩; simp only [runK] at hr ⊢; rw [runS_other _ (run env) vs m (by simp) (by simp)]; exact hr)
theorem exOp_lim {o : AOp} {s s' : S} (hr : exOp (run env) o s = some s') : ∃ n, exOp (callN env n) o s = some s' := by
  simp only [exOp] at hr ⊢
  split at hr
  · cases hr
  · exact ⟨0, hr⟩
  · split at hr <;> try (cases hr; done)
    rename_i v m hk
    obtain ⟨n, hn⟩ := runK_lim hk
    exact ⟨n, by rw [hn]; exact hr⟩
theorem exOps_lim : ∀ {l : List AOp} {s s' : S}, exOps (run env) l s = some s' → ∃ n, exOps (callN env n) l s = some s'
  | [], _, _, hr => ⟨0, hr⟩
  | o :: l, s, s', hr => by
    simp only [exOps] at hr ⊢
    split at hr <;> try (cases hr; done)
    rename_i s1 h1
    obtain ⟨n1, k1⟩ := exOp_lim h1
    obtain ⟨n2, k2⟩ := exOps_lim hr
    refine ⟨max n1 n2, ?_⟩
    rw [exOp_mono (callN_mono env (Nat.le_max_left n1 n2)) k1]
    exact exOps_mono (callN_mono env (Nat.le_max_right n1 n2)) k2
theorem up {n n' : Nat} {c : ACode} {s : S} {r : Ext × S} (hn : n ≤ n') (h : exN (callN env n) n c s = some r) : exN (callN env n') n' c s = some r := exN_mono (callN_mono env hn) hn h
theorem upC {n n' k k' : Nat} {c : ACode} {s : S} {r : Ext × S} (hn : n ≤ n') (hk : k ≤ k') (h : exN (callN env k) n c s = some r) : exN (callN env k') n' c s = some r := exN_mono (callN_mono env hk) hn h
theorem ex_skip (s : S) : ex env .skip s = some (.normal, s) := (ex_iff env).2 ⟨1, rfl⟩
theorem ex_exit (i : Nat) (s : S) : ex env (.exit i) s = some (.exit i, s) := (ex_iff env).2 ⟨1, rfl⟩
theorem ex_ret (ks bs : List Nat) (s : S) : ex env (.ret ks bs) s = some (.ret, norm ks bs s) := (ex_iff env).2 ⟨1, rfl⟩
theorem ex_ops (l : List AOp) (s : S) : ex env (.ops l) s = (exOps (run env) l s).map fun s' => (.normal, s') := by
  refine opt_ext (fun r h => ?_) fun r h => ?_
  · obtain ⟨n, h⟩ := (ex_iff env).1 h
    cases n with
    | zero => simp [exN] at h
    | succ n =>
      simp only [exN] at h
      split at h <;> try (cases h; done)
      rename_i s1 h1
      rw [exOps_mono (call_lt _) h1]
      exact h
  · cases h1 : exOps (run env) l s with
    | none => simp [h1] at h
    | some s1 =>
      simp [h1] at h
      obtain ⟨n, hn⟩ := exOps_lim h1
      refine (ex_iff env).2 ⟨n + 1, ?_⟩
      simp only [exN, exOps_mono (callN_mono env (Nat.le_succ n)) hn, h]
theorem ex_seq (a b : ACode) (s : S) : ex env (.seq a b) s = match ex env a s with
    | some (.normal, s') => ex env b s'
    | r => r := by
  refine opt_ext (fun r h => ?_) fun r h => ?_
  · obtain ⟨n, h⟩ := (ex_iff env).1 h
    cases n with
    | zero => simp [exN] at h
    | succ n =>
      simp only [exN] at h
      cases hx : exN (callN env (n + 1)) n a s with
      | none => simp [hx] at h
      | some p =>
        obtain ⟨e, s1⟩ := p
        rw [hx] at h
        rw [(ex_iff env).2 ⟨n + 1, upC (Nat.le_succ n) (Nat.le_refl _) hx⟩]
        cases e <;> first | exact h | exact (ex_iff env).2 ⟨n + 1, upC (Nat.le_succ n) (Nat.le_refl _) h⟩
  · cases hx : ex env a s with
    | none => simp [hx] at h
    | some p =>
      obtain ⟨e, s1⟩ := p
      rw [hx] at h
      obtain ⟨n, hn⟩ := (ex_iff env).1 hx
      cases e with
      | normal =>
        obtain ⟨n2, hn2⟩ := (ex_iff env).1 h
        refine (ex_iff env).2 ⟨max n n2 + 1, ?_⟩
        simp only [exN, upC (Nat.le_max_left n n2) (by omega : n ≤ max n n2 + 1) hn, upC (Nat.le_max_right n n2) (by omega : n2 ≤ max n n2 + 1) hn2]
      | exit i =>
        refine (ex_iff env).2 ⟨n + 1, ?_⟩
        simp only [exN, upC (Nat.le_refl n) (Nat.le_succ n) hn]
        exact h
      | ret =>
        refine (ex_iff env).2 ⟨n + 1, ?_⟩
        simp only [exN, upC (Nat.le_refl n) (Nat.le_succ n) hn]
        exact h
theorem ex_cond (c : Arg) (a b : ACode) (s : S) : ex env (.cond c a b) s = match c.get s.t with
    | .p (.bool v) => bif v then ex env a s else ex env b s
    | _ => none := by
  refine opt_ext (fun r h => ?_) fun r h => ?_
  · obtain ⟨n, h⟩ := (ex_iff env).1 h
    cases n with
    | zero => simp [exN] at h
    | succ n =>
      simp only [exN] at h
      split at h
      · rename_i hc; rw [hc]; exact (ex_iff env).2 ⟨n + 1, upC (Nat.le_succ n) (Nat.le_refl _) h⟩
      · rename_i hc; rw [hc]; exact (ex_iff env).2 ⟨n + 1, upC (Nat.le_succ n) (Nat.le_refl _) h⟩
      · cases h
  · split at h <;> try (cases h; done)
    rename_i v hc
    cases v with
    | true =>
      obtain ⟨n, hn⟩ := (ex_iff env).1 h
      exact (ex_iff env).2 ⟨n + 1, by simp only [exN, hc]; exact upC (Nat.le_refl n) (Nat.le_succ n) hn⟩
    | false =>
      obtain ⟨n, hn⟩ := (ex_iff env).1 h
      exact (ex_iff env).2 ⟨n + 1, by simp only [exN, hc]; exact upC (Nat.le_refl n) (Nat.le_succ n) hn⟩
theorem ex_block (id : Nat) (ks bs : List Nat) (c : ACode) (s : S) : ex env (.block id ks bs c) s = match ex env c s with
    | some (.exit i, s') => if i = id then some (.normal, norm ks bs s') else some (.exit i, s')
    | some (.normal, s') => some (.normal, norm ks bs s')
    | r => r := by
  refine opt_ext (fun r h => ?_) fun r h => ?_
  · obtain ⟨n, h⟩ := (ex_iff env).1 h
    cases n with
    | zero => simp [exN] at h
    | succ n =>
      simp only [exN] at h
      cases hx : exN (callN env (n + 1)) n c s with
      | none => simp [hx] at h
      | some p =>
        rw [hx] at h
        rw [(ex_iff env).2 ⟨n + 1, upC (Nat.le_succ n) (Nat.le_refl _) hx⟩]
        exact h
  · cases hx : ex env c s with
    | none => simp [hx] at h
    | some p =>
      rw [hx] at h
      obtain ⟨n, hn⟩ := (ex_iff env).1 hx
      refine (ex_iff env).2 ⟨n + 1, ?_⟩
      simp only [exN, upC (Nat.le_refl n) (Nat.le_succ n) hn]
      exact h
theorem ex_node (id : Nat) (ki bi ks bs : List Nat) (c : ACode) (s : S) : ex env (.node id ki bi ks bs c) s = match ex env c (norm ki bi s) with
    | some (.normal, s') => some (.normal, norm ks bs s')
    | r => r := by
  refine opt_ext (fun r h => ?_) fun r h => ?_
  · obtain ⟨n, h⟩ := (ex_iff env).1 h
    cases n with
    | zero => simp [exN] at h
    | succ n =>
      simp only [exN] at h
      cases hx : exN (callN env (n + 1)) n c (norm ki bi s) with
      | none => simp [hx] at h
      | some p =>
        rw [hx] at h
        rw [(ex_iff env).2 ⟨n + 1, upC (Nat.le_succ n) (Nat.le_refl _) hx⟩]
        exact h
  · cases hx : ex env c (norm ki bi s) with
    | none => simp [hx] at h
    | some p =>
      rw [hx] at h
      obtain ⟨n, hn⟩ := (ex_iff env).1 hx
      refine (ex_iff env).2 ⟨n + 1, ?_⟩
      simp only [exN, upC (Nat.le_refl n) (Nat.le_succ n) hn]
      exact h
theorem ex_loop (ks bs : List Nat) (c : ACode) (s : S) : ex env (.loop ks bs c) s = match ex env c (norm ks bs s) with
    | some (.normal, s') => ex env (.loop ks bs c) s'
    | r => r := by
  refine opt_ext (fun r h => ?_) fun r h => ?_
  · obtain ⟨n, h⟩ := (ex_iff env).1 h
    cases n with
    | zero => simp [exN] at h
    | succ n =>
      simp only [exN] at h
      cases hx : exN (callN env (n + 1)) n c (norm ks bs s) with
      | none => simp [hx] at h
      | some p =>
        obtain ⟨e, s1⟩ := p
        rw [hx] at h
        rw [(ex_iff env).2 ⟨n + 1, upC (Nat.le_succ n) (Nat.le_refl _) hx⟩]
        cases e <;> first | exact h | exact (ex_iff env).2 ⟨n + 1, upC (Nat.le_succ n) (Nat.le_refl _) h⟩
  · cases hx : ex env c (norm ks bs s) with
    | none => simp [hx] at h
    | some p =>
      obtain ⟨e, s1⟩ := p
      rw [hx] at h
      obtain ⟨n, hn⟩ := (ex_iff env).1 hx
      cases e with
      | normal =>
        obtain ⟨n2, hn2⟩ := (ex_iff env).1 h
        refine (ex_iff env).2 ⟨max n n2 + 1, ?_⟩
        simp only [exN, upC (Nat.le_max_left n n2) (by omega : n ≤ max n n2 + 1) hn, upC (Nat.le_max_right n n2) (by omega : n2 ≤ max n n2 + 1) hn2]
      | exit i =>
        refine (ex_iff env).2 ⟨n + 1, ?_⟩
        simp only [exN, upC (Nat.le_refl n) (Nat.le_succ n) hn]
        exact h
      | ret =>
        refine (ex_iff env).2 ⟨n + 1, ?_⟩
        simp only [exN, upC (Nat.le_refl n) (Nat.le_succ n) hn]
        exact h
theorem ex_rnd (ks bs : List Nat) (c : ACode) (s : S) : ex env (.rnd ks bs c) s = match ex env c s with
    | some (e, s') => some (e, norm ks bs s')
    | none => none := by
  refine opt_ext (fun r h => ?_) fun r h => ?_
  · obtain ⟨n, h⟩ := (ex_iff env).1 h
    cases n with
    | zero => simp [exN] at h
    | succ n =>
      simp only [exN] at h
      cases hx : exN (callN env (n + 1)) n c s with
      | none => simp [hx] at h
      | some p =>
        rw [hx] at h
        rw [(ex_iff env).2 ⟨n + 1, upC (Nat.le_succ n) (Nat.le_refl _) hx⟩]
        exact h
  · cases hx : ex env c s with
    | none => simp [hx] at h
    | some p =>
      rw [hx] at h
      obtain ⟨n, hn⟩ := (ex_iff env).1 hx
      refine (ex_iff env).2 ⟨n + 1, ?_⟩
      simp only [exN, upC (Nat.le_refl n) (Nat.le_succ n) hn]
      exact h
theorem run_eq (f : Nat) (args : List PV) (hit : ∀ sh caps, args ≠ .it sh 0 :: caps) : run env f args = match env f with
    | some af => if args.length = af.np ∧ yOK af args = true then match ex env af.body (start af args) with
        | some (.normal, s) => result s af.res
        | some (.ret, s) => result s af.res
        | _ => none
      else none
    | none => none := by
  refine opt_ext (fun r h => ?_) fun r h => ?_
  · obtain ⟨n, h⟩ := (run_iff env).1 h
    cases n with
    | zero => cases h
    | succ n =>
      rw [callN_fn env n f args hit] at h
      split at h <;> try (cases h; done)
      rename_i af haf
      split at h <;> try (cases h; done)
      rename_i hl
      rw [haf]
      simp only [if_pos hl]
      cases hx : exN (callN env n) n af.body (start af args) with
      | none => simp [hx] at h
      | some p =>
        rw [hx] at h
        rw [(ex_iff env).2 ⟨n, hx⟩]
        exact h
  · split at h <;> try (cases h; done)
    rename_i af haf
    split at h <;> try (cases h; done)
    rename_i hl
    cases hx : ex env af.body (start af args) with
    | none => simp [hx] at h
    | some p =>
      rw [hx] at h
      obtain ⟨n, hn⟩ := (ex_iff env).1 hx
      refine (run_iff env).2 ⟨n + 1, ?_⟩
      rw [callN_fn env n f args hit]
      simp only [haf, if_pos hl, hn]
      exact h
theorem run_ln_of {f : Nat} {af : AFn} {as : List AV} {ms : List Blk} {s0 s : S} {e : Ext} {v : AV × List Blk} (hf : env f = some af) (hl : as.length = af.np) (h1 : af.rf = false) (h2 : bsOK af.nt af.body = true) (h3 : startB af as ms = some s0)
    (h4 : ex env af.body s0 = some (e, s)) (h5 : e = .normal ∨ e = .ret) (h6 : resultB af.nt ms.length s af.res = some v) : (run env).ln f as ms = some v := by
  obtain ⟨n, hn⟩ := (ex_iff env).1 h4
  refine (run_ln env).2 ⟨n + 1, ?_⟩
  rw [callN_ln env n f as ms]
  simp only [hf, if_pos (And.intro hl (And.intro h1 h2)), h3, hn]
  rcases h5 with rfl | rfl <;> exact h6
theorem bound_all {p : Nat → Nat → Prop} (hm : ∀ {k n n'}, n ≤ n' → p k n → p k n') : ∀ (N : Nat), (∀ k, k ≤ N → ∃ n, p k n) → ∃ n, ∀ k, k ≤ N → p k n
  | 0, h => by
    obtain ⟨n, hn⟩ := h 0 (Nat.le_refl _)
    exact ⟨n, fun k hk => by rw [Nat.le_zero.1 hk]; exact hn⟩
  | N + 1, h => by
    obtain ⟨n1, h1⟩ := bound_all (p := p) (fun a b => hm a b) N fun k hk => h k (by omega)
    obtain ⟨n2, h2⟩ := h (N + 1) (Nat.le_refl _)
    refine ⟨max n1 n2, fun k hk => ?_⟩
    by_cases he : k = N + 1
    · subst he; exact hm (Nat.le_max_right _ _) h2
    · exact hm (Nat.le_max_left _ _) (h1 k (by omega))
theorem run_it {f : Nat} {sh : List (Option Nat)} {caps : List PV} {N : Nat} {cs : List PV} (h : Full (fun k => run env f (.it sh k :: caps)) sh N cs) : run env f (.it sh 0 :: caps) = some (.val (.list N cs)) := by
  obtain ⟨h1, h2, h3⟩ := h
  obtain ⟨n, hn⟩ := bound_all (p := fun k n => callN env n f (.it sh (k + 1) :: caps) = some (.val (.list (min (k + 1) N) (cs.take (min (k + 1) N * shSize sh))))) (fun hnn h => (callN_mono env hnn).fn _ _ _ h) N fun k hk => (run_iff env).1 (h3 k hk)
  refine (run_iff env).2 ⟨n + 1, ?_⟩
  rw [callN_it]
  exact full_iff.2 ⟨N, cs, rfl, h1, h2, hn⟩
theorem run_sound {P : Program} (hm : P.follows .mixedOrders = true) (hE : EnvOK P env) : CallOK P (run env) := ⟨fun f as ms v ms' h => by
  obtain ⟨n, h⟩ := (run_ln env).1 h
  exact (calls_sound hm hE n).ln f as ms v ms' h, fun f args rv h => by
  obtain ⟨n, h⟩ := (run_iff env).1 h
  exact (calls_sound hm hE n).fn f args rv h, fun f sh caps rv h => by
  obtain ⟨n, h⟩ := (run_iff env).1 h
  exact (calls_sound hm hE n).it f sh caps rv h⟩
end Gv
