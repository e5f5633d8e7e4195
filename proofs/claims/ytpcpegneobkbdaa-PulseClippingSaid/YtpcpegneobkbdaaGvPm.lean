/- More fuel gives no other answer. -/
import Derived.Test.YtpcpegneobkbdaaGvP
namespace Gv
open Go

/-! ### More fuel gives no other answer -/

def CLe (c c' : Nat → List PV → Option RV) : Prop := ∀ f a r, c f a = some r → c' f a = some r

theorem runL_other (c c' : Nat → List PV → Option RV) {k : KL} (vs : List AV) (h : k ≠ .call) : runL c k vs = runL c' k vs := by
  cases k <;> first | (exact absurd rfl h) | (unfold runL; split <;> first | rfl | (rename_i hq; cases hq; done))
theorem runA_other (c c' : Nat → List PV → Option RV) {d : Nat} {k : KA} (vs : List AV) (h : k ≠ .callO) : runA c d k vs = runA c' d k vs := by
  cases k <;> first | (exact absurd rfl h) | (unfold runA; split <;> first | rfl | (rename_i hq; cases hq; done))
theorem runS_other (c c' : Nat → List PV → Option RV) {k : KS} (vs : List AV) (m : List Blk) (h : ∀ d, k ≠ .callF d) : runS c k vs m = runS c' k vs m := by
  cases k <;> first | (exact absurd rfl (h _)) | (unfold runS; split <;> first | rfl | (rename_i hq; cases hq; done))

theorem runL_mono {c c' : Nat → List PV → Option RV} (h : CLe c c') {k : KL} {vs : List AV} {v : AV} (hr : runL c k vs = some v) : runL c' k vs = some v := by
  cases k
  case call =>
    cases vs with
    | nil => exact hr
    | cons x vs =>
      cases x <;> try exact hr
      rename_i p
      cases p <;> try exact hr
      rename_i f caps
      simp only [runL] at hr ⊢
      split at hr <;> try (cases hr; done)
      rename_i ps hps
      cases hc : c f (ps ++ caps) with
      | none => simp [hc] at hr
      | some rv => simp only [hc, h _ _ _ hc] at hr ⊢; exact hr
  all_goals (rw [← runL_other c c' vs (by simp)]; exact hr)

theorem runA_mono {c c' : Nat → List PV → Option RV} (h : CLe c c') {d : Nat} {k : KA} {vs : List AV} {v : AV × Blk} (hr : runA c d k vs = some v) : runA c' d k vs = some v := by
  cases k
  case callO =>
    cases vs with
    | nil => exact hr
    | cons x vs =>
      cases x <;> try exact hr
      rename_i p
      cases p <;> try exact hr
      rename_i f caps
      simp only [runA] at hr ⊢
      split at hr <;> try (cases hr; done)
      rename_i ps hps
      cases hc : c f (ps ++ caps) with
      | none => simp [hc] at hr
      | some rv => simp only [hc, h _ _ _ hc] at hr ⊢; exact hr
  all_goals (rw [← runA_other c c' vs (by simp)]; exact hr)

theorem runS_mono {c c' : Nat → List PV → Option RV} (h : CLe c c') {k : KS} {vs : List AV} {m : List Blk} {v : AV × List Blk} (hr : runS c k vs m = some v) : runS c' k vs m = some v := by
  cases k
  case callF d =>
    simp only [runS] at hr ⊢
    split at hr <;> try (cases hr; done)
    rename_i f caps ps hps
    cases hc : c f (ps ++ caps) with
    | none => simp [hc] at hr
    | some rv => simp only [hc, h _ _ _ hc] at hr ⊢; exact hr
  all_goals (rw [← runS_other c c' vs m (by simp)]; exact hr)

theorem runK_mono {c c' : Nat → List PV → Option RV} (h : CLe c c') {k : K} {vs : List AV} {m : List Blk} {v : AV × List Blk} (hr : runK c k vs m = some v) : runK c' k vs m = some v := by
  cases k with
  | l k =>
    simp only [runK] at hr ⊢
    cases hk : runL c k vs with
    | none => simp [hk] at hr
    | some x => rw [runL_mono h hk]; rw [hk] at hr; exact hr
  | ld _ _ _ => exact hr
  | a d k =>
    simp only [runK] at hr ⊢
    split at hr <;> try (cases hr; done)
    cases hk : runA c d k vs with
    | none => simp [hk] at hr
    | some x => rw [runA_mono h hk]; rw [hk] at hr; exact hr
  | s k =>
    simp only [runK] at hr ⊢
    exact runS_mono h hr

theorem exOp_mono {c c' : Nat → List PV → Option RV} (h : CLe c c') {o : AOp} {s s' : S} (hr : exOp c o s = some s') : exOp c' o s = some s' := by
  simp only [exOp] at hr ⊢
  split at hr
  · cases hr
  · exact hr
  · split at hr <;> try (cases hr; done)
    rename_i v m hk
    rw [runK_mono h hk]
    exact hr

theorem exOps_mono {c c' : Nat → List PV → Option RV} (h : CLe c c') : ∀ {l : List AOp} {s s' : S}, exOps c l s = some s' → exOps c' l s = some s'
  | [], _, _, hr => hr
  | o :: l, s, s', hr => by
    simp only [exOps] at hr ⊢
    split at hr <;> try (cases hr; done)
    rename_i s1 h1
    rw [exOp_mono h h1]
    exact exOps_mono h hr

theorem exN_mono {c c' : Nat → List PV → Option RV} (h : CLe c c') : ∀ {n n' : Nat} {a : ACode} {s : S} {r : Ext × S}, n ≤ n' → exN c n a s = some r → exN c' n' a s = some r
  | 0, _, _, _, _, _, hr => by simp [exN] at hr
  | n + 1, 0, _, _, _, hn, _ => by omega
  | n + 1, n' + 1, a, s, r, hn, hr => by
    have hn : n ≤ n' := by omega
    cases a with
    | skip => exact hr
    | exit _ => exact hr
    | ret _ _ => exact hr
    | ops l =>
      simp only [exN] at hr ⊢
      split at hr <;> try (cases hr; done)
      rename_i s1 h1
      rw [exOps_mono h h1]
      exact hr
    | seq x y =>
      simp only [exN] at hr ⊢
      cases hx : exN c n x s with
      | none => simp [hx] at hr
      | some p =>
        obtain ⟨e, s1⟩ := p
        rw [exN_mono h hn hx]
        rw [hx] at hr
        cases e <;> first | exact hr | exact exN_mono h hn hr
    | cond v x y =>
      simp only [exN] at hr ⊢
      split at hr
      · exact exN_mono h hn hr
      · exact exN_mono h hn hr
      · cases hr
    | block id _ _ x =>
      simp only [exN] at hr ⊢
      cases hx : exN c n x s with
      | none => simp [hx] at hr
      | some p =>
        obtain ⟨e, s1⟩ := p
        rw [exN_mono h hn hx]
        rw [hx] at hr
        exact hr
    | node id ki bi ks bs x =>
      simp only [exN] at hr ⊢
      cases hx : exN c n x (norm ki bi s) with
      | none => simp [hx] at hr
      | some p =>
        obtain ⟨e, s1⟩ := p
        rw [exN_mono h hn hx]
        rw [hx] at hr
        exact hr
    | loop ks bs x =>
      simp only [exN] at hr ⊢
      cases hx : exN c n x (norm ks bs s) with
      | none => simp [hx] at hr
      | some p =>
        obtain ⟨e, s1⟩ := p
        rw [exN_mono h hn hx]
        rw [hx] at hr
        cases e <;> first | exact hr | exact exN_mono h hn hr

variable (env : Nat → Option AFn)

theorem callN_mono : ∀ {n n' : Nat}, n ≤ n' → CLe (callN env n) (callN env n')
  | 0, _, _ => fun _ _ _ h => by simp [callN] at h
  | n + 1, 0, hn => by omega
  | n + 1, n' + 1, hn => fun f a r hr => by
    have hn : n ≤ n' := by omega
    simp only [callN] at hr ⊢
    split at hr <;> try (cases hr; done)
    rename_i af haf
    split at hr <;> try (cases hr; done)
    rename_i hl
    rw [if_pos hl]
    cases hx : exN (callN env n) n af.body (start af a) with
    | none => simp [hx] at hr
    | some p =>
      rw [exN_mono (callN_mono hn) hn hx]
      rw [hx] at hr
      exact hr
end Gv
