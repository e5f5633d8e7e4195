/- One operation, whichever. -/
import Derived.Test.YtfhgjanheaocaaaGvLn
namespace Gv
open Go Go.RowKit
variable {P : Program} {X : Nat → Prop} {J : Nat → JT} {g : G} {St : Nat → Nat → Prop} {m : List Blk} {w : World} {call : CallT} {r : Option Nat}
theorem VRs.one_inv {vs : List AV} {a : Value} (h : VRs g m St w vs [a]) : ∃ x, vs = [x] ∧ VR g m St w x a := by
  cases vs with
  | nil => simp only [VRs] at h; cases h
  | cons x vs =>
    simp only [VRs] at h
    obtain ⟨y, ys, he, h1, h2⟩ := h
    simp only [List.cons.injEq] at he
    obtain ⟨rfl, rfl⟩ := he
    cases vs with
    | nil => exact ⟨x, rfl, h1⟩
    | cons _ _ => simp only [VRs] at h2; obtain ⟨_, _, h3, _⟩ := h2; cases h3
theorem VRs.two_inv {vs : List AV} {a b : Value} (h : VRs g m St w vs [a, b]) : ∃ x y, vs = [x, y] ∧ VR g m St w x a ∧ VR g m St w y b := by
  cases vs with
  | nil => simp only [VRs] at h; cases h
  | cons x vs =>
    simp only [VRs] at h
    obtain ⟨y, ys, he, h1, h2⟩ := h
    simp only [List.cons.injEq] at he
    obtain ⟨rfl, rfl⟩ := he
    obtain ⟨z, rfl, h3⟩ := VRs.one_inv h2
    exact ⟨x, z, rfl, h1, h3⟩
theorem VRs.three_inv {vs : List AV} {a b c : Value} (h : VRs g m St w vs [a, b, c]) : ∃ x y z, vs = [x, y, z] ∧ VR g m St w x a ∧ VR g m St w y b ∧ VR g m St w z c := by
  cases vs with
  | nil => simp only [VRs] at h; cases h
  | cons x vs =>
    simp only [VRs] at h
    obtain ⟨y, ys, he, h1, h2⟩ := h
    simp only [List.cons.injEq] at he
    obtain ⟨rfl, rfl⟩ := he
    obtain ⟨z, t, rfl, h3, h4⟩ := VRs.two_inv h2
    exact ⟨x, z, t, rfl, h1, h3, h4⟩
theorem runK_l {k : KL} {vs : List AV} {v : AV} {m' : List Blk} (h : runK call (.l k) vs m = some (v, m')) : runL call k vs = some v ∧ m' = m := by
  simp only [runK] at h
  cases hr : runL call k vs with
  | none => simp [hr] at h
  | some x => simp [hr] at h; exact ⟨by rw [h.1], h.2.symm⟩
theorem appB_run {d n : Nat} {vs : List AV} {m : List Blk} {r : AV × List Blk} (h : runS call (.appendB d n) vs m = some r) : runS call (.append d n) vs m = some r := by
  rcases vs with _ | ⟨x, _ | ⟨y, _ | ⟨z, t⟩⟩⟩
  · simp [runS] at h
  · simp [runS] at h
  · simp only [runS] at h ⊢
    split at h
    · exact h
    · cases h
  · simp [runS] at h
theorem runK_ld {av : List Nat} {n : Nat} {ag : Bool} {vs : List AV} {v : AV} {m' : List Blk} (h : runK call (.ld av n ag) vs m = some (v, m')) : runDV n ag vs av m = some v ∧ m' = m := by
  simp only [runK] at h
  cases hr : runDV n ag vs av m with
  | none => simp [hr] at h
  | some x => simp [hr] at h; exact ⟨by rw [h.1], h.2.symm⟩
theorem runK_a {d : Nat} {k : KA} {vs : List AV} {v : AV} {m' : List Blk} (h : runK call (.a d k) vs m = some (v, m')) : m[d]? = some .none ∧ ∃ blk, runA call d k vs = some (v, blk) ∧ m' = m.set d blk := by
  simp only [runK] at h
  split at h
  · rename_i hd
    cases hr : runA call d k vs with
    | none => simp [hr] at h
    | some x =>
      obtain ⟨x1, x2⟩ := x
      simp [hr] at h
      exact ⟨hd, x2, by rw [h.1], h.2.symm⟩
  · cases h
theorem run_builtin (w : World) (ρ : Operand → Value) (dst : Option Tmp) (c : Call) (ty : TypeId) (pos : String) (after : Array Edge) (gd : Option (Nat × Bool)) {b : Builtin} (hf : c.callee = .builtin b) :
    ∃ cs, (execOp ρ ⟨dst, .call c, ty, pos, after, gd⟩).run P w = (builtin b c.argTypes ty cs (c.args.map ρ)).run P w := by
  refine ⟨c.args.map fun | .const _ => true | _ => false, ?_⟩
  simp only [execOp, resolve, hf, Sem.run_bind, Sem.run_pure, Result.andThen_ok, invoke]
  rfl
theorem len_wp (h : MemOK X J g St m w) {dst : Option Tmp} {c : Call} {ty : TypeId} {pos : String} {after : Array Edge} {gd : Option (Nat × Bool)} {t e : TypeId} {a : Act} {vs : List AV} {v : AV} {K : Act → World → Prop} {Q : Exit → Act → World → Prop}
    (hf : c.callee = .builtin .len) (ht : c.argTypes[0]? = some t) (hu : P.underlying t = some (.slice e)) (hq : runL call .len vs = some v) (hv : VRs g m St w vs (c.args.toList.map a.eval))
    (hK : ∀ u w', Step X J g St m w v m u w' → K (a.put dst u) w') : (⟨dst, .call c, ty, pos, after, gd⟩ : Oper).wpIn (FW r) 0 P a w K Q := by
  cases vs with
  | nil => simp [runL] at hq
  | cons x vs =>
    cases vs with
    | cons _ _ => simp [runL] at hq
    | nil =>
      obtain ⟨ux, hux, hx⟩ := hv.one
      have hargs : c.args.map a.eval = #[ux] := by rw [← Array.toList_inj]; simp [hux]
      have key : ∃ n : Nat, v = .p (.int .i64 n) ∧ ∃ a cap, ux = .slice a n cap := by
        simp only [runL] at hq
        split at hq
        · rename_i b o n sz
          simp at hq; subst hq
          simp only [VR] at hx
          obtain ⟨_, cap, hx, _⟩ := hx
          exact ⟨n, rfl, _, _, hx⟩
        · rename_i b n sz
          simp at hq; subst hq
          simp only [VR] at hx
          obtain ⟨q, cap, hx, _⟩ := hx
          exact ⟨n, rfl, _, _, hx⟩
        · split at hq
          · rename_i n cs hl
            simp at hq; subst hq
            obtain ⟨a', cap, us, rfl, _⟩ := asList_spec hl hx
            exact ⟨n, rfl, _, _, rfl⟩
          · cases hq
      obtain ⟨n, rfl, a', cap, rfl⟩ := key
      obtain ⟨cs, hb⟩ := run_builtin (P := P) w a.eval dst c ty pos after gd hf
      refine wp_val (u := goInt n) ?_ (hK _ _ (Step.same h (by simp [VR, PR, goInt])))
      rw [hb]
      simp [builtin, Builtin.len_, ht, hargs, run_underlying hu]
theorem slen_wp (h : MemOK X J g St m w) {dst : Option Tmp} {c : Call} {ty : TypeId} {pos : String} {after : Array Edge} {gd : Option (Nat × Bool)} {t : TypeId} {a : Act} {vs : List AV} {v : AV} {K : Act → World → Prop} {Q : Exit → Act → World → Prop}
    (hf : c.callee = .builtin .len) (ht : c.argTypes[0]? = some t) (hu : P.underlying t = some .string) (hq : runL call .slen vs = some v) (hv : VRs g m St w vs (c.args.toList.map a.eval))
    (hK : ∀ u w', Step X J g St m w v m u w' → K (a.put dst u) w') : (⟨dst, .call c, ty, pos, after, gd⟩ : Oper).wpIn (FW r) 0 P a w K Q := by
  cases vs with
  | nil => simp [runL] at hq
  | cons x vs =>
    cases vs with
    | cons _ _ => simp [runL] at hq
    | nil =>
      obtain ⟨ux, hux, hx⟩ := hv.one
      have hargs : c.args.map a.eval = #[ux] := by rw [← Array.toList_inj]; simp [hux]
      simp only [runL] at hq
      split at hq
      · rename_i s
        simp at hq; subst hq
        simp only [VR, PR] at hx
        subst hx
        obtain ⟨cs, hb⟩ := run_builtin (P := P) w a.eval dst c ty pos after gd hf
        refine wp_val (u := goInt s.size) ?_ (hK _ _ (Step.same h (by simp [VR, PR, goInt])))
        rw [hb]
        simp [builtin, Builtin.len_, ht, hargs, run_underlying hu]
      · cases hq
theorem op_sound {nT : Nat} {csT : List PV} (hcall : CallOK P call) (h : MemOK X J g St m w) {av : List Nat} {o : Oper} {k : K} {xs : List Operand} {a : Act} {vs : List AV} {v : AV} {m' : List Blk} {K : Act → World → Prop} {Q : Exit → Act → World → Prop}
    (hk : kindC P av o = some (k, xs)) (hv : VRs g m St w vs (xs.map a.eval)) (hr : runK call k vs m = some (v, m'))
    (hy : YH P J g m' nT csT) (hK : ∀ u w', Step X J g St m w v m' u w' → K (a.put o.dst u) w') : o.wpIn (FW r) 0 P a w K Q := by
  obtain ⟨dst, op, ty, pos, after, gd⟩ := o
  cases op <;> simp only [kindC] at hk <;> try (cases hk; done)
  case move x =>
    simp at hk; obtain ⟨rfl, rfl⟩ := hk
    obtain ⟨hq, rfl⟩ := runK_l hr
    obtain ⟨y, rfl, hy⟩ := VRs.one_inv hv
    simp [runL] at hq; subst hq
    exact wp_val (u := a.eval x) rfl (hK _ _ (Step.same h hy))
  case assign x =>
    simp at hk; obtain ⟨rfl, rfl⟩ := hk
    obtain ⟨hq, rfl⟩ := runK_l hr
    obtain ⟨y, rfl, hy⟩ := VRs.one_inv hv
    simp [runL] at hq; subst hq
    exact wp_val (u := a.eval x) rfl (hK _ _ (Step.same h hy))
  case pick c x y =>
    simp at hk; obtain ⟨rfl, rfl⟩ := hk
    obtain ⟨hq, rfl⟩ := runK_l hr
    obtain ⟨vc, vx, vy, rfl, hc, hx, hy⟩ := VRs.three_inv hv
    simp only [runL] at hq
    split at hq
    · rename_i b
      simp at hq; subst hq
      have hb := hc.bool
      refine wp_val (u := if b then a.eval x else a.eval y) ?_ (hK _ _ (Step.same h ?_))
      · simp [execOp, hb, asBool]
      · cases b
        · exact hy
        · exact hx
    · cases hq
  case alloc e =>
    split at hk
    · rename_i d z hd hz
      simp at hk; obtain ⟨rfl, rfl⟩ := hk
      obtain ⟨hd0, blk, hq, rfl⟩ := runK_a hr
      cases vs with
      | cons _ _ => simp only [List.map_nil, VRs] at hv; obtain ⟨_, _, h0, _⟩ := hv; cases h0
      | nil =>
        obtain ⟨u, w', h1, h2⟩ := alloc_sound h hz hd0 hq
        exact wp_val (u := u) (by simp [execOp, h1]) (hK _ _ h2)
    · cases hk
  case box e x =>
    split at hk
    · rename_i d hd
      simp at hk; obtain ⟨rfl, rfl⟩ := hk
      obtain ⟨hd0, blk, hq, rfl⟩ := runK_a hr
      obtain ⟨y, rfl, hy⟩ := VRs.one_inv hv
      obtain ⟨u, w', h1, h2⟩ := box_sound (P := P) (e := e) h hd0 hq hy
      exact wp_val (u := u) (by simp [execOp, h1]) (hK _ _ h2)
    · cases hk
  case build t parts =>
    split at hk
    · rename_i z pl hz hpl
      split at hk
      · rename_i hok
        simp at hk; obtain ⟨rfl, rfl⟩ := hk
        obtain ⟨hq, rfl⟩ := runK_l hr
        obtain ⟨u, h1, h2⟩ := build_sound (call := call) (ρ := a.eval) hz hpl hok hq (by rw [List.map_map] at hv; exact hv)
        exact wp_val (u := u) (by simp only [execOp, Sem.run_bind]; rw [h1]; rfl) (hK _ _ (Step.same h h2))
      · cases hk
    · cases hk
  case buildSlice t n parts =>
    split at hk
    · rename_i e ht
      split at hk
      · rename_i k' z hk' hz
        split at hk
        · rename_i hc
          split at hk
          · rename_i hz0
            split at hk <;> try (cases hk; done)
            rename_i d hd
            simp only [Option.some.injEq, Prod.mk.injEq] at hk; obtain ⟨rfl, rfl⟩ := hk
            obtain ⟨hd0, blk, hq, rfl⟩ := runK_a hr
            have hvs : vs = [] := by
              cases vs with
              | nil => rfl
              | cons x xs => simp [VRs] at hv
            subst hvs
            simp only [runA, Option.some.injEq, Prod.mk.injEq] at hq
            obtain ⟨rfl, rfl⟩ := hq
            obtain ⟨u, w', h1, h2⟩ := bslO_sound (ρ := a.eval) h ht hk' hz hc hz0.1 hz0.2.1 hd0
            exact wp_val (u := u) (by simp only [execOp, Sem.run_bind]; rw [h1]; rfl) (hK _ _ h2)
          simp only [Option.some.injEq, Prod.mk.injEq] at hk; obtain ⟨rfl, rfl⟩ := hk
          split at hr
          · simp only [runK] at hr
            obtain ⟨u, w', h1, h2⟩ := bslF_sound (call := call) (ρ := a.eval) h ht hk' hz hc hr (by rw [List.map_map] at hv; exact hv)
            exact wp_val (u := u) (by simp only [execOp, Sem.run_bind]; rw [h1]; rfl) (hK _ _ h2)
          · obtain ⟨hq, rfl⟩ := runK_l hr
            obtain ⟨u, w', h1, h2⟩ := bsl_sound (call := call) (ρ := a.eval) h ht hk' hz hc hq (by rw [List.map_map] at hv; exact hv)
            exact wp_val (u := u) (by simp only [execOp, Sem.run_bind]; rw [h1]; rfl) (hK _ _ h2)
        · cases hk
      · cases hk
    · cases hk
  case load t x =>
    split at hk
    · rename_i ag n ha hn
      simp at hk; obtain ⟨rfl, rfl⟩ := hk
      obtain ⟨hq, rfl⟩ := runK_ld hr
      obtain ⟨u, h1, h2⟩ := loadV_sound h ha hn hq hv
      exact wp_val (u := u) (by simp [execOp, h1]) (hK _ _ (Step.same h h2))
    · cases hk
  case store t x y =>
    split at hk
    · rename_i n hn
      simp at hk; obtain ⟨rfl, rfl⟩ := hk
      obtain ⟨vx, vy, rfl, hx, hy⟩ := VRs.two_inv hv
      have hr : runS call (.store n) [vx, vy] m = some (v, m') := by
        have hr : runS call (storeK av x n) [vx, vy] m = some (v, m') := hr
        unfold storeK at hr
        split at hr
        · cases vx <;> simp only [runS] at hr ⊢ <;> try (cases hr; done)
          all_goals
            split at hr
            · exact hr
            · cases hr
        · exact hr
      obtain ⟨w', h1, h2⟩ := store_sound h hn hr hx hy
      exact wp_skp (by simp [execOp, h1]) (hK _ _ h2)
    · cases hk
  case binOp op t x y t' =>
    split at hk
    · rename_i c hc
      simp at hk; obtain ⟨rfl, rfl⟩ := hk
      obtain ⟨hq, rfl⟩ := runK_l hr
      obtain ⟨vx, vy, rfl, hx, hy⟩ := VRs.two_inv hv
      simp only [runL] at hq
      obtain ⟨u, h1, h2⟩ := bin_sound (x := x) (y := y) hc hq hx hy
      exact wp_val (u := u) (by simp only [execOp, Sem.run_bind] at h1 ⊢; rw [h1]; rfl) (hK _ _ (Step.same h h2))
    · cases hk
  case unOp op t x =>
    simp at hk; obtain ⟨rfl, rfl⟩ := hk
    obtain ⟨hq, rfl⟩ := runK_l hr
    obtain ⟨y, rfl, hy⟩ := VRs.one_inv hv
    simp only [runL] at hq
    obtain ⟨u, h1, h2⟩ := un_sound (P := P) hq hy
    exact wp_val (u := u) (by simp [execOp, h1]) (hK _ _ (Step.same h h2))
  case convert src dst' x =>
    split at hk
    · rename_i k1 k2 h1 h2
      simp at hk; obtain ⟨rfl, rfl⟩ := hk
      obtain ⟨hq, rfl⟩ := runK_l hr
      obtain ⟨y, rfl, hy⟩ := VRs.one_inv hv
      cases y <;> simp only [runL] at hq <;> try (cases hq; done)
      rename_i py
      cases py <;> (try simp only at hq) <;> try (cases hq; done)
      simp at hq; subst hq
      have := hy.int
      refine wp_val (u := .int k2 (k2.wrap _)) ?_ (hK _ _ (Step.same h VR.int_mk))
      simp [execOp, this, convert, run_underlying h1, run_underlying h2, Conv.intToInt]
    · cases hk
  case makeFunc fn first caps =>
    cases fn <;> simp only at hk <;> try (cases hk; done)
    rename_i f
    split at hk
    · rename_i hfirst
      simp at hk; obtain ⟨rfl, rfl⟩ := hk
      obtain ⟨hq, rfl⟩ := runK_l hr
      have hf0 : first = #[] := by simpa using hfirst
      subst hf0
      have hrun : (execOp a.eval ⟨dst, .makeFunc (.func f) #[] caps, ty, pos, after, gd⟩).run P w = .ok (.value (.func (.func f) #[] (caps.toList.map a.eval).toArray)) w := by
        have he : caps.map a.eval = (caps.toList.map a.eval).toArray := by rw [← Array.toList_inj]; simp
        simp [execOp, Instr.makeFunc, he]
      refine wp_val hrun (hK _ _ (Step.same h ?_))
      have hq : (match ps? vs with
        | some ps => some (AV.p (.fn f ps))
        | none => some (.clo f vs)) = some v := by unfold runL at hq; exact hq
      split at hq
      · rename_i ps hps
        simp at hq; subst hq
        have := ps_spec hps
        subst this
        simp only [VR, PR]
        exact ⟨_, rfl, PRs.of_map_p hv⟩
      · simp at hq; subst hq
        simp only [VR]
        exact ⟨_, rfl, hv⟩
    · cases hk
  case makeSlice t l c =>
    split at hk
    · rename_i d e hd ht
      split at hk
      · rename_i i z hi hz
        split at hk
        · rename_i hc
          simp at hk; obtain ⟨rfl, rfl⟩ := hk
          obtain ⟨hd0, blk, hq, rfl⟩ := runK_a hr
          obtain ⟨vx, vy, rfl, hx, hy⟩ := VRs.two_inv hv
          obtain ⟨u, w', h1, h2⟩ := mkS_sound h ht hi hz hc hd0 hq hx hy
          exact wp_val (u := u) (by simp [execOp, h1]) (hK _ _ h2)
        · cases hk
      · cases hk
    · cases hk
  case fieldAddr s x f =>
    split at hk <;> try (cases hk; done)
    rename_i fs hs
    split at hk <;> try (cases hk; done)
    rename_i fd hf
    split at hk <;> try (cases hk; done)
    rename_i n hn
    split at hk <;> try (cases hk; done)
    rename_i h0
    simp at hk; obtain ⟨rfl, rfl⟩ := hk
    obtain ⟨hq, rfl⟩ := runK_l hr
    obtain ⟨y, rfl, hy⟩ := VRs.one_inv hv
    obtain ⟨u, h1, h2⟩ := fadr_sound hs hf hn h0 hq hy
    exact wp_val (u := u) (by simp [execOp, h1]) (hK _ _ (Step.same h h2))
  case nilCheck x =>
    simp at hk; obtain ⟨rfl, rfl⟩ := hk
    obtain ⟨hq, rfl⟩ := runK_l hr
    obtain ⟨y, rfl, hy⟩ := VRs.one_inv hv
    obtain ⟨⟨ad, h1⟩, h2⟩ := nck_sound hq hy
    exact wp_val (u := a.eval x) (by simp [execOp, h1]) (hK _ _ (Step.same h h2))
  case field s x f =>
    split at hk <;> try (cases hk; done)
    rename_i fs hs
    split at hk <;> try (cases hk; done)
    rename_i fd hf
    split at hk <;> try (cases hk; done)
    rename_i n ag hn ha
    simp at hk; obtain ⟨rfl, rfl⟩ := hk
    obtain ⟨hq, rfl⟩ := runK_l hr
    obtain ⟨y, rfl, hy⟩ := VRs.one_inv hv
    obtain ⟨u, h1, h2⟩ := fval_sound hs hf hn ha hq hy
    exact wp_val (u := u) (by simp [execOp, h1]) (hK _ _ (Step.same h h2))
  case indexAddr t x i =>
    split at hk <;> try (cases hk; done)
    · rename_i n e ht
      split at hk <;> try (cases hk; done)
      rename_i k' hk'
      simp at hk; obtain ⟨rfl, rfl⟩ := hk
      obtain ⟨hq, rfl⟩ := runK_l hr
      obtain ⟨vx, vy, rfl, hx, hy⟩ := VRs.two_inv hv
      obtain ⟨u, h1, h2⟩ := iadr_array ht hk' hq hx hy
      exact wp_val (u := u) (by simp [execOp, h1]) (hK _ _ (Step.same h h2))
    · rename_i e ht
      split at hk <;> try (cases hk; done)
      rename_i k' hk'
      simp at hk; obtain ⟨rfl, rfl⟩ := hk
      obtain ⟨hq, rfl⟩ := runK_l hr
      obtain ⟨vx, vy, rfl, hx, hy⟩ := VRs.two_inv hv
      obtain ⟨u, h1, h2⟩ := iadr_slice ht hk' hq hx hy
      exact wp_val (u := u) (by simp [execOp, h1]) (hK _ _ (Step.same h h2))
  case index t x i =>
    split at hk <;> try (cases hk; done)
    · rename_i n e ht
      split at hk <;> try (cases hk; done)
      rename_i k' ag hk' ha
      simp at hk; obtain ⟨rfl, rfl⟩ := hk
      obtain ⟨hq, rfl⟩ := runK_l hr
      obtain ⟨vx, vy, rfl, hx, hy⟩ := VRs.two_inv hv
      obtain ⟨u, h1, h2⟩ := idx_sound ht hk' ha hq hx hy
      exact wp_val (u := u) (by simp [execOp, h1]) (hK _ _ (Step.same h h2))
    · rename_i ht
      simp at hk; obtain ⟨rfl, rfl⟩ := hk
      obtain ⟨hq, rfl⟩ := runK_l hr
      obtain ⟨vx, vy, rfl, hx, hy⟩ := VRs.two_inv hv
      obtain ⟨u, h1, h2⟩ := sidx_sound ht hq hx hy
      exact wp_val (u := u) (by simp [execOp, h1]) (hK _ _ (Step.same h h2))
  case slice t x lo hi mx =>
    cases mx with
    | some _ => simp at hk
    | none =>
      rw [if_neg (by simp)] at hk
      have parts : ∀ {vs : List AV}, VRs g m St w vs ((x :: (lo.toList ++ hi.toList)).map a.eval) → ∃ y bs, vs = y :: bs ∧ VR g m St w y (a.eval x) ∧ VRs g m St w bs ((lo.map a.eval).toList ++ (hi.map a.eval).toList) := by
        intro vs hv
        have e : (lo.map a.eval).toList ++ (hi.map a.eval).toList = (lo.toList ++ hi.toList).map a.eval := by cases lo <;> cases hi <;> rfl
        rw [e]
        cases vs with
        | nil => simp [VRs] at hv
        | cons y bs =>
          simp only [List.map_cons, VRs] at hv
          obtain ⟨z, zs, he, h1, h2⟩ := hv
          simp only [List.cons.injEq] at he
          obtain ⟨rfl, rfl⟩ := he
          exact ⟨y, bs, rfl, h1, h2⟩
      have i1 : (lo.map a.eval).isSome = lo.isSome := by cases lo <;> rfl
      have i2 : (hi.map a.eval).isSome = hi.isSome := by cases hi <;> rfl
      split at hk <;> try (cases hk; done)
      · rename_i n e ht
        split at hk <;> try (cases hk; done)
        rename_i k' hk'
        simp only [Option.some.injEq, Prod.mk.injEq] at hk; obtain ⟨rfl, rfl⟩ := hk
        obtain ⟨hq, rfl⟩ := runK_l hr
        obtain ⟨y, bs, rfl, hx, hy⟩ := parts hv
        rw [← i1, ← i2] at hq
        obtain ⟨u, h1, h2⟩ := slc_array ht hk' hq hx hy
        exact wp_val (u := u) (by simp [execOp, h1]) (hK _ _ (Step.same h h2))
      · rename_i e ht
        split at hk <;> try (cases hk; done)
        rename_i k' hk'
        simp only [Option.some.injEq, Prod.mk.injEq] at hk; obtain ⟨rfl, rfl⟩ := hk
        obtain ⟨hq, rfl⟩ := runK_l hr
        obtain ⟨y, bs, rfl, hx, hy⟩ := parts hv
        rw [← i1, ← i2] at hq
        obtain ⟨u, h1, h2⟩ := slc_slice ht hk' hq hx hy
        exact wp_val (u := u) (by simp [execOp, h1]) (hK _ _ (Step.same h h2))
      · rename_i ht
        simp only [Option.some.injEq, Prod.mk.injEq] at hk; obtain ⟨rfl, rfl⟩ := hk
        obtain ⟨hq, rfl⟩ := runK_l hr
        obtain ⟨y, bs, rfl, hx, hy⟩ := parts hv
        rw [← i1, ← i2] at hq
        obtain ⟨u, h1, h2⟩ := slc_string ht hq hx hy
        exact wp_val (u := u) (by simp [execOp, h1]) (hK _ _ (Step.same h h2))
  case extract x i =>
    simp at hk; obtain ⟨rfl, rfl⟩ := hk
    obtain ⟨hq, rfl⟩ := runK_l hr
    obtain ⟨y, rfl, hy⟩ := VRs.one_inv hv
    cases y <;> simp only [runL] at hq <;> try (cases hq; done)
    rename_i py
    cases py <;> (try simp only at hq) <;> try (cases hq; done)
    split at hq <;> try (cases hq; done)
    rename_i x' hx'
    simp at hq; subst hq
    simp only [VR, PR] at hy
    obtain ⟨us, he, hus⟩ := hy
    obtain ⟨u, h1, h2⟩ := hus.get hx'
    refine wp_val (u := u) ?_ (hK _ _ (Step.same h (by simpa [VR] using h2)))
    simp [execOp, he, Instr.extract, h1]
  case call c =>
    split at hk
    · rename_i f hf
      split at hk
      · simp at hk; obtain ⟨rfl, rfl⟩ := hk
        exact yld_sound h hy rfl hf hr hv hK
      split at hk
      · simp at hk; obtain ⟨rfl, rfl⟩ := hk
        exact lend_sound hcall h rfl hf hr hv hK
      split at hk
      · simp at hk; obtain ⟨rfl, rfl⟩ := hk
        exact callF_sound hcall h rfl hf hr hv hK
      split at hk
      · split at hk
        · rename_i d hd
          simp at hk; obtain ⟨rfl, rfl⟩ := hk
          obtain ⟨hd0, blk, hq, rfl⟩ := runK_a hr
          exact callG_sound hcall h rfl hf hd0 hq hv hK
        · cases hk
      split at hk
      · split at hk
        · rename_i d hd
          simp at hk; obtain ⟨rfl, rfl⟩ := hk
          obtain ⟨hd0, blk, hq, rfl⟩ := runK_a hr
          exact callV_sound hcall h rfl hf hd0 hq hv hK
        · cases hk
      split at hk
      · split at hk
        · rename_i d e hd hty
          simp at hk; obtain ⟨rfl, rfl⟩ := hk
          obtain ⟨hd0, blk, hq, rfl⟩ := runK_a hr
          exact callO_sound hcall h rfl hf hd0 hq hv hK
        · simp at hk; obtain ⟨rfl, rfl⟩ := hk
          obtain ⟨hq, rfl⟩ := runK_l hr
          exact callL_sound hcall h rfl hf hq hv hK
      · simp at hk; obtain ⟨rfl, rfl⟩ := hk
        obtain ⟨hq, rfl⟩ := runK_l hr
        exact callL_sound hcall h rfl hf hq hv hK
    · rename_i hf
      split at hk <;> try (cases hk; done)
      rename_i t ht
      obtain ⟨ut, hut⟩ : ∃ ut, P.underlying t = ut := ⟨_, rfl⟩
      have hz : (c.args.map a.eval).toList = c.args.toList.map a.eval := by simp
      split at hk <;> try (cases hk; done)
      · rename_i hu
        simp at hk; obtain ⟨rfl, rfl⟩ := hk
        obtain ⟨hq, rfl⟩ := runK_l hr
        exact slen_wp h hf ht hu hq hv hK
      · rename_i e hu
        simp at hk; obtain ⟨rfl, rfl⟩ := hk
        obtain ⟨hq, rfl⟩ := runK_l hr
        exact len_wp h hf ht hu hq hv hK
      · rename_i n e hu
        simp at hk; obtain ⟨rfl, rfl⟩ := hk
        obtain ⟨hq, rfl⟩ := runK_l hr
        cases vs with
        | nil => simp [runL] at hq
        | cons x vs =>
          cases vs with
          | cons _ _ => simp [runL] at hq
          | nil =>
            simp [runL] at hq; subst hq
            obtain ⟨ux, hux, hx⟩ := hv.one
            refine wp_val (u := goInt n) ?_ (hK _ _ (Step.same h (by simp [VR, PR, goInt])))
            obtain ⟨cs, hb⟩ := run_builtin (P := P) w a.eval dst c ty pos after gd hf
            rw [hb]
            have hargs : c.args.map a.eval = #[ux] := by rw [← Array.toList_inj]; simp [hux]
            simp [builtin, Builtin.len_, ht, hargs, run_underlying hu]
    · rename_i hf
      simp at hk; obtain ⟨rfl, rfl⟩ := hk
      obtain ⟨hq, rfl⟩ := runK_l hr
      cases vs with
      | nil => simp [runL] at hq
      | cons x vs =>
        simp only [runL] at hq
        simp only [VRs] at hv
        obtain ⟨ux, us, hus, hx, hl⟩ := hv
        obtain ⟨u, h1, h2⟩ := fold_sound (P := P) (F := Builtin.min2) (fun _ _ _ _ _ => min_sound) vs x v ux us hq hx hl
        refine wp_val (u := u) ?_ (hK _ _ (Step.same h h2))
        obtain ⟨cs, hb⟩ := run_builtin (P := P) w a.eval dst c ty pos after gd hf
        rw [hb]
        simp [builtin, Builtin.min_, hus, h1]
    · rename_i hf
      simp at hk; obtain ⟨rfl, rfl⟩ := hk
      obtain ⟨hq, rfl⟩ := runK_l hr
      cases vs with
      | nil => simp [runL] at hq
      | cons x vs =>
        simp only [runL] at hq
        simp only [VRs] at hv
        obtain ⟨ux, us, hus, hx, hl⟩ := hv
        obtain ⟨u, h1, h2⟩ := fold_sound (P := P) (F := Builtin.max2) (fun _ _ _ _ _ => max_sound) vs x v ux us hq hx hl
        refine wp_val (u := u) ?_ (hK _ _ (Step.same h h2))
        obtain ⟨cs, hb⟩ := run_builtin (P := P) w a.eval dst c ty pos after gd hf
        rw [hb]
        simp [builtin, Builtin.max_, hus, h1]
    · rename_i hf
      split at hk <;> try (cases hk; done)
      rename_i d t t' hat
      split at hk <;> try (cases hk; done)
      rename_i htt
      subst htt
      split at hk <;> try (cases hk; done)
      rename_i e ht
      split at hk <;> try (cases hk; done)
      rename_i i hi
      split at hk <;> try (cases hk; done)
      rename_i z hz
      split at hk <;> try (cases hk; done)
      rename_i hc
      simp at hk; obtain ⟨rfl, rfl⟩ := hk
      simp only [runK] at hr
      have hr : runS call (.appendV d i.size) vs m = some (v, m') ∨ runS call (.append d i.size) vs m = some (v, m') := by
        unfold apnK at hr
        split at hr
        · exact .inl hr
        · split at hr
          · exact .inr (appB_run hr)
          · exact .inr hr
      have h2 : ∃ x y, vs = [x, y] := by
        rcases vs with _ | ⟨x, _ | ⟨y, _ | ⟨z, t⟩⟩⟩
        · simp [runS] at hr
        · simp [runS] at hr
        · exact ⟨x, y, rfl⟩
        · simp [runS] at hr
      obtain ⟨x, y, rfl⟩ := h2
      · · ·
            obtain ⟨ux, uy, hus, hx, hy⟩ := hv.two
            obtain ⟨u, w', h1, h2⟩ := hr.elim (fun hr => appendV_sound (ty := ty) h ht hi hz hc hr hx hy) (fun hr => append_sound (ty := ty) h ht hi hz hc hr hx hy)
            refine wp_val (u := u) ?_ (hK _ _ h2)
            obtain ⟨cs, hb⟩ := run_builtin (P := P) w a.eval _ c ty pos after gd hf
            rw [hb]
            have hargs : c.args.map a.eval = #[ux, uy] := by rw [← Array.toList_inj]; simp [hus]
            have hts : c.argTypes = #[t, t] := by rw [← Array.toList_inj]; simp [hat]
            simp [builtin, hargs, hts, h1]
    · cases hk
end Gv
