/- Regions: operations one after another, in the order of the text or in any order that the region allows. -/
import Derived.Test.YtfhgjanheaocaaaGvN
import Derived.TacticsIn
import Derived.OrdersIn
namespace Gv
open Go Go.RowKit
variable {P : Program} {X : Nat → Prop} {J : Nat → JT} {call : CallT}
structure Cx where
  J : Nat → JT
  lg : Option (List (Option Nat) × Nat)
  ly : Nat
  nT : Nat
  csT : List PV
  N : Nat
  kp : List Nat
  u : Array Value
  B : Nat
  xt : List (Nat × PV)
  r : Option Nat
  φ : Nat → Option Obj
  ld : Option (G × List Blk) := none
def Cx.L (x : Cx) : Lm := (x.N, x.kp, x.B)
def marks (Ds : List Nat) : List Deferred := Ds.map fun D => { target := .collected D, args := #[] }
structure FRx (x : Cx) (s : S) (a : Act) (w : World) (X : Nat → Prop) (g : G) (St : Nat → Nat → Prop) (Ds : List Nat) (t1 t2 : List AV) : Prop where
  df : a.defers = marks Ds
  nd : Ds.Nodup
  fx : ∀ D ∈ Ds, g.φ D = some (.deferred (some []))
  tt : s.t = t1 ++ t2
  sz : a.tmps.size = x.N
  kp : ∀ i ∈ x.kp, a.tmps[i]? = x.u[i]?
  xt : ∀ p ∈ x.xt, s.t[p.1]? = some (.p p.2) ∨ s.t[p.1]? = some .bad
  lg : g.lg = x.lg
  ly : g.ly = x.ly
  φ : ∀ q o, x.φ q = some o → g.φ q = some o
  mo : MemOK X x.J g St s.m w
  vr : VRs g s.m St w t1 a.tmps.toList
  kx : ∀ q, x.ld = some q → ∀ b, x.N ≤ b → KeepB q.1 q.2 g s.m b
def FR (x : Cx) (s : S) (a : Act) (w : World) : Prop := ∃ X g St Ds t1 t2, FRx x s a w X g St Ds t1 t2
structure Cx.OK (P : Program) (x : Cx) : Prop where
  nb : x.N ≤ x.B
  xt : ∀ p ∈ x.xt, x.N ≤ p.1 ∧ p.1 < x.B
  rd : ∀ l, x.r = some l → ∃ rec, x.φ l = some (.loop rec)
  yk : ∀ sh k, x.lg = some (sh, k) → YOK P x.J x.ly sh k x.nT x.csT
def Will (x : Cx) (m : List Blk) : Prop := ∀ sh k, x.lg = some (sh, k) → ∃ n cs, m[0]? = some (.log sh k n cs) ∧ n ≤ x.nT ∧ cs <+: x.csT
theorem FRx.len {x : Cx} {s : S} {a : Act} {w : World} {X : Nat → Prop} {g : G} {St : Nat → Nat → Prop} {Ds : List Nat} {t1 t2 : List AV} (h : FRx x s a w X g St Ds t1 t2) : t1.length = x.N := by
  have := h.vr.length
  rw [← this]
  simpa using h.sz
theorem put_sound {g : G} {m : List Blk} {St : Nat → Nat → Prop} {w : World} {t : List AV} {a : Act} {d : Option Nat} {v : AV} {u : Value} (ht : VRs g m St w t a.tmps.toList) (hv : VR g m St w v u) :
    VRs g m St w (put t d v) (a.put d u).tmps.toList := by
  cases d with
  | none => exact ht
  | some d =>
    simp only [put, Act.put, Array.toList_setIfInBounds]
    exact ht.set hv
theorem put_defers {a : Act} {d : Option Nat} {u : Value} : (a.put d u).defers = a.defers := by cases d <;> rfl
theorem FR.drew {x : Cx} {s : S} {a : Act} {w : World} (h : FR x s a w) : FR x s a w.drew := by
  obtain ⟨X, g, St, Ds, t1, t2, h⟩ := h
  obtain ⟨k1, k2⟩ := h.mo.grow (St' := St) (w' := w.drew) (Below.refl _ _).drew (fun _ _ h => h) h.mo.stLt (fun _ _ h => .inl h)
  exact ⟨X, g, St, Ds, t1, t2, { h with mo := k1, vr := VRs.mono k2 (MExt.refl _ _) _ _ h.vr }⟩
theorem grd_sound {N : Nat} {ops : Array Oper} {o : Oper} {gd : Option (Nat × Bool)} {b : Bool} {g : G} {m : List Blk} {St : Nat → Nat → Prop} {w : World} {t1 t2 : List AV} {a : Act} (hc : grdC N ops o.guard = some gd) (hN : t1.length = N) (ht : VRs g m St w t1 a.tmps.toList)
    (hg : grd (t1 ++ t2) gd = some b) : Region.wanted o (yielded ops a.tmps) = b := by
  unfold Region.wanted
  cases hog : o.guard with
  | none =>
    rw [hog] at hc
    simp [grdC] at hc
    subst hc
    simp [grd] at hg
    simp [hg]
  | some p =>
    obtain ⟨j, want⟩ := p
    rw [hog] at hc
    simp only [grdC] at hc
    split at hc
    · rename_i oj hoj
      split at hc
      · rename_i d hd
        split at hc <;> try (cases hc; done)
        rename_i hlt
        simp at hc
        subst hc
        simp only [grd] at hg
        have hlt' : (d : Nat) < t1.length := by rw [hN]; exact hlt
        rw [List.getElem?_append_left hlt'] at hg
        split at hg
        · rename_i b' hb'
          obtain ⟨u, h1, h2⟩ := ht.get hb'
          have := h2.bool
          subst this
          simp at hg
          have h3 : a.tmps[d]? = some (.bool b') := by simpa using h1
          simp [yielded, hoj, hd, h3]
          rw [← hg]
        · rename_i hu
          obtain ⟨u, h1, h2⟩ := ht.get hu
          simp only [VR] at h2
          subst h2
          simp at hg
          have h3 : a.tmps[d]? = some undef := by simpa using h1
          simp [yielded, hoj, hd, h3, undef]
          rw [← hg]
        · cases hg
      · cases hc
    · cases hc
theorem nilK_sound {g : G} {m : List Blk} {St : Nat → Nat → Prop} {w : World} {t : List AV} : ∀ {as : List Arg} {us : List Value}, VRs g m St w (as.map (Arg.get t)) us → VRs g m St w ((as.map nilK).map (Arg.get t)) us
  | [], us, h => h
  | x :: as, us, h => by
    simp only [List.map_cons, VRs] at h ⊢
    obtain ⟨u, us', rfl, h1, h2⟩ := h
    refine ⟨u, us', rfl, ?_, nilK_sound h2⟩
    unfold nilK
    split
    · simp only [Arg.get, VR, PR] at h1 ⊢
      exact h1
    · exact h1
theorem argsN_sound {g : G} {m : List Blk} {St : Nat → Nat → Prop} {w : World} {a : Act} {N : Nat} {t1 t2 : List AV} {av : List Nat} {dst : Option Nat} (hN : t1.length = N) (ht : VRs g m St w t1 a.tmps.toList) {xs : List Operand} {as : List Arg} (h : argsN av dst N xs = some as) :
    VRs g m St w (as.map (Arg.get (t1 ++ t2))) (xs.map a.eval) := by
  unfold argsN at h
  cases hc : argsC N xs with
  | none => rw [hc] at h; cases h
  | some as0 =>
    rw [hc] at h
    simp only [Option.map_some, Option.some.injEq] at h
    have h0 := args_sound (t2 := t2) hN ht hc
    split at h
    · subst h
      exact nilK_sound h0
    · subst h
      exact h0
theorem opC_parts {L : Lm} {ops : Array Oper} {av : List Nat} {o : Oper} {ao : AOp} (h : opC P L ops av o = some ao) :
    ∃ k xs gd as, kindC P av o = some (k, xs) ∧ grdC L.1 ops o.guard = some gd ∧ argsN av o.dst L.1 xs = some as ∧ dstOK L o.dst = true ∧ ao = { dst := o.dst, grd := gd, args := as, k := k } := by
  unfold opC at h
  split at h
  · rename_i k xs gd hk hg
    split at h
    · rename_i as has
      split at h <;> try (cases h; done)
      rename_i hd
      simp at h
      exact ⟨k, xs, gd, as, hk, hg, has, hd, h.symm⟩
    · cases h
  · cases h
def LogBack (m m' : List Blk) : Prop := ∀ sh k n' cs', m'[0]? = some (.log sh k n' cs') → ∃ n cs, m[0]? = some (.log sh k n cs) ∧ n ≤ n' ∧ cs <+: cs'
theorem LogBack.refl (m : List Blk) : LogBack m m := fun _ _ n' cs' h => ⟨n', cs', h, Nat.le_refl _, List.prefix_refl _⟩
theorem LogBack.trans {a b c : List Blk} (h : LogBack a b) (k : LogBack b c) : LogBack a c := fun sh kk n' cs' hc => by
  obtain ⟨n1, cs1, h1, l1, p1⟩ := k sh kk n' cs' hc
  obtain ⟨n2, cs2, h2, l2, p2⟩ := h sh kk n1 cs1 h1
  exact ⟨n2, cs2, h2, Nat.le_trans l2 l1, p2.trans p1⟩
theorem LogBack.set {m : List Blk} {d : Nat} {blk : Blk} (hb : ∀ sh k n cs, blk ≠ .log sh k n cs) : LogBack m (m.set d blk) := fun sh k n' cs' h => by
  rcases get_set h with ⟨_, e⟩ | ⟨_, h⟩
  · exact absurd e.symm (hb _ _ _ _)
  · exact LogBack.refl m sh k n' cs' h
theorem Will.back {x : Cx} {m m' : List Blk} (h : LogBack m m') (hw : Will x m') : Will x m := fun sh k hl => by
  obtain ⟨n, cs, h1, h2, h3⟩ := hw sh k hl
  obtain ⟨n2, cs2, k1, k2, k3⟩ := h sh k n cs h1
  exact ⟨n2, cs2, k1, Nat.le_trans k2 h2, k3.trans h3⟩
theorem lock1_log (m : List Blk) (b : Nat) : LogBack m (lock1 m b) := by
  unfold lock1
  split
  · exact LogBack.set (by intros; simp)
  · exact LogBack.set (by intros; simp)
  · exact LogBack.refl _
theorem lock_log : ∀ (bs : List Nat) (m : List Blk), LogBack m (lock m bs)
  | [], _m => LogBack.refl _
  | b :: bs, m => (lock1_log m b).trans (lock_log bs _)
theorem append_log {d sz : Nat} {x : AV} {k : Nat} {ys : List PV} {m m' : List Blk} {v : AV} (h : appendA d sz x k ys m = some (v, m')) : LogBack m m' := by
  unfold appendA at h
  split at h
  · split at h <;> simp at h
    rw [← h.2]; exact LogBack.refl _
  · split at h <;> try (cases h; done)
    split at h <;> try (cases h; done)
    all_goals
      split at h <;> try (cases h; done)
      split at h <;> try (cases h; done)
      simp at h
      rw [← h.2]
      exact LogBack.set (by intros; simp)
theorem appendV_log {d sz : Nat} {x : AV} {k : Nat} {ys : List PV} {m m' : List Blk} {v : AV} (h : appendVA d sz x k ys m = some (v, m')) : LogBack m m' := by
  unfold appendVA at h
  split at h <;> try (cases h; done)
  split at h <;> try (cases h; done)
  split at h <;> try (cases h; done)
  all_goals
    split at h <;> try (cases h; done)
    split at h <;> try (cases h; done)
    simp at h
    rw [← h.2]
    exact LogBack.set (by intros; simp)
theorem storeV_log {sz b n o : Nat} {v u : AV} {m m' : List Blk} (h : storeV sz b n o v m = some (u, m')) : LogBack m m' := by
  unfold storeV at h
  split at h <;> try (cases h; done)
  split at h <;> try (cases h; done)
  split at h <;> try (cases h; done)
  simp at h
  rw [← h.2]
  exact LogBack.set (by intros; simp)
theorem storeA_log {sz b o : Nat} {v u : AV} {m m' : List Blk} (h : storeA sz b o v m = some (u, m')) : LogBack m m' := by
  unfold storeA at h
  split at h <;> try (cases h; done)
  split at h <;> try (cases h; done)
  simp at h
  rw [← h.2]
  exact LogBack.set (by intros; simp)
theorem renB_nolog {σ : Nat → Option Nat} {x y : Blk} (h : renB σ x = some y) : ∀ sh k n cs, y ≠ .log sh k n cs := by
  intro sh k n cs e
  subst e
  cases x <;> simp only [renB] at h
  · simp at h
  · split at h <;> simp at h
  · simp at h
  · cases h
  · simp at h
theorem renBs_nolog {σ : Nat → Option Nat} : ∀ {xs ys : List Blk}, renBs σ xs = some ys → ∀ y ∈ ys, ∀ sh k n cs, y ≠ .log sh k n cs
  | [], ys, h => by simp [renBs] at h; subst h; simp
  | x :: xs, ys, h => by
    simp only [renBs] at h
    split at h <;> try (cases h; done)
    rename_i a as ha has
    simp at h; subst h
    intro y hy
    rcases List.mem_cons.1 hy with rfl | hy
    · exact renB_nolog ha
    · exact renBs_nolog has y hy
theorem setAll_nolog : ∀ (bs : List Nat) (ns : List Blk) (m : List Blk), (∀ y ∈ ns, ∀ sh k n cs, y ≠ .log sh k n cs) → (∀ sh k n cs, m[(0 : Nat)]? ≠ some (.log sh k n cs)) → ∀ sh k n cs, (setAll m bs ns)[(0 : Nat)]? ≠ some (.log sh k n cs)
  | [], ns, m, _, h => by cases ns <;> exact h
  | b :: bs, [], m, _, h => h
  | b :: bs, x :: xs, m, hn, h => by
    refine setAll_nolog bs xs _ (fun y hy => hn y (List.mem_cons_of_mem _ hy)) fun sh k n cs e => ?_
    rcases get_set e with ⟨_, e⟩ | ⟨_, e⟩
    · exact hn x (List.mem_cons_self ..) sh k n cs e.symm
    · exact h sh k n cs e
theorem takeBack_nolog {d : Nat} {bs : List Nat} {m m' : List Blk} {v v' : AV} {ms : List Blk} (h : takeBack d bs m v ms = some (v', m')) (hm : ∀ sh k n cs, m[(0 : Nat)]? ≠ some (.log sh k n cs)) : ∀ sh k n cs, m'[(0 : Nat)]? ≠ some (.log sh k n cs) := by
  unfold takeBack at h
  split at h
  · split at h <;> try (cases h; done)
    rename_i v1 ns hv hns
    simp at h; rw [← h.2]; exact setAll_nolog _ _ _ (renBs_nolog hns) hm
  · split at h <;> try (cases h; done)
    split at h <;> try (cases h; done)
    split at h <;> try (cases h; done)
    split at h <;> try (cases h; done)
    rename_i v1 ns hv hns
    simp at h; rw [← h.2]; exact setAll_nolog _ _ _ (renBs_nolog hns) hm
theorem lend_log {d : Nat} {vs : List AV} {m m' : List Blk} {v : AV} (h : lendB call d vs m = some (v, m')) : LogBack m m' := by
  unfold lendB at h
  split at h <;> try (cases h; done)
  rename_i hno
  have hm : ∀ sh k n cs, m[(0 : Nat)]? ≠ some (.log sh k n cs) := fun sh k n cs e => hno sh k n cs e
  split at h <;> try (cases h; done)
  split at h <;> try (cases h; done)
  simp only at h
  split at h <;> try (cases h; done)
  split at h <;> try (cases h; done)
  split at h <;> try (cases h; done)
  exact fun sh k n cs e => absurd e (takeBack_nolog h hm sh k n cs)
theorem runK_log {k : K} {vs : List AV} {m m' : List Blk} {v : AV} (h : runK call k vs m = some (v, m')) : LogBack m m' := by
  cases k with
  | l k => rw [(runK_l h).2]; exact LogBack.refl _
  | ld _ _ _ => rw [(runK_ld h).2]; exact LogBack.refl _
  | a d k =>
    obtain ⟨_, blk, hr, rfl⟩ := runK_a h
    refine LogBack.set fun sh kk n cs e => ?_
    subst e
    unfold runA at hr
    split at hr
    · simp at hr
    · split at hr <;> simp at hr
    · split at hr <;> simp at hr
    · split at hr <;> try (cases hr; done)
      split at hr <;> simp at hr
    · unfold growR at hr
      split at hr <;> simp at hr
    · split at hr <;> try (cases hr; done)
      split at hr <;> try (cases hr; done)
      split at hr <;> cases hr
    · simp at hr
    · split at hr <;> try (simp at hr; done)
    · cases hr
  | s k =>
    simp only [runK] at h
    unfold runS at h
    split at h
    · exact storeA_log h
    · split at h <;> try (cases h; done)
      exact storeA_log h
    · exact storeV_log h
    · split at h <;> try (cases h; done)
      exact storeV_log h
    · exact lend_log h
    · split at h <;> try (cases h; done)
      exact appendV_log h
    · split at h <;> try (cases h; done)
      exact append_log h
    · split at h <;> try (cases h; done)
      split at h <;> try (cases h; done)
      exact append_log h
    · simp only at h
      split at h <;> try (cases h; done)
      split at h <;> try (cases h; done)
      · simp at h; rw [← h.2]; exact lock_log _ _
      · split at h
        · simp at h; rw [← h.2]; exact (lock_log _ _).trans (LogBack.set (by intros; simp))
        · simp at h; rw [← h.2]; exact lock_log _ _
    · simp only at h
      split at h <;> try (cases h; done)
      generalize layP _ _ _ _ = q at h
      cases q with
      | none => cases h
      | some cs => simp at h; rw [← h.2]; exact lock_log _ _
    · split at h <;> try (cases h; done)
      rename_i sh kk n cs hm
      split at h <;> try (cases h; done)
      split at h <;> try (cases h; done)
      simp at h
      rw [← h.2]
      intro sh' k' n' cs' he
      rw [set_same hm] at he
      simp at he
      obtain ⟨rfl, rfl, rfl, rfl⟩ := he
      exact ⟨n, cs, hm, Nat.le_succ _, List.prefix_append _ _⟩
    · split at h <;> try (cases h; done)
      rename_i sh kk hm
      split at h <;> try (cases h; done)
      split at h <;> try (cases h; done)
      split at h <;> try (cases h; done)
      rename_i hc
      simp at h
      rw [← h.2]
      intro sh' k' n' cs' he
      rw [set_same hm] at he
      simp at he
      obtain ⟨rfl, rfl, rfl, rfl⟩ := he
      rw [hc.1] at hm
      exact ⟨0, [], hm, Nat.zero_le _, List.nil_prefix⟩
    · cases h
theorem exOp_log {o : AOp} {s s' : S} (h : exOp call o s = some s') : LogBack s.m s'.m := by
  simp only [exOp] at h
  split at h
  · cases h
  · simp at h; rw [← h]; exact LogBack.refl _
  · split at h <;> try (cases h; done)
    rename_i v m hk
    simp at h; rw [← h]
    exact runK_log hk
theorem exOps_log : ∀ {l : List AOp} {s s' : S}, exOps call l s = some s' → LogBack s.m s'.m
  | [], s, s', h => by simp [exOps] at h; rw [h]; exact LogBack.refl _
  | o :: l, s, s', h => by
    simp only [exOps] at h
    split at h <;> try (cases h; done)
    rename_i s1 h1
    exact (exOp_log h1).trans (exOps_log h)
theorem put_app {t1 t2 : List AV} {dst : Option Nat} {v : AV} (h : ∀ d, dst = some d → d < t1.length) : put (t1 ++ t2) dst v = put t1 dst v ++ t2 := by
  cases dst with
  | none => rfl
  | some d =>
    simp only [put]
    rw [List.set_append_left _ _ (h d rfl)]
theorem FRx.put {x : Cx} {s : S} {a : Act} {w w' : World} {X X' : Nat → Prop} {g g' : G} {St St' : Nat → Nat → Prop} {Ds : List Nat} {t1 t2 : List AV} {m' : List Blk} {dst : Option Nat} {v : AV} {u : Value} (hx : x.OK P) (h : FRx x s a w X g St Ds t1 t2)
    (hd : dstOK x.L dst = true) (mo : MemOK X' x.J g' St' m' w') (ev : Evo St w St' w') (mx : MExt g s.m g' m') (hv : VR g' m' St' w' v u) : FRx x ⟨put s.t dst v, m'⟩ (a.put dst u) w' X' g' St' Ds (put t1 dst v) t2 := by
  have hl := h.len
  have hlt : ∀ d, dst = some d → d < x.N ∧ d ∉ x.kp := fun d e => by
    subst e
    simp only [dstOK, Cx.L, Bool.and_eq_true] at hd
    exact ⟨of_decide_eq_true hd.1, by simpa using hd.2⟩
  refine ⟨by rw [put_defers]; exact h.df, h.nd, fun D hD => by rw [mx.fx]; exact h.fx D hD, ?_, ?_, fun i hi => ?_, fun p hp => ?_, mx.lg.trans h.lg, mx.ly.trans h.ly, fun q o hq => by rw [mx.fx]; exact h.φ q o hq, mo, put_sound (VRs.mono ev mx _ _ h.vr) hv, fun q hq b hb => (h.kx q hq b hb).ext mx⟩
  · rw [h.tt]
    exact put_app fun d e => by have := (hlt d e).1; omega
  · cases dst with
    | none => exact h.sz
    | some d => simpa [Act.put] using h.sz
  · cases dst with
    | none => exact h.kp i hi
    | some d =>
      have hne : d ≠ i := fun e => (hlt d rfl).2 (e ▸ hi)
      simp only [Act.put]
      rw [Array.getElem?_setIfInBounds_ne hne]
      exact h.kp i hi
  · cases dst with
    | none => exact h.xt p hp
    | some d =>
      have h1 := (hlt d rfl).1
      have h2 := (hx.xt p hp).1
      simp only [Gv.put]
      rw [List.getElem?_set, if_neg (by omega)]
      exact h.xt p hp
theorem exOp_sound {x : Cx} (hx : x.OK P) (hcall : CallOK P call) {ops : Array Oper} {av : List Nat} {o : Oper} {ao : AOp} {s s' : S} {a : Act} {w : World} {K : Act → World → Prop} {Q : Exit → Act → World → Prop} (hc : opC P x.L ops av o = some ao) (he : exOp call ao s = some s')
    (hw : Will x s'.m) (h : FR x s a w) (hK : ∀ a' w', FR x s' a' w' → K a' w') :
    if Region.wanted o (yielded ops a.tmps) = true then o.wpIn (FW x.r) 0 P a w K Q else K (a.put o.dst undef) w := by
  obtain ⟨k, xs, gd, as, hk, hg, has, hd, rfl⟩ := opC_parts hc
  obtain ⟨X, g, St, Ds, t1, t2, h⟩ := h
  have hl : t1.length = x.L.1 := h.len
  simp only [exOp] at he
  rw [h.tt] at he
  split at he
  · cases he
  · rename_i hgd
    simp at he
    subst he
    rw [grd_sound hg hl h.vr hgd, if_neg (by simp)]
    have := FRx.put (m' := s.m) (v := .undef) (u := undef) hx h hd h.mo (Evo.refl _ _) (MExt.refl _ _) (by simp [VR])
    rw [h.tt] at this
    exact hK _ _ ⟨_, _, _, _, _, _, this⟩
  · rename_i hgd
    rw [grd_sound hg hl h.vr hgd, if_pos rfl]
    split at he
    · rename_i v m' hr
      simp at he
      subst he
      refine op_sound (nT := x.nT) (csT := x.csT) hcall h.mo hk (argsN_sound hl h.vr has) hr (fun sh k hlg => ?_) fun u w' hs => hK _ _ ?_
      · rw [h.lg] at hlg
        rw [h.ly]
        exact ⟨hw sh k hlg, hx.yk sh k hlg⟩
      · obtain ⟨X', g', St', s1, s2, s3, s4⟩ := hs
        have := FRx.put (v := v) (u := u) hx h hd s1 s2 s3 s4
        rw [h.tt] at this
        exact ⟨_, _, _, _, _, _, this⟩
    · cases he
theorem list_sound {x : Cx} (hx : x.OK P) (hcall : CallOK P call) {ops : Array Oper} {av : List Nat} {Q : Exit → Act → World → Prop} {s' : S} (hw : Will x s'.m) (hQ : ∀ a w, FR x s' a w → Q .normal a w) :
    ∀ (l : List Oper) (al : List AOp) (s : S) (a : Act) (w : World), opsC P x.L ops av l = some al → exOps call al s = some s' → FR x s a w → wpListIn (FW x.r) 0 P ops Q l a w
  | [], al, s, a, w, hc, he, h => by
    simp [opsC] at hc
    subst hc
    simp [exOps] at he
    subst he
    exact hQ a w h
  | o :: l, al, s, a, w, hc, he, h => by
    simp only [opsC] at hc
    split at hc
    · rename_i y ys hy hys
      simp at hc
      subst hc
      simp only [exOps] at he
      split at he
      · rename_i s1 hs1
        refine wpListIn_step fun K hK => ?_
        have := exOp_sound (Q := Q) hx hcall hy hs1 (hw.back (exOps_log he)) h fun a' w' hf => hK a' w' (list_sound hx hcall hw hQ l ys s1 a' w' hys he hf)
        split
        · rename_i hwt
          rw [if_pos hwt] at this
          exact this
        · rename_i hwt
          rw [if_neg hwt] at this
          exact ⟨fun _ _ => trivial, this⟩
      · cases he
    · cases hc
theorem put_get {t : List AV} {d : Option Nat} {v : AV} {i : Nat} (h : ∀ e, d = some e → e ≠ i) : (put t d v)[i]? = t[i]? := by
  cases d with
  | none => rfl
  | some e =>
    simp only [put]
    rw [List.getElem?_set, if_neg (h e rfl)]
theorem get_put {t : List AV} {d : Option Nat} {v : AV} {x : Arg} (h : ∀ e, d = some e → x ≠ .tmp e) : Arg.get (put t d v) x = Arg.get t x := by
  cases x with
  | k _ => rfl
  | tmp i =>
    simp only [Arg.get, List.getD]
    rw [put_get (fun e he hi => h e he (by rw [hi]))]
theorem grd_put {t : List AV} {d : Option Nat} {v : AV} {gd : Option (Nat × Bool)} (h : ∀ e, d = some e → ∀ i b, gd = some (i, b) → e ≠ i) : grd (put t d v) gd = grd t gd := by
  cases gd with
  | none => rfl
  | some p =>
    obtain ⟨i, b⟩ := p
    simp only [grd]
    rw [put_get (fun e he => h e he i b rfl)]
theorem dstApart_spec {x y : AOp} (h : dstApart x y = true) : (∀ e, x.dst = some e → ∀ i b, y.grd = some (i, b) → e ≠ i) ∧ (∀ e, x.dst = some e → ∀ z ∈ y.args, z ≠ .tmp e) ∧ (∀ e, x.dst = some e → y.dst ≠ some e) := by
  unfold dstApart at h
  cases hx : x.dst with
  | none => simp
  | some d =>
    rw [hx] at h
    simp only [Bool.and_eq_true, Bool.not_eq_true', bne_iff_ne, ne_eq] at h
    obtain ⟨h1, h2⟩ := h
    have h1' : d ∉ readsOf y := by simpa using h1
    unfold readsOf at h1'
    simp only [List.mem_append, not_or] at h1'
    refine ⟨fun e he i b hg hei => ?_, fun e he z hz hze => ?_, fun e he => ?_⟩
    · simp at he; subst he; subst hei
      rw [hg] at h1'
      simp at h1'
    · simp at he; subst he; subst hze
      refine h1'.2 (List.mem_filterMap.2 ⟨_, hz, rfl⟩)
    · simp at he; subst he
      exact h2
theorem args_put {t : List AV} {d : Option Nat} {v : AV} {as : List Arg} (h : ∀ e, d = some e → ∀ z ∈ as, z ≠ .tmp e) : as.map (Arg.get (put t d v)) = as.map (Arg.get t) :=
  List.map_congr_left fun z hz => get_put fun e he => h e he z hz
theorem put_comm {t : List AV} {d e : Option Nat} {u v : AV} (h : ∀ x, d = some x → e ≠ some x) : put (put t d u) e v = put (put t e v) d u := by
  cases d with
  | none => rfl
  | some x =>
    cases e with
    | none => rfl
    | some y =>
      simp only [put]
      rw [List.set_comm]
      intro hxy
      exact h x rfl (by rw [hxy])
theorem lookDV {sz : Nat} {ag : Bool} {vs : List AV} {av : List Nat} {m m' : List Blk} (h1 : lookB av m' = lookB av m) (h2 : ∀ b n o, runV sz ag av m' b n o = runV sz ag av m b n o) : runDV sz ag vs av m' = runDV sz ag vs av m := by
  unfold runDV
  split
  · exact h2 _ _ _
  · rw [h1]
theorem look_set0 {av : List Nat} {m : List Blk} {d : Nat} {blk : Blk} (h : av.contains d = true) : lookB av (m.set d blk) = lookB av m := by
  funext b
  unfold lookB
  by_cases hb : av.contains b = true
  · rw [if_pos hb, if_pos hb]
  · rw [if_neg hb, if_neg hb]
    have : b ≠ d := fun e => hb (by rw [e]; exact h)
    rw [set_other this]
theorem look_set {sz : Nat} {ag : Bool} {vs : List AV} {av : List Nat} {m : List Blk} {d : Nat} {blk : Blk} (h : av.contains d = true) : runDV sz ag vs av (m.set d blk) = runDV sz ag vs av m :=
  lookDV (look_set0 h) fun b n o => by
    unfold runV
    by_cases hb : av.contains b = true
    · rw [if_pos hb, if_pos hb]
    · rw [if_neg hb, if_neg hb]
      have : b ≠ d := fun e => hb (by rw [e]; exact h)
      rw [set_other this]
theorem storeB_at {d sz : Nat} {vs : List AV} {v : AV} {m m' : List Blk} (h : runK call (.s (.storeB d sz)) vs m = some (v, m')) :
    ∃ blk, m' = m.set d blk ∧ ∀ m2 : List Blk, m2[d]? = m[d]? → runK call (.s (.storeB d sz)) vs m2 = some (v, m2.set d blk) := by
  simp only [runK] at h ⊢
  rcases vs with _ | ⟨p, _ | ⟨x, _ | ⟨y, r⟩⟩⟩
  · simp [runS] at h
  · simp [runS] at h
  · cases p <;> simp only [runS] at h <;> try (cases h; done)
    rotate_left
    · rename_i b n o
      by_cases hb : b = d
      · subst hb
        rw [if_pos rfl] at h
        unfold storeV at h
        split at h <;> try (cases h; done)
        rename_i n' s cs hm
        split at h <;> try (cases h; done)
        rename_i ps hps
        split at h <;> try (cases h; done)
        rename_i hc
        simp at h
        obtain ⟨rfl, rfl⟩ := h
        exact ⟨_, rfl, fun m2 h2 => by simp only [runS, storeV, h2, hm, hps, if_pos hc, if_true]⟩
      · rw [if_neg hb] at h
        cases h
    rename_i b o
    by_cases hb : b = d
    · subst hb
      rw [if_pos rfl] at h
      unfold storeA at h
      split at h <;> try (cases h; done)
      rename_i cs hm
      split at h <;> try (cases h; done)
      rename_i hc
      simp at h
      obtain ⟨rfl, rfl⟩ := h
      exact ⟨_, rfl, fun m2 h2 => by simp only [runS, storeA, h2, hm, if_pos hc, if_true]⟩
    · rw [if_neg hb] at h
      cases h
  · simp [runS] at h
theorem appendB_at {d sz : Nat} {vs : List AV} {v : AV} {m m' : List Blk} (h : runK call (.s (.appendB d sz)) vs m = some (v, m')) :
    ∃ blk, m' = m.set d blk ∧ ∀ m2 : List Blk, m2[d]? = m[d]? → runK call (.s (.appendB d sz)) vs m2 = some (v, m2.set d blk) ∧ ∀ n ag ws av, runDV n ag ws av (m2.set d blk) = runDV n ag ws av m2 := by
  have look : ∀ (m2 : List Blk) (blk : Blk), ((∀ b cs, m2[d]? ≠ some (.cells b cs)) ∧ ∀ b n s cs, m2[d]? ≠ some (.vec b n s cs)) → ((∀ b cs, blk ≠ .cells b cs) ∧ ∀ b n s cs, blk ≠ .vec b n s cs) → ∀ n ag ws av, runDV n ag ws av (m2.set d blk) = runDV n ag ws av m2 := by
    intro m2 blk ⟨h1, h3⟩ ⟨h2, h4⟩ sz ag ws av
    have h5 : ∀ (b n o : Nat), runV sz ag av (m2.set d blk) b n o = runV sz ag av m2 b n o := by
      intro b n o
      by_cases hb : b = d
      · subst hb
        have nn : ∀ m3 : List Blk, (∀ x n s cs, m3[b]? ≠ some (.vec x n s cs)) → runV sz ag av m3 b n o = none := by
          intro m3 h3
          unfold runV
          split
          · rfl
          · split
            · rename_i x n s cs e; exact absurd e (h3 x n s cs)
            · rfl
        rw [nn m2 h3]
        by_cases hl : b < m2.length
        · refine nn _ fun x n s cs e => ?_
          rw [show (m2.set b blk)[b]? = some blk by simp [hl]] at e
          exact h4 x n s cs (by simpa using e)
        · rw [List.set_eq_of_length_le (by omega)]
          exact nn m2 h3
      · unfold runV
        rw [set_other hb]
    refine lookDV ?_ h5
    funext b
    by_cases hb : b = d
    · subst hb
      have nn : ∀ m3 : List Blk, (∀ x cs, m3[b]? ≠ some (.cells x cs)) → lookB av m3 b = none := by
        intro m3 h3
        unfold lookB
        split
        · rfl
        · split
          · rename_i x cs e; exact absurd e (h3 x cs)
          · rfl
      rw [nn m2 h1]
      by_cases hl : b < m2.length
      · refine nn _ fun x cs e => ?_
        rw [show (m2.set b blk)[b]? = some blk by simp [hl]] at e
        exact h2 x cs (by simpa using e)
      · rw [List.set_eq_of_length_le (by omega)]
        exact nn m2 h1
    · unfold lookB
      rw [set_other hb]
  have same : ∀ (m2 : List Blk), m2[d]? = m[d]? → m2.set d (m[d]?.getD .none) = m2 := by
    intro m2 e
    by_cases hl : d < m2.length
    · rw [← e, List.getElem?_eq_getElem hl]
      simp
    · exact List.set_eq_of_length_le (by omega)
  simp only [runK] at h ⊢
  rcases vs with _ | ⟨x, _ | ⟨y, _ | ⟨z, t⟩⟩⟩
  · simp [runS] at h
  · simp [runS] at h
  · simp only [runS] at h ⊢
    split at h <;> try (cases h; done)
    rename_i hb
    simp only [if_pos hb]
    cases hy : asList y with
    | none => rw [hy] at h; cases h
    | some p =>
      obtain ⟨n, ys⟩ := p
      rw [hy] at h
      simp only at h ⊢
      unfold appendA at h ⊢
      by_cases hn : n = 0
      · simp only [if_pos hn] at h ⊢
        cases hx : asList x with
        | none => rw [hx] at h; cases h
        | some q =>
          rw [hx] at h
          simp at h
          obtain ⟨rfl, rfl⟩ := h
          refine ⟨m[d]?.getD .none, (same m rfl).symm, fun m2 e => ?_⟩
          rw [same m2 e]
          exact ⟨rfl, fun _ _ _ _ => rfl⟩
      · simp only [if_neg hn] at h ⊢
        split at h <;> try (cases h; done)
        rename_i hlen
        simp only [if_pos hlen]
        have hb' : ∀ b n s c, nilA x = .app b n s c → x = .app b n s c := by
          intro b n s c hx
          unfold nilA at hx
          split at hx
          · cases hx
          · exact hx
        generalize nilA x = x' at h hb' ⊢
        cases x' <;> simp only at h ⊢ <;> try (cases h; done)
        ·
          split at h <;> try (cases h; done)
          rename_i hd
          split at h <;> try (cases h; done)
          rename_i hbig
          simp at h
          obtain ⟨rfl, rfl⟩ := h
          refine ⟨_, rfl, fun m2 e => ⟨?_, look m2 _ ⟨fun b cs q => ?_, fun b n s cs q => ?_⟩ ⟨by intros; simp, by intros; simp⟩⟩⟩
          · rw [e, hd]; simp only [if_pos hbig]
          · rw [e, hd] at q; simp at q
          · rw [e, hd] at q; simp at q
        ·
          split at h <;> try (cases h; done)
          rename_i hd
          split at h <;> try (cases h; done)
          rename_i hbig
          simp at h
          obtain ⟨rfl, rfl⟩ := h
          refine ⟨_, rfl, fun m2 e => ⟨?_, look m2 _ ⟨fun b cs q => ?_, fun b n s cs q => ?_⟩ ⟨by intros; simp, by intros; simp⟩⟩⟩
          · rw [e, hd]; simp only [if_pos hbig]
          · rw [e, hd] at q; simp at q
          · rw [e, hd] at q; simp at q
        ·
          rename_i b _ _ _
          have hbd : b = d := by rw [hb' _ _ _ _ rfl] at hb; simpa [atB] using hb
          subst hbd
          split at h <;> try (cases h; done)
          rename_i n' hd
          split at h <;> try (cases h; done)
          rename_i hbig
          simp at h
          obtain ⟨rfl, rfl⟩ := h
          refine ⟨_, rfl, fun m2 e => ⟨?_, look m2 _ ⟨fun b cs q => ?_, fun b n s cs q => ?_⟩ ⟨by intros; simp, by intros; simp⟩⟩⟩
          · rw [e, hd]; simp only [if_pos hbig]
          · rw [e, hd] at q; simp at q
          · rw [e, hd] at q; simp at q
  · simp [runS] at h
theorem runK_comm {k1 k2 : K} {vs1 vs2 : List AV} {m m1 m2 : List Blk} {v1 v2 : AV} (h : kApart k1 k2 = true) (h1 : runK call k1 vs1 m = some (v1, m1)) (h2 : runK call k2 vs2 m1 = some (v2, m2)) :
    ∃ m1', runK call k2 vs2 m = some (v2, m1') ∧ runK call k1 vs1 m1' = some (v1, m2) := by
  have light1 : ∀ k, k1 = .l k → ∃ m1', runK call k2 vs2 m = some (v2, m1') ∧ runK call k1 vs1 m1' = some (v1, m2) := by
    rintro k rfl
    obtain ⟨r, rfl⟩ := runK_l h1
    exact ⟨m2, h2, by simp [runK, r]⟩
  have light2 : ∀ k, k2 = .l k → ∃ m1', runK call k2 vs2 m = some (v2, m1') ∧ runK call k1 vs1 m1' = some (v1, m2) := by
    rintro k rfl
    obtain ⟨r, rfl⟩ := runK_l h2
    exact ⟨m, by simp [runK, r], h1⟩
  cases k1 with
  | l k => exact light1 k rfl
  | ld av n ag =>
    cases k2 with
    | l k => exact light2 k rfl
    | ld av' n' ag' =>
      obtain ⟨r1, rfl⟩ := runK_ld h1
      obtain ⟨r2, rfl⟩ := runK_ld h2
      exact ⟨m2, h2, h1⟩
    | a d k =>
      simp only [kApart] at h
      obtain ⟨r1, rfl⟩ := runK_ld h1
      obtain ⟨hd, blk, r2, rfl⟩ := runK_a h2
      exact ⟨_, h2, by simp only [runK, look_set h, r1]; rfl⟩
    | s k =>
      cases k <;> simp only [kApart] at h <;> try (cases h; done)
      · obtain ⟨r1, rfl⟩ := runK_ld h1
        obtain ⟨blk, rfl, _⟩ := storeB_at h2
        exact ⟨_, h2, by simp only [runK, look_set h, r1]; rfl⟩
      · obtain ⟨r1, rfl⟩ := runK_ld h1
        obtain ⟨blk, rfl, g⟩ := appendB_at h2
        exact ⟨_, h2, by simp only [runK, (g _ rfl).2, r1]; rfl⟩
  | a d k =>
    cases k2 with
    | l k => exact light2 k rfl
    | ld av n ag =>
      simp only [kApart] at h
      obtain ⟨hd, blk, r1, rfl⟩ := runK_a h1
      obtain ⟨r2, rfl⟩ := runK_ld h2
      rw [look_set h] at r2
      exact ⟨m, by simp only [runK, r2]; rfl, h1⟩
    | a e k' =>
      simp only [kApart, bne_iff_ne, ne_eq] at h
      obtain ⟨hd, blk, r1, rfl⟩ := runK_a h1
      obtain ⟨he, blk', r2, rfl⟩ := runK_a h2
      rw [set_other (fun e => h e.symm)] at he
      refine ⟨m.set e blk', by simp [runK, he, r2], ?_⟩
      have hd' : (m.set e blk')[d]? = some .none := by rw [set_other h]; exact hd
      simp only [runK, hd', r1]
      simp only [Option.map_some, Option.some.injEq, Prod.mk.injEq, true_and]
      rw [List.set_comm]
      exact fun e => h e.symm
    | s k' =>
      cases k' <;> simp only [kApart] at h <;> try (cases h; done)
      simp only [bne_iff_ne, ne_eq] at h
      obtain ⟨hd, blk, r1, rfl⟩ := runK_a h1
      obtain ⟨b2, rfl, g2⟩ := appendB_at h2
      rename_i e _
      refine ⟨m.set e b2, (g2 m (set_other (fun q => h q.symm)).symm).1, ?_⟩
      have hd' : (m.set e b2)[d]? = some .none := by rw [set_other h]; exact hd
      simp only [runK, hd', r1]
      simp only [Option.map_some, Option.some.injEq, Prod.mk.injEq, true_and]
      rw [List.set_comm]
      exact fun q => h q.symm
  | s k =>
    cases k2 with
    | l k => exact light2 k rfl
    | ld av n ag =>
      cases k <;> simp only [kApart] at h <;> try (cases h; done)
      · obtain ⟨blk, rfl, _⟩ := storeB_at h1
        obtain ⟨r2, rfl⟩ := runK_ld h2
        rw [look_set h] at r2
        exact ⟨m, by simp only [runK, r2]; rfl, h1⟩
      · obtain ⟨blk, rfl, g⟩ := appendB_at h1
        obtain ⟨r2, rfl⟩ := runK_ld h2
        rw [(g m rfl).2] at r2
        exact ⟨m, by simp only [runK, r2]; rfl, h1⟩
    | a e k' =>
      cases k <;> simp only [kApart] at h <;> try (cases h; done)
      simp only [bne_iff_ne, ne_eq] at h
      obtain ⟨b1, rfl, g1⟩ := appendB_at h1
      obtain ⟨he, blk, r2, rfl⟩ := runK_a h2
      rename_i d _
      rw [set_other (fun q => h q.symm)] at he
      refine ⟨m.set e blk, by simp [runK, he, r2], ?_⟩
      rw [(g1 (m.set e blk) (set_other h)).1, List.set_comm _ _ h]
    | s k' =>
      cases k <;> cases k' <;> simp only [kApart] at h <;> try (cases h; done)
      · simp only [bne_iff_ne, ne_eq] at h
        obtain ⟨b1, rfl, g1⟩ := storeB_at h1
        obtain ⟨b2, rfl, g2⟩ := storeB_at h2
        rename_i d _ e _
        refine ⟨m.set e b2, g2 m (set_other (fun q => h q.symm)).symm, ?_⟩
        rw [g1 (m.set e b2) (set_other h), List.set_comm _ _ h]
      · simp only [bne_iff_ne, ne_eq] at h
        obtain ⟨b1, rfl, g1⟩ := appendB_at h1
        obtain ⟨b2, rfl, g2⟩ := appendB_at h2
        rename_i d _ e _
        refine ⟨m.set e b2, (g2 m (set_other (fun q => h q.symm)).symm).1, ?_⟩
        rw [(g1 (m.set e b2) (set_other h)).1, List.set_comm _ _ h]
theorem exOp_comm {x y : AOp} {s s1 s2 : S} (h : apart x y = true) (h1 : exOp call x s = some s1) (h2 : exOp call y s1 = some s2) : ∃ s1', exOp call y s = some s1' ∧ exOp call x s1' = some s2 := by
  unfold apart at h
  simp only [Bool.and_eq_true] at h
  obtain ⟨⟨hxy, hyx⟩, hk⟩ := h
  obtain ⟨x1, x2, x3⟩ := dstApart_spec hxy
  obtain ⟨y1, y2, y3⟩ := dstApart_spec hyx
  obtain ⟨t, m⟩ := s
  simp only [exOp] at h1
  split at h1
  · cases h1
  · rename_i hg1
    simp at h1
    subst h1
    simp only [exOp, grd_put x1, args_put x2] at h2
    split at h2
    · cases h2
    · rename_i hg2
      simp at h2
      subst h2
      refine ⟨⟨put t y.dst .undef, m⟩, by simp [exOp, hg2], ?_⟩
      simp only [exOp, grd_put y1, hg1]
      rw [put_comm x3]
    · rename_i hg2
      split at h2
      · rename_i v m' hr
        simp at h2
        subst h2
        refine ⟨⟨put t y.dst v, m'⟩, by simp [exOp, hg2, hr], ?_⟩
        simp only [exOp, grd_put y1, hg1]
        rw [put_comm x3]
      · cases h2
  · rename_i hg1
    split at h1
    · rename_i v m' hr
      simp at h1
      subst h1
      simp only [exOp, grd_put x1, args_put x2] at h2
      split at h2
      · cases h2
      · rename_i hg2
        simp at h2
        subst h2
        refine ⟨⟨put t y.dst .undef, m⟩, by simp [exOp, hg2], ?_⟩
        simp only [exOp, grd_put y1, args_put y2, hg1, hr]
        rw [put_comm x3]
      · rename_i hg2
        split at h2
        · rename_i v2 m2 hr2
          simp at h2
          subst h2
          obtain ⟨m1', r1, r2⟩ := runK_comm hk hr hr2
          refine ⟨⟨put t y.dst v2, m1'⟩, by simp [exOp, hg2, r1], ?_⟩
          simp only [exOp, grd_put y1, args_put y2, hg1, r2]
          rw [put_comm x3]
        · cases h2
    · cases h1
theorem exOps_append (l l' : List AOp) (s : S) : exOps call (l ++ l') s = match exOps call l s with
    | some s' => exOps call l' s'
    | none => none := by
  induction l generalizing s with
  | nil => rfl
  | cons o l ih =>
    simp only [List.cons_append, exOps]
    cases exOp call o s with
    | none => rfl
    | some s' => exact ih s'
theorem exOps_first {x : AOp} {post : List AOp} {s' : S} : ∀ (pre : List AOp) (s : S), (∀ y ∈ pre, apart y x = true) → exOps call (pre ++ x :: post) s = some s' → ∃ s1, exOp call x s = some s1 ∧ exOps call (pre ++ post) s1 = some s'
  | [], s, _, h => by
    simp only [List.nil_append, exOps] at h
    split at h
    · rename_i s1 hs1
      exact ⟨s1, hs1, h⟩
    · cases h
  | y :: pre, s, ha, h => by
    simp only [List.cons_append, exOps] at h
    split at h
    · rename_i s1 hs1
      obtain ⟨s2, k1, k2⟩ := exOps_first pre s1 (fun z hz => ha z (by simp [hz])) h
      obtain ⟨s1', r1, r2⟩ := exOp_comm (ha y (by simp)) hs1 k1
      exact ⟨s1', r1, by simp only [List.cons_append, exOps, r2]; exact k2⟩
    · cases h
end Gv
