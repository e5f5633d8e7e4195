/- One operation: the model runs it as the abstract machine does. -/
import Derived.Test.YtfhgjanheaocaaaGvL
import Derived.Test.YtfhgjanheaocaaaGvRn
import Derived.RangeFuncFrom
import Derived.RangeFuncNested
namespace Gv
open Go Go.RowKit
variable {P : Program} {X : Nat → Prop} {J : Nat → JT} {g : G} {St : Nat → Nat → Prop} {m : List Blk} {w : World} {call : CallT} {r : Option Nat}
def RR (B : Nat) (St : Nat → Nat → Prop) (w : World) : RV → Value → Prop
  | .val v, u => PR St w v u
  | .own n sz cs, u => ∃ (q cap : Nat) (us : List Value) (cur : Array Value) (e : TypeId), u = .slice (some ⟨q, 0, none⟩) n cap ∧ B ≤ q ∧ w.heap[q]? = some (.cells cur e (0, 0)) ∧ cur.size = cap * sz ∧ n ≤ cap ∧ cap ≤ maxLen ∧
      PRs St w cs us ∧ us.length = n * sz ∧ At St w ⟨q, 0, none⟩ us ∧ ∀ j, n * sz ≤ j → ¬ St q j
def Enters (P : Program) (f : Nat) : Prop := ∃ fn, P.funcs[f]? = some fn ∧ fn.body.isSome = true ∧ fn.name ≠ "runtime.NumGoroutine"
def CallPost (St : Nat → Nat → Prop) (w : World) (rv : RV) (e : Ending) (w' : World) : Prop :=
  ∃ (u : Value) (St' : Nat → Nat → Prop), e = .returned u ∧ RR w.heap.size St' w' rv u ∧ Below w.heap.size w w' ∧ (∀ b o, St b o → St' b o) ∧ (∀ b o, St' b o → b < w'.heap.size) ∧ ∀ b o, St' b o → St b o ∨ w.heap.size ≤ b
structure Yields (X : Nat → Prop) (St : Nat → Nat → Prop) (w : World) (X' : Nat → Prop) (St' : Nat → Nat → Prop) (w' : World) : Prop where
  size : w.heap.size ≤ w'.heap.size
  keep : ∀ q, q < w.heap.size → ¬ X q → w'.heap[q]? = w.heap[q]?
  mono : ∀ q, X q → X' q
  new : ∀ q, X' q → X q ∨ w.heap.size ≤ q
  lt : ∀ q, X' q → q < w'.heap.size
  evo : Evo St w St' w'
  stlt : ∀ b o, St' b o → b < w'.heap.size
  stnew : ∀ b o, St' b o → St b o ∨ X' b ∨ w.heap.size ≤ b
def YOK (P : Program) (J : Nat → JT) (l : Nat) (sh : List (Option Nat)) (k n : Nat) (cs : List PV) : Prop :=
  ∀ (i : Nat) (X : Nat → Prop) (St : Nat → Nat → Prop) (w : World) (ps : List PV) (xs : List Value), i < n → J i X St w → (∀ q, X q → q < w.heap.size) → (∀ b o, St b o → b < w.heap.size) →
    shapeOK sh ps = true → ps.flatMap pcells = (cs.drop (i * shSize sh)).take (shSize sh) → PRs St w ps xs →
    YieldAt Fence.wide 0 P l xs.toArray w fun e w' => e = .returned (.bool (i != k)) ∧ ∃ X' St', J (i + 1) X' St' w' ∧ Yields X St w X' St' w'
def IterC (P : Program) (f : Nat) (sh : List (Option Nat)) (k : Nat) (caps : List PV) (n : Nat) (cs : List PV) : Prop :=
  ∀ (l : Nat) (J : Nat → JT) (X : Nat → Prop) (St : Nat → Nat → Prop) (w : World) (vals : List Value), (∀ i, Abides (J i)) → (∀ q, X q ↔ q < w.heap.size) → (∀ b o, St b o → b < w.heap.size) → PRs St w caps vals →
    YOK P J l sh k n cs → J 0 X St w →
    Calls P f ((Value.func (.yield l) #[] #[] :: vals).toArray) w fun e w' => ∃ v X' St', e = .returned v ∧ J n X' St' w' ∧ ∀ q, X' q → q < w'.heap.size
def LendPost (J : Nat → JT) (g : G) (ms : List Blk) (v : AV) (ms' : List Blk) (St : Nat → Nat → Prop) (w : World) (e : Ending) (w' : World) : Prop :=
  ∃ (u : Value) (X' : Nat → Prop) (g' : G) (St' : Nat → Nat → Prop), e = .returned u ∧ MemOK X' J g' St' ms' w' ∧ Evo St w St' w' ∧ VR g' ms' St' w' v u ∧ ∀ i, KeepB g ms g' ms' i
structure CallOK (P : Program) (call : CallT) : Prop where
  ln : ∀ f as ms v ms', call.ln f as ms = some (v, ms') → Enters P f ∧ ∀ (X : Nat → Prop) (J : Nat → JT) (g : G) (St : Nat → Nat → Prop) (w : World) (vals : List Value), MemOK X J g St ms w → (∀ i, J i = J 0) → g.lg = none → (∀ q, g.φ q = none) → VRs g ms St w as vals → Calls P f vals.toArray w (LendPost J g ms v ms' St w)
  fn : ∀ f args rv, call f args = some rv → Enters P f ∧ ∀ (w : World) (St : Nat → Nat → Prop) (vals : List Value), (∀ b o, St b o → b < w.heap.size) → PRs St w args vals → Calls P f vals.toArray w (CallPost St w rv)
  it : ∀ f sh caps rv, call f (.it sh 0 :: caps) = some rv → ∃ N cs, rv = .val (.list N cs) ∧ N ≤ big ∧ cs.length = N * shSize sh ∧ Enters P f ∧ ∀ k, k ≤ N → IterC P f sh k caps (min (k + 1) N) (cs.take (min (k + 1) N * shSize sh))
abbrev FW (r : Option Nat) : Fence := { Fence.wide with round := r }
theorem callsFW {r : Option Nat} {f : Nat} {args : Array Value} {R : Ending → World → Prop} (h : Calls P f args w R) : CallsIn (FW r) 0 P f args w R := (callsIn_wide (n := 0)).2 h
theorem wp_val {o : Oper} {a : Act} {K : Act → World → Prop} {Q : Exit → Act → World → Prop} {u : Value} {w' : World} (h : (execOp a.eval o).run P w = .ok (.value u) w') (hK : K (a.put o.dst u) w') (hd : ∀ c, o.op ≠ .defer c := by intro c h; cases h) : o.wpIn (FW r) 0 P a w K Q := by
  refine ⟨fun _ _ => trivial, ?_⟩
  rw [Oper.semAt_eq _ _ _ hd, h]
  exact hK
theorem wp_skp {o : Oper} {a : Act} {K : Act → World → Prop} {Q : Exit → Act → World → Prop} {w' : World} (h : (execOp a.eval o).run P w = .ok .skip w') (hK : K (a.put o.dst undef) w') (hd : ∀ c, o.op ≠ .defer c := by intro c h; cases h) : o.wpIn (FW r) 0 P a w K Q := by
  refine ⟨fun _ _ => trivial, ?_⟩
  rw [Oper.semAt_eq _ _ _ hd, h]
  exact hK
theorem arg_sound {a : Act} {N : Nat} {t1 t2 : List AV} {x : Operand} {ar : Arg} (h : argC N x = some ar) (hN : t1.length = N) (ht : VRs g m St w t1 a.tmps.toList) : VR g m St w (ar.get (t1 ++ t2)) (a.eval x) := by
  cases x <;> simp only [argC] at h
  · rename_i i
    by_cases hi : i < N
    case neg => rw [if_neg hi] at h; cases h
    rw [if_pos hi] at h
    simp at h
    subst h
    simp only [Arg.get, Act.eval]
    have hlt : (i : Nat) < t1.length := by rw [hN]; exact hi
    have hget : t1[i]? = some (t1[i]'hlt) := List.getElem?_eq_getElem _
    obtain ⟨u, h1, h2⟩ := ht.get hget
    have e1 : a.tmps.getD i undef = u := by
      have : a.tmps[i]? = some u := by simpa using h1
      simp [Array.getD_eq_getD_getElem?, this]
    rw [List.getD, List.getElem?_append_left hlt, hget, e1]
    exact h2
  · split at h
    · rename_i y hy
      simp at h
      subst h
      exact const_sound hy
    · cases h
  · cases h
  · simp at h
    subst h
    simp only [Arg.get, Act.eval, VR, PR, PRs]
    exact ⟨[], rfl, rfl⟩
theorem args_sound {a : Act} {N : Nat} {t1 t2 : List AV} (hN : t1.length = N) (ht : VRs g m St w t1 a.tmps.toList) : ∀ {xs : List Operand} {as : List Arg}, argsC N xs = some as → VRs g m St w (as.map (Arg.get (t1 ++ t2))) (xs.map a.eval)
  | [], as, h => by simp [argsC] at h; subst h; simp [VRs]
  | x :: xs, as, h => by
    simp only [argsC] at h
    split at h
    · rename_i y ys hy hys
      simp at h
      subst h
      simp only [List.map_cons, VRs]
      exact ⟨_, _, rfl, arg_sound hy hN ht, args_sound hN ht hys⟩
    · cases h
theorem iadr_array {t e : TypeId} {n k : Nat} {x v : AV} {i : AV} {ux ui : Value} (ht : P.underlying t = some (.array n e)) (hk : szT P e = some k)
    (h : runL call (.iadr k (some n)) [x, i] = some v) (hx : VR g m St w x ux) (hi : VR g m St w i ui) : ∃ u, (Instr.indexAt t ux ui).run P w = .ok u w ∧ VR g m St w v u := by
  cases i <;> simp only [runL] at h <;> try (cases h; done)
  rename_i pv
  cases pv <;> (try simp only at h) <;> try (cases h; done)
  rename_i kk i
  have := hi.int; subst this
  split at h
  · rename_i h0
    cases x <;> (try simp only at h) <;> try (cases h; done)
    · rename_i px
      cases px <;> (try simp only at h) <;> try (cases h; done)
      rename_i cs o
      split at h
      · rename_i hin
        simp at h; subst h
        simp only [VR, PR] at hx
        obtain ⟨ad, us, rfl, h1, hat⟩ := hx
        refine ⟨.pointer (some (ad.add (o + i.toNat * k))), ?_, by simp only [VR, PR]; exact ⟨ad, us, rfl, h1, hat⟩⟩
        simp [Instr.indexAt, asIntOf, run_underlying ht, Instr.sureAddr, h0, hin, run_size hk, add_of_add]
      · cases h
    · rename_i b o
      split at h
      · rename_i hin
        simp at h; subst h
        simp only [VR] at hx
        obtain ⟨hl, rfl⟩ := hx
        refine ⟨.pointer (some ⟨g.ρ b, o + i.toNat * k, none⟩), ?_, by simp only [VR]; exact ⟨hl, trivial⟩⟩
        simp [Instr.indexAt, asIntOf, run_underlying ht, Instr.sureAddr, h0, hin, run_size hk, addr_add]
      · cases h
  · cases h
theorem run_call {c : Call} {f : Operand} {ty : TypeId} {ρ : Operand → Value} {fid : Nat} {us : List Value} (hf : c.callee = .value f) (hv : ρ f = .func (.func fid) #[] us.toArray) (he : Enters P fid) :
    (do let d ← resolve ρ c ty; invoke d.target d.args).run P w = .ok (.enter fid (c.args.map ρ ++ us.toArray)) w := by
  obtain ⟨fn, h1, h2, h3⟩ := he
  have h4 : fn.body.isNone = false := by cases hb : fn.body <;> simp_all
  have h5 : (fn.name == "runtime.NumGoroutine") = false := by simpa using h3
  simp only [resolve, hf, hv, Deferred.ofValue, Sem.run_bind, Sem.run_pure, Result.andThen_ok, invoke, callFunc, run_program, h1, h5, h4, Bool.false_eq_true, if_false]
  simp
theorem call_pre {fv : AV} {vs : List AV} {ps : List PV} {f : Nat} {caps : List PV} {uf : Value} {us : List Value} (hfv : fv = .p (.fn f caps)) (hps : pureAs vs = some ps) (hf : VR g m St w fv uf) (hvs : VRs g m St w vs us) :
    ∃ uc : List Value, uf = .func (.func f) #[] uc.toArray ∧ PRs St w (ps ++ caps) (us ++ uc) := by
  subst hfv
  simp only [VR, PR] at hf
  obtain ⟨uc, rfl, hc⟩ := hf
  exact ⟨uc, rfl, (pureAs_spec vs ps us hps hvs).append hc⟩
theorem call_step (h : MemOK X J g St m w) {rv : RV} {e : Ending} {w' : World} (hp : CallPost St w rv e w') :
    ∃ u St', e = .returned u ∧ MemOK X J g St' m w' ∧ Evo St w St' w' ∧ RR w.heap.size St' w' rv u := by
  obtain ⟨u, St', rfl, hr, hb, hs, hl, hn⟩ := hp
  obtain ⟨h1, h2⟩ := h.grow hb hs hl hn
  exact ⟨u, St', rfl, h1, h2, hr⟩
theorem callL_sound (hcall : CallOK P call) (h : MemOK X J g St m w) {o : Oper} {a : Act} {c : Call} {f : Operand} {vs : List AV} {v : AV} {K : Act → World → Prop} {Q : Exit → Act → World → Prop} (ho : o.op = .call c) (hf : c.callee = .value f)
    (hr : runL call .call vs = some v) (hv : VRs g m St w vs ((f :: c.args.toList).map a.eval)) (hK : ∀ u w', Step X J g St m w v m u w' → K (a.put o.dst u) w') : o.wpIn (FW r) 0 P a w K Q := by
  simp only [List.map_cons] at hv
  cases vs with
  | nil => simp only [VRs] at hv; cases hv
  | cons fv vs =>
    simp only [VRs] at hv
    obtain ⟨uf, us, he, hv1, hv2⟩ := hv
    simp only [List.cons.injEq] at he
    obtain ⟨rfl, rfl⟩ := he
    cases fv <;> simp only [runL] at hr <;> try (cases hr; done)
    rename_i pf
    cases pf <;> (try simp only at hr) <;> try (cases hr; done)
    rename_i fid caps
    split at hr
    · rename_i ps hps
      obtain ⟨uc, huc, hpr⟩ := call_pre rfl hps hv1 hv2
      cases hcl : call fid (ps ++ caps) with
      | none => simp [hcl] at hr
      | some rv =>
        obtain ⟨hen, hcalls⟩ := hcall.fn fid _ rv hcl
        have hrun := run_call (P := P) (w := w) (ty := o.type) hf huc hen
        refine ⟨fun _ _ => trivial, ?_⟩
        rw [Oper.semAt_eq _ _ _ (by intro c h; rw [ho] at h; cases h)]
        unfold execOp
        simp only [ho, hrun]
        rw [Oper.uponIn_enter]
        refine ⟨(fun h => by cases h), ?_⟩
        have hargs : (c.args.map a.eval ++ uc.toArray) = (c.args.toList.map a.eval ++ uc).toArray := by simp
        rw [hargs]
        refine callsFW ((hcalls w St _ h.stLt hpr).mono fun e w' hp => ?_)
        obtain ⟨u, St', rfl, h1, h2, h3⟩ := call_step h hp
        refine hK u w' ⟨_, g, St', h1, h2, MExt.refl _ _, ?_⟩
        cases rv with
        | val x =>
          simp [hcl] at hr
          subst hr
          simp only [VR]
          exact h3
        | own n sz cs =>
          simp [hcl] at hr
          subst hr
          obtain ⟨q, cap, us, cur, el, rfl, _, _, _, hc, _, hps', _, hat, _⟩ := h3
          simp only [VR, PR]
          exact ⟨_, cap, us, rfl, hps', hc, .inr ⟨_, rfl, hat⟩⟩
    · cases hr
theorem callO_sound (hcall : CallOK P call) (h : MemOK X J g St m w) {o : Oper} {a : Act} {c : Call} {f : Operand} {vs : List AV} {v : AV} {d : Nat} {blk : Blk} {K : Act → World → Prop} {Q : Exit → Act → World → Prop} (ho : o.op = .call c) (hf : c.callee = .value f)
    (hd : m[d]? = some .none) (hr : runA call d .callO vs = some (v, blk)) (hv : VRs g m St w vs ((f :: c.args.toList).map a.eval)) (hK : ∀ u w', Step X J g St m w v (m.set d blk) u w' → K (a.put o.dst u) w') : o.wpIn (FW r) 0 P a w K Q := by
  simp only [List.map_cons] at hv
  cases vs with
  | nil => simp only [VRs] at hv; cases hv
  | cons fv vs =>
    simp only [VRs] at hv
    obtain ⟨uf, us, he, hv1, hv2⟩ := hv
    simp only [List.cons.injEq] at he
    obtain ⟨rfl, rfl⟩ := he
    cases fv <;> simp only [runA] at hr <;> try (cases hr; done)
    rename_i pf
    cases pf <;> (try simp only at hr) <;> try (cases hr; done)
    rename_i fid caps
    split at hr
    · rename_i ps hps
      obtain ⟨uc, huc, hpr⟩ := call_pre rfl hps hv1 hv2
      cases hcl : call fid (ps ++ caps) with
      | none => simp [hcl] at hr
      | some rv =>
        obtain ⟨hen, hcalls⟩ := hcall.fn fid _ rv hcl
        have hrun := run_call (P := P) (w := w) (ty := o.type) hf huc hen
        refine ⟨fun _ _ => trivial, ?_⟩
        rw [Oper.semAt_eq _ _ _ (by intro c h; rw [ho] at h; cases h)]
        unfold execOp
        simp only [ho, hrun]
        rw [Oper.uponIn_enter]
        refine ⟨(fun h => by cases h), ?_⟩
        have hargs : (c.args.map a.eval ++ uc.toArray) = (c.args.toList.map a.eval ++ uc).toArray := by simp
        rw [hargs]
        refine callsFW ((hcalls w St _ h.stLt hpr).mono fun e w' hp => ?_)
        obtain ⟨u, St', rfl, h1, h2, h3⟩ := call_step h hp
        refine hK u w' ?_
        cases rv with
        | val x =>
          simp [hcl] at hr
          obtain ⟨rfl, rfl⟩ := hr
          have : m.set d .none = m := by
            apply List.ext_getElem?
            intro i
            by_cases hi : i = d
            · subst hi; rw [set_same hd, hd]
            · rw [set_other hi]
          rw [this]
          refine ⟨_, g, St', h1, h2, MExt.refl _ _, ?_⟩
          simp only [VR]
          exact h3
        | own n sz cs =>
          simp [hcl] at hr
          obtain ⟨rfl, rfl⟩ := hr
          obtain ⟨q, cap, us, cur, el, rfl, hq, hcur, hsz, hc, hcm, hps', hul, hat, hfree⟩ := h3
          have mx : MExt g m (g.set d q cap sz) (m.set d (.buf n)) := mext_new hd
          refine ⟨_, g.set d q cap sz, St', h1.new hd (fun b hl he => by have := h.lt hl; omega) (fun q' o hq' => by have := heap_lt (h.fix q' o hq').1; omega) ?_, h2, mx, ?_⟩
          · refine ⟨?_, cur, el, ?_, ?_, ?_, ?_, ?_⟩
            · intro hx
              have := h.b0 _ hx
              simp [G.set] at this; omega
            · simpa [G.set] using hcur
            · simpa [G.set] using hsz
            · simpa [G.set] using hc
            · simpa [G.set] using hcm
            · simpa [G.set] using hfree
          · simp only [VR]
            exact ⟨q, cap, us, rfl, hc, hps', hul, hat, n, set_same hd, Nat.le_refl _, fun _ => by simp [G.set]⟩
    · cases hr
theorem plain_pr {St St' : Nat → Nat → Prop} {w w' : World} : ∀ {cs : List PV} {us : List Value}, cs.all plain = true → PRs St w cs us → PRs St' w' cs us
  | [], us, _, h => by simpa [PRs] using h
  | c :: cs, us, hc, h => by
    simp only [List.all_cons, Bool.and_eq_true] at hc
    simp only [PRs] at h ⊢
    obtain ⟨x, xs, rfl, h1, h2⟩ := h
    refine ⟨x, xs, rfl, ?_, plain_pr hc.2 h2⟩
    cases c <;> first | (simp [plain] at hc; done) | (simp only [PR] at h1 ⊢; exact h1) | exact h1
theorem callV_sound (hcall : CallOK P call) (h : MemOK X J g St m w) {o : Oper} {a : Act} {c : Call} {f : Operand} {vs : List AV} {v : AV} {d : Nat} {blk : Blk} {K : Act → World → Prop} {Q : Exit → Act → World → Prop} (ho : o.op = .call c) (hf : c.callee = .value f)
    (hd : m[d]? = some .none) (hr : runA call d .callV vs = some (v, blk)) (hv : VRs g m St w vs ((f :: c.args.toList).map a.eval)) (hK : ∀ u w', Step X J g St m w v (m.set d blk) u w' → K (a.put o.dst u) w') : o.wpIn (FW r) 0 P a w K Q := by
  by_cases hpl : ∃ fid caps vs' ps n sz cs, vs = .p (.fn fid caps) :: vs' ∧ pureAs vs' = some ps ∧ call fid (ps ++ caps) = some (.own n sz cs) ∧ cs.all plain = true
  · obtain ⟨fid, caps, vs', ps, n, sz, cs, rfl, hps, hcl, hcs⟩ := hpl
    simp only [runA, hps, hcl, if_pos hcs, Option.some.injEq, Prod.mk.injEq] at hr
    obtain ⟨rfl, rfl⟩ := hr
    simp only [List.map_cons, VRs] at hv
    obtain ⟨uf, us, he, hv1, hv2⟩ := hv
    simp only [List.cons.injEq] at he
    obtain ⟨rfl, rfl⟩ := he
    obtain ⟨uc, huc, hpr⟩ := call_pre rfl hps hv1 hv2
    obtain ⟨hen, hcalls⟩ := hcall.fn fid _ _ hcl
    have hrun := run_call (P := P) (w := w) (ty := o.type) hf huc hen
    refine ⟨fun _ _ => trivial, ?_⟩
    rw [Oper.semAt_eq _ _ _ (by intro c h; rw [ho] at h; cases h)]
    unfold execOp
    simp only [ho, hrun]
    rw [Oper.uponIn_enter]
    refine ⟨(fun h => by cases h), ?_⟩
    have hargs : (c.args.map a.eval ++ uc.toArray) = (c.args.toList.map a.eval ++ uc).toArray := by simp
    rw [hargs]
    refine callsFW ((hcalls w St _ h.stLt hpr).mono fun e w' hp => ?_)
    obtain ⟨u, St', rfl, hrr, hbel, hs, hl, hn⟩ := hp
    obtain ⟨q, cap, us, cur, el, rfl, hq, hcur, hsz, hc, hcm, hps', hul, hat, hfree⟩ := hrr
    obtain ⟨h1, h2⟩ := h.grow (St' := fun b o => St' b o ∧ b ≠ q) hbel (fun b o hb => ⟨hs b o hb, fun e => by have := h.stLt b o hb; omega⟩) (fun b o hb => hl b o hb.1) (fun b o hb => hn b o hb.1)
    refine hK _ w' ⟨_, g.set d q cap sz, _, h1.new hd (fun b hl he => by have := h.lt hl; omega) (fun q' o hq' => by have := heap_lt (h.fix q' o hq').1; omega) ?_, h2, mext_new hd, ?_⟩
    · have hle : us.length ≤ cur.size := by rw [hul, hsz]; exact Nat.mul_le_mul_right _ hc
      have hcut : cur.toList = us ++ cur.toList.drop us.length := by
        apply List.ext_getElem?
        intro j
        by_cases hj : j < us.length
        · rw [List.getElem?_append_left hj]
          have := (hat j _ (List.getElem?_eq_getElem hj)).2.1
          rw [addr_add, Nat.zero_add, cell_of_row w' q j cur el (0, 0) hcur] at this
          rw [Array.getElem?_toList, this, List.getElem?_eq_getElem hj]
        · rw [List.getElem?_append_right (by omega), List.getElem?_drop]
          congr 1
          omega
      refine ⟨?_, cur, el, us, cur.toList.drop us.length, ?_, hcut, plain_pr hcs hps', hul, mem_of_at hat, ?_, ?_, ?_, ?_, ?_⟩
      · intro hx
        have := h.b0 _ hx
        simp [G.set] at this; omega
      · simpa [G.set] using hcur
      · simp [G.set]
      · simpa [G.set] using hsz
      · simpa [G.set] using hc
      · simpa [G.set] using hcm
      · intro _ j hj
        simp [G.set] at hj
    · simp only [VR]
      exact ⟨q, cap, rfl, hc, true, n, _, _, set_same hd, Nat.le_refl _, fun _ => by simp [G.set]⟩
  · refine callO_sound hcall h ho hf hd (v := v) (blk := blk) ?_ hv hK
    rw [← hr]
    rcases vs with _ | ⟨fv, vs⟩
    · rfl
    · cases fv <;> try rfl
      rename_i pf
      cases pf <;> try rfl
      rename_i fid caps
      simp only [runA]
      cases hps : pureAs vs with
      | none => rfl
      | some ps =>
        simp only
        cases hcl : call fid (ps ++ caps) with
        | none => rfl
        | some rv =>
          cases rv with
          | val x => rfl
          | own n sz cs =>
            simp only
            rw [if_neg]
            exact fun hcs => hpl ⟨_, _, _, _, _, _, _, rfl, hps, hcl, hcs⟩
theorem bslO_sound (h : MemOK X J g St m w) {ρ : Operand → Value} {t e : TypeId} {n k d : Nat} {z : List PV} {parts : Array (Nat × Operand)} (ht : P.underlying t = some (.slice e)) (hk : szT P e = some k) (hz : zeroP P e = some z)
    (hc : z.length = k ∧ k ≠ 0 ∧ n * k ≤ 16777216) (hn : n = 0) (hp : parts.size = 0) (hd : m[d]? = some .none) :
    ∃ u w', (Instr.buildSlice t n (parts.map fun (i, x) => (i, ρ x))).run P w = .ok u w' ∧ Step X J g St m w (.app d 0 k []) (m.set d (.buf 0)) u w' := by
  subst hn
  obtain ⟨rfl, hk0, _⟩ := hc
  obtain ⟨i, zv, hi, hzv, hzs, hzo⟩ := zeroP_info (St := St) (w := w) hz
  have his : i.size = z.length := by
    obtain ⟨i', hi', hs'⟩ := szT_info hk
    rw [hi] at hi'
    simp at hi'
    rw [hi']
    exact hs'
  have hp0 : parts = #[] := Array.size_eq_zero_iff.1 hp
  subst hp0
  have hb : Below w.heap.size w (w.alloc (.cells #[] e)) := (Below.refl _ _).alloc (Nat.le_refl _) _
  obtain ⟨h1, h2⟩ := h.grow (St' := St) hb (fun _ _ h => h) (fun b o hs => by have := h.stLt b o hs; simp; omega) (fun _ _ h => .inl h)
  have mx : MExt g m (g.set d w.heap.size 0 z.length) (m.set d (.buf 0)) := mext_new hd
  refine ⟨.slice (some ⟨w.heap.size, 0, none⟩) 0 0, w.alloc (.cells #[] e), ?_, _, g.set d w.heap.size 0 z.length, St, h1.new hd (fun b hl he => by have := h.lt hl; omega) (fun q' o hq' => by have := heap_lt (h.fix q' o hq').1; omega) ?_, h2, mx, ?_⟩
  · simp only [Instr.buildSlice, Sem.run_bind, run_underlying ht, Result.andThen_ok, run_size hk, Nat.zero_mul]
    have hr0 : (Array.range 0) = #[] := rfl
    simp [hr0, newRow, Instr.fill]
  · refine ⟨?_, #[], e, ?_, ?_, ?_, ?_, ?_⟩
    · intro hx
      have := h.b0 _ hx
      simp [G.set] at this
    · have hq : (w.alloc (.cells #[] e)).heap[w.heap.size]? = some (.cells #[] e (0, 0)) := heap_alloc_new w _
      simpa [G.set] using hq
    · simp [G.set]
    · simp [G.set]
    · simp [G.set]
    · intro j _ hs
      have := h.stLt _ _ hs
      simp [G.set] at this
  · simp only [VR]
    exact ⟨w.heap.size, 0, [], rfl, Nat.le_refl _, by simp [PRs], by simp, fun j x hj => by simp at hj, 0, set_same hd, Nat.le_refl _, fun _ => by simp [G.set]⟩
theorem callG_args {call : CallT} {d : Nat} {vs : List AV} {q : AV × Blk} (h : runA call d .callG vs = some q) :
    ∃ fid k n, vs = [.p (.fn fid []), .nilS, .p (.int k n)] ∧ growR d (call fid [.nilL, .int k n]) = some q := by
  unfold runA at h
  split at h <;> first | (rename_i hk; cases hk; done) | (cases h; done) | skip
  all_goals first | exact ⟨_, _, _, rfl, h⟩ | (cases h; done)
theorem callG_sound (hcall : CallOK P call) (h : MemOK X J g St m w) {o : Oper} {a : Act} {c : Call} {f : Operand} {vs : List AV} {v : AV} {d : Nat} {blk : Blk} {K : Act → World → Prop} {Q : Exit → Act → World → Prop} (ho : o.op = .call c) (hf : c.callee = .value f)
    (hd : m[d]? = some .none) (hr : runA call d .callG vs = some (v, blk)) (hv : VRs g m St w vs ((f :: c.args.toList).map a.eval)) (hK : ∀ u w', Step X J g St m w v (m.set d blk) u w' → K (a.put o.dst u) w') : o.wpIn (FW r) 0 P a w K Q := by
  obtain ⟨fid, k, n, rfl, hrr⟩ : ∃ fid k n, vs = [.p (.fn fid []), .nilS, .p (.int k n)] ∧ growR d (call fid [.nilL, .int k n]) = some (v, blk) := by
    unfold runA at hr
    split at hr <;> first | (rename_i hk; cases hk; done) | (cases hr; done) | skip
    all_goals first | exact ⟨_, _, _, rfl, hr⟩ | (cases hr; done)
  simp only [List.map_cons, VRs] at hv
  obtain ⟨uf, us, he, hv1, hv2⟩ := hv
  simp only [List.cons.injEq] at he
  obtain ⟨rfl, rfl⟩ := he
  cases hcl : call fid [.nilL, .int k n] with
  | none => rw [hcl] at hrr; cases hrr
  | some rv =>
    obtain ⟨uc, huc, hpr⟩ : ∃ uc : List Value, a.eval f = .func (.func fid) #[] uc.toArray ∧ PRs St w [.nilL, .int k n] (c.args.toList.map a.eval ++ uc) := by
      simp only [VR, PR, PRs] at hv1
      obtain ⟨uc, h1, rfl⟩ := hv1
      refine ⟨[], h1, ?_⟩
      obtain ⟨u1, us1, e1, k1, u2, us2, e2, k2, e3⟩ := hv2
      rw [e1, e2, e3]
      simp only [VR, PR] at k1 k2
      simp only [PRs, PR, List.append_nil]
      exact ⟨_, _, rfl, k1, _, _, rfl, k2, rfl⟩
    obtain ⟨hen, hcalls⟩ := hcall.fn fid _ rv hcl
    have hrun := run_call (P := P) (w := w) (ty := o.type) hf huc hen
    refine ⟨fun _ _ => trivial, ?_⟩
    rw [Oper.semAt_eq _ _ _ (by intro c h; rw [ho] at h; cases h)]
    unfold execOp
    simp only [ho, hrun]
    rw [Oper.uponIn_enter]
    refine ⟨(fun h => by cases h), ?_⟩
    have hargs : (c.args.map a.eval ++ uc.toArray) = (c.args.toList.map a.eval ++ uc).toArray := by simp
    rw [hargs]
    refine callsFW ((hcalls w St _ h.stLt hpr).mono fun e w' hp => ?_)
    obtain ⟨u, St', rfl, h1, h2, h3⟩ := call_step h hp
    refine hK u w' ?_
    cases rv with
    | val x =>
      rw [hcl] at hrr
      cases x <;> simp only [growR] at hrr <;> try (cases hrr; done)
      simp only [Option.some.injEq, Prod.mk.injEq] at hrr
      obtain ⟨rfl, rfl⟩ := hrr
      have : m.set d .none = m := by
        apply List.ext_getElem?
        intro i
        by_cases hi : i = d
        · subst hi; rw [set_same hd, hd]
        · rw [set_other hi]
      rw [this]
      refine ⟨_, g, St', h1, h2, MExt.refl _ _, ?_⟩
      simpa [VR, RR, PR] using h3
    | own n sz cs =>
      rw [hcl] at hrr
      simp only [growR, Option.some.injEq, Prod.mk.injEq] at hrr
      obtain ⟨rfl, rfl⟩ := hrr
      obtain ⟨q, cap, us, cur, el, rfl, hq, hcur, hsz, hc, hcm, hps', hul, hat, hfree⟩ := h3
      have mx : MExt g m (g.set d q cap sz) (m.set d (.buf n)) := mext_new hd
      refine ⟨_, g.set d q cap sz, St', h1.new hd (fun b hl he => by have := h.lt hl; omega) (fun q' o hq' => by have := heap_lt (h.fix q' o hq').1; omega) ?_, h2, mx, ?_⟩
      · refine ⟨?_, cur, el, ?_, ?_, ?_, ?_, ?_⟩
        · intro hx
          have := h.b0 _ hx
          simp [G.set] at this; omega
        · simpa [G.set] using hcur
        · simpa [G.set] using hsz
        · simpa [G.set] using hc
        · simpa [G.set] using hcm
        · simpa [G.set] using hfree
      · simp only [VR]
        exact ⟨q, cap, us, rfl, hc, hps', hul, hat, n, set_same hd, Nat.le_refl _, fun _ => by simp [G.set]⟩
def Blk.shut : Blk → Bool
  | .cells false _ | .vec false _ _ _ => true
  | _ => false
theorem Blk.shut_own {x : Blk} (h : x.shut = true) : x.own = true := by
  cases x <;> first | rfl | (rename_i b _; cases b <;> simp [Blk.shut] at h) | (simp [Blk.shut] at h)
def StGive (g : G) (m : List Blk) (St : Nat → Nat → Prop) (b o : Nat) : Prop := St b o ∨ ∃ d blk, m[d]? = some blk ∧ blk.shut = true ∧ b = g.ρ d
theorem evo_give : Evo St w (StGive g m St) w := fun _ _ h => ⟨.inl h, rfl⟩
theorem MemOK.lock1 (h : MemOK X J g St m w) (b : Nat) : MemOK X J g St (lock1 m b) w ∧ MExt g m g (lock1 m b) := by
  unfold Gv.lock1
  split
  · rename_i wr cs hb
    have mx := mext_store (g := g) (wr' := false) (cs' := cs) hb
    refine ⟨⟨h.inv, h.ab, h.b0, h.stLt, fun q o hq => by
      obtain ⟨f1, f2, f3, f4⟩ := h.fix q o hq
      exact ⟨f1, f2, f3, fun b' hb' => f4 b' (live_store hb hb')⟩, fun b' x hx => ?_, fun b1 b2 k1 k2 => h.inj b1 b2 (live_store hb k1) (live_store hb k2)⟩, mx⟩
    rcases get_set hx with ⟨rfl, rfl⟩ | ⟨hne, hx⟩
    · obtain ⟨h1, cur, e, h2, h3, _, h5⟩ := h.mem _ _ hb
      exact ⟨h1, cur, e, h2, VRs.mono (Evo.refl _ _) mx _ _ h3, (fun h => by cases h), h5⟩
    · exact br_mono mx (h.mem b' x hx) rfl rfl rfl
  · rename_i wr n sz cs hb
    have mx := mext_vec (g := g) (wr' := false) (s' := sz) (cs' := cs) hb
    have lv : ∀ b', live (m.set b (.vec false n sz cs)) b' → live m b' := fun b' => live_own hb rfl
    refine ⟨⟨h.inv, h.ab, h.b0, h.stLt, fun q o hq => by
      obtain ⟨f1, f2, f3, f4⟩ := h.fix q o hq
      exact ⟨f1, f2, f3, fun b' hb' => f4 b' (lv b' hb')⟩, fun b' x hx => ?_, fun b1 b2 k1 k2 => h.inj b1 b2 (lv b1 k1) (lv b2 k2)⟩, mx⟩
    rcases get_set hx with ⟨rfl, rfl⟩ | ⟨hne, hx⟩
    · obtain ⟨h1, cur, e, us, rest, h2, h3, h4, h5, h6, h7, h8, h9, h10, _⟩ := h.mem _ _ hb
      exact ⟨h1, cur, e, us, rest, h2, h3, h4, h5, h6, h7, h8, h9, h10, fun h => by cases h⟩
    · exact br_mono mx (h.mem b' x hx) rfl rfl rfl
  · exact ⟨h, MExt.refl _ _⟩
theorem MExt.trans {g g' g'' : G} {m m' m'' : List Blk} (x : MExt g m g' m') (y : MExt g' m' g'' m'') : MExt g m g'' m'' := by
  refine ⟨⟨fun b wr cs h => ?_, fun b n h => ?_, fun b wr n s cs h => ?_, y.ly.trans x.ly⟩, y.lg.trans x.lg, y.fx.trans x.fx⟩
  · obtain ⟨⟨wr', cs', h1⟩, e1⟩ := x.cells b wr cs h
    obtain ⟨h2, e2⟩ := y.cells b wr' cs' h1
    exact ⟨h2, e2.trans e1⟩
  · obtain ⟨n', h1, l1, k1⟩ := x.buf b n h
    obtain ⟨n'', h2, l2, k2⟩ := y.buf b n' h1
    refine ⟨n'', h2, Nat.le_trans l1 l2, fun e => ?_⟩
    have e1 : n = n' := by omega
    have e2 : n' = n'' := by omega
    obtain ⟨a1, a2, a3⟩ := k1 e1
    obtain ⟨b1, b2, b3⟩ := k2 e2
    exact ⟨b1.trans a1, b2.trans a2, b3.trans a3⟩
  · obtain ⟨wr', n', s', cs', h1, l1, k1⟩ := x.vec b wr n s cs h
    obtain ⟨wr'', n'', s'', cs'', h2, l2, k2⟩ := y.vec b wr' n' s' cs' h1
    refine ⟨wr'', n'', s'', cs'', h2, Nat.le_trans l1 l2, fun e => ?_⟩
    have e1 : n = n' := by omega
    have e2 : n' = n'' := by omega
    obtain ⟨a1, a2, a3⟩ := k1 e1
    obtain ⟨b1, b2, b3⟩ := k2 e2
    exact ⟨b1.trans a1, b2.trans a2, b3.trans a3⟩
theorem MemOK.lock : ∀ (bs : List Nat) {m : List Blk}, MemOK X J g St m w → MemOK X J g St (lock m bs) w ∧ MExt g m g (lock m bs)
  | [], m, h => ⟨h, MExt.refl _ _⟩
  | b :: bs, m, h => by
    obtain ⟨h1, x1⟩ := h.lock1 b
    obtain ⟨h2, x2⟩ := MemOK.lock bs h1
    exact ⟨h2, x1.trans x2⟩
theorem MemOK.give (h : MemOK X J g St m w) : MemOK X J g (StGive g m St) m w := by
  have lt : ∀ b o, StGive g m St b o → b < w.heap.size := fun b o hs => by
    rcases hs with hs | ⟨d, blk, hd, hsh, rfl⟩
    · exact h.stLt b o hs
    · exact h.lt ⟨_, hd, Blk.shut_own hsh⟩
  have same : ∀ {b d : Nat} {x blk : Blk}, m[b]? = some x → x.own = true → m[d]? = some blk → blk.shut = true → g.ρ b = g.ρ d → x = blk := fun hx ho hd hsh he => by
    have := h.inj _ _ ⟨_, hx, ho⟩ ⟨_, hd, Blk.shut_own hsh⟩ he
    subst this
    rw [hx] at hd
    simpa using hd
  refine ⟨h.ab _ X St _ w w none h.inv (grownBy_below (Below.refl _ _)) (by simp) evo_give lt (fun b o hs => ?_), h.ab, h.b0, lt, fun q o hq => ?_, fun b x hx => ?_, h.inj⟩
  · rcases hs with hs | ⟨d, blk, hd, hsh, rfl⟩
    · exact .inl hs
    · exact .inr (h.notX ⟨_, hd, Blk.shut_own hsh⟩)
  · obtain ⟨f1, f2, f3, f4⟩ := h.fix q o hq
    refine ⟨f1, f2, fun j hj => ?_, f4⟩
    rcases hj with hj | ⟨d, blk, hd, hsh, he⟩
    · exact f3 j hj
    · exact f4 d ⟨_, hd, Blk.shut_own hsh⟩ he.symm
  · have hbr := h.mem b x hx
    cases x with
    | none => trivial
    | cells wr cs =>
      obtain ⟨h1, cur, e, h2, h3, h4, h5⟩ := hbr
      refine ⟨h1, cur, e, h2, VRs.mono evo_give (MExt.refl _ _) _ _ h3, fun hw j hj => ?_, h5⟩
      rcases hj with hj | ⟨d, blk, hd, hsh, he⟩
      · exact h4 hw j hj
      · have := same hx rfl hd hsh he
        subst this
        subst hw
        simp [Blk.shut] at hsh
    | buf n =>
      obtain ⟨h1, cur, e, h2, h3, h4, h5, h6⟩ := hbr
      refine ⟨h1, cur, e, h2, h3, h4, h5, fun j hj hs => ?_⟩
      rcases hs with hs | ⟨d, blk, hd, hsh, he⟩
      · exact h6 j hj hs
      · have := same hx rfl hd hsh he
        subst this
        simp [Blk.shut] at hsh
    | log sh k n cs => exact hbr
    | vec wr n sz cs =>
      obtain ⟨h1, cur, e, us, rest, h2, h3, h4, h5, h6, h7, h8, h9, h10, h11⟩ := hbr
      refine ⟨h1, cur, e, us, rest, h2, h3, PRs.mono evo_give _ _ h4, h5, h6, h7, h8, h9, h10, fun hw j hj => ?_⟩
      rcases hj with hj | ⟨d, blk, hd, hsh, he⟩
      · exact h11 hw j hj
      · have := same hx rfl hd hsh he
        subst this
        subst hw
        simp [Blk.shut] at hsh
theorem give_cells (h : MemOK X J g St m w) {b : Nat} {cs : List AV} (hb : m[b]? = some (.cells false cs)) : ∃ us : List Value, VRs g m St w cs us ∧ ∀ o, ∀ j x, us[o + j]? = some x → StGive g m St (g.ρ b) (o + j) ∧ w.cell? ((⟨g.ρ b, o, none⟩ : Addr).add j) = some x ∧ x.oneCell' = true := by
  obtain ⟨_, cur, e, h2, h3, _, hone⟩ := h.mem b _ hb
  refine ⟨cur.toList, h3, fun o j x hx => ⟨.inr ⟨b, _, hb, rfl, rfl⟩, ?_, hone x (List.mem_of_getElem? hx)⟩⟩
  rw [row_cell h2]
  simpa using hx
theorem give_vec (h : MemOK X J g St m w) {b n s : Nat} {cs : List PV} (hb : m[b]? = some (.vec false n s cs)) : ∃ us : List Value, PRs (StGive g m St) w cs us ∧ At (StGive g m St) w ⟨g.ρ b, 0, none⟩ us := by
  obtain ⟨us, h1, _, h2⟩ := vec_cells h hb
  refine ⟨us, PRs.mono evo_give _ _ h1, fun j x hx => ⟨.inr ⟨b, _, hb, rfl, rfl⟩, ?_, (h2 j x hx).2⟩⟩
  rw [addr_add, Nat.zero_add]
  exact (h2 j x hx).1
theorem giveAs_sound {n : Nat} (ih : ∀ (v : AV) (x : PV) (u : Value), giveA m n v = some x → VR g m St w v u → PR (StGive g m St) w x u) : ∀ (l : List AV) (ps : List PV) (us : List Value), giveAs m n l = some ps → VRs g m St w l us → PRs (StGive g m St) w ps us
  | [], ps, us, h, hv => by
    simp [giveAs] at h; subst h
    simpa [VRs, PRs] using hv
  | v :: l, ps, us, h, hv => by
    simp only [giveAs, List.foldr_cons] at h
    split at h
    · rename_i y ys hy hys
      simp at h; subst h
      simp only [VRs] at hv
      obtain ⟨z, zs, rfl, h1, h2⟩ := hv
      simp only [PRs]
      exact ⟨z, zs, rfl, ih v y z hy h1, giveAs_sound ih l ys zs hys h2⟩
    · cases h
def giveB (m : List Blk) (n : Nat) (v : AV) : Option PV := match v with
    | .agg cs => (giveAs m n cs).map .agg
    | .clo f caps => (giveAs m n caps).map (.fn f)
    | .loc b o => match m[b]? with
      | some (.cells false cs) => (giveAs m n cs).map fun ps => .imm ps o
      | _ => none
    | .msl b o len sz => match m[b]? with
      | some (.cells false cs) => match giveAs m n cs with
        | some ps => (sub ps o (len * sz)).map (.list len)
        | none => none
      | _ => none
    | .vap b n _ => match m[b]? with
      | some (.vec false n' _ cs) => if n' = n then some (.list n cs) else none
      | _ => none
    | .vlc b n o => match m[b]? with
      | some (.vec false n' _ cs) => if n' = n then some (.imm cs o) else none
      | _ => none
    | v => pureA v
theorem giveA_succ (m : List Blk) (n : Nat) (v : AV) : giveA m (n + 1) v = giveB m n v := by
  cases v <;> simp only [giveA, giveB] <;> rfl
theorem give_sound (h : MemOK X J g St m w) : ∀ (n : Nat) (v : AV) (x : PV) (u : Value), giveA m n v = some x → VR g m St w v u → PR (StGive g m St) w x u
  | 0, v, x, u, he, _ => by simp [giveA] at he
  | n + 1, v, x, u, he, hv => by
    have ih := give_sound h n
    rw [giveA_succ] at he
    unfold giveB at he
    split at he
    · rename_i cs
      cases hc : giveAs m n cs with
      | none => simp [hc] at he
      | some ps =>
        simp [hc] at he; subst he
        simp only [VR] at hv
        obtain ⟨us, rfl, hv⟩ := hv
        simp only [PR]
        exact ⟨us, rfl, giveAs_sound ih cs ps us hc hv⟩
    · rename_i f caps
      cases hc : giveAs m n caps with
      | none => simp [hc] at he
      | some ps =>
        simp [hc] at he; subst he
        simp only [VR] at hv
        obtain ⟨us, rfl, hv⟩ := hv
        simp only [PR]
        exact ⟨us, rfl, giveAs_sound ih caps ps us hc hv⟩
    · rename_i b o
      split at he
      · rename_i cs hb
        cases hc : giveAs m n cs with
        | none => simp [hc] at he
        | some ps =>
          simp [hc] at he; subst he
          simp only [VR] at hv
          obtain ⟨_, rfl⟩ := hv
          obtain ⟨us, h1, h2⟩ := give_cells h hb
          simp only [PR]
          refine ⟨⟨g.ρ b, 0, none⟩, us, by rw [addr_add]; simp, giveAs_sound ih cs ps us hc h1, fun j x hx => ?_⟩
          have := h2 0 j x (by simpa using hx)
          simpa using this
      · cases he
    · rename_i b o len sz
      split at he
      · rename_i cs hb
        cases hc : giveAs m n cs with
        | none => simp [hc] at he
        | some ps =>
          simp only [hc] at he
          cases hs : sub ps o (len * sz) with
          | none => simp [hs] at he
          | some ws =>
            simp [hs] at he; subst he
            obtain ⟨_, rfl⟩ := sub_spec hs
            simp only [VR] at hv
            obtain ⟨_, cap, rfl, hcap⟩ := hv
            obtain ⟨us, h1, h2⟩ := give_cells h hb
            simp only [PR]
            refine ⟨_, cap, (us.drop o).take (len * sz), rfl, (giveAs_sound ih cs ps us hc h1).drop_take o (len * sz), hcap, .inr ⟨_, rfl, fun j x hx => ?_⟩⟩
            rw [List.getElem?_take] at hx
            split at hx
            · rw [List.getElem?_drop] at hx
              exact h2 o j x hx
            · cases hx
      · cases he
    · rename_i b i sz
      split at he <;> try (cases he; done)
      rename_i n' s cs hb
      split at he <;> try (cases he; done)
      rename_i hn
      subst hn
      simp at he; subst he
      simp only [VR] at hv
      obtain ⟨q, cap, rfl, hcap, wr, n2, s2, cs2, hb2, _, hq⟩ := hv
      rw [hb] at hb2
      simp only [Option.some.injEq, Blk.vec.injEq] at hb2
      obtain ⟨_, rfl, _, _⟩ := hb2
      obtain ⟨rfl, _⟩ := hq rfl
      obtain ⟨us, k1, k2⟩ := give_vec h hb
      simp only [PR]
      exact ⟨_, cap, us, rfl, k1, hcap, .inr ⟨_, rfl, k2⟩⟩
    · rename_i b i o
      split at he <;> try (cases he; done)
      rename_i n' s cs hb
      split at he <;> try (cases he; done)
      rename_i hn
      subst hn
      simp at he; subst he
      simp only [VR] at hv
      obtain ⟨q, rfl, wr, n2, s2, cs2, hb2, _, hq⟩ := hv
      rw [hb] at hb2
      simp only [Option.some.injEq, Blk.vec.injEq] at hb2
      obtain ⟨_, rfl, _, _⟩ := hb2
      obtain rfl := hq rfl
      obtain ⟨us, k1, k2⟩ := give_vec h hb
      simp only [PR]
      exact ⟨⟨g.ρ b, 0, none⟩, us, by rw [addr_add]; simp, k1, k2⟩
    · exact PR.mono evo_give _ _ (pureA_spec v x u he hv)
theorem callF_sound (hcall : CallOK P call) (h : MemOK X J g St m w) {o : Oper} {a : Act} {c : Call} {f : Operand} {vs : List AV} {v : AV} {d : Nat} {m' : List Blk} {K : Act → World → Prop} {Q : Exit → Act → World → Prop} (ho : o.op = .call c) (hf : c.callee = .value f)
    (hr : runS call (.callF d) vs m = some (v, m')) (hv : VRs g m St w vs ((f :: c.args.toList).map a.eval)) (hK : ∀ u w', Step X J g St m w v m' u w' → K (a.put o.dst u) w') : o.wpIn (FW r) 0 P a w K Q := by
  simp only [runS] at hr
  obtain ⟨h1, x1⟩ := h.lock (vs.flatMap (reachA m deep))
  generalize lock m (vs.flatMap (reachA m deep)) = m1 at hr h1 x1
  have h2 := h1.give
  have ev : Evo St w (StGive g m1 St) w := evo_give
  have hv1 := VRs.mono (Evo.refl _ _) x1 _ _ hv
  split at hr <;> try (cases hr; done)
  rename_i fid caps ps hg
  have hps := giveAs_sound (give_sound h1 deep) _ _ _ hg hv1
  simp only [List.map_cons, PRs] at hps
  obtain ⟨uf, us, he, hp1, hp2⟩ := hps
  simp only [List.cons.injEq] at he
  obtain ⟨rfl, rfl⟩ := he
  simp only [PR] at hp1
  obtain ⟨uc, huc, hpc⟩ := hp1
  have hpr := hp2.append hpc
  cases hcl : call fid (ps ++ caps) with
  | none => simp [hcl] at hr
  | some rv =>
    obtain ⟨hen, hcalls⟩ := hcall.fn fid _ rv hcl
    have hrun := run_call (P := P) (w := w) (ty := o.type) hf huc hen
    refine ⟨fun _ _ => trivial, ?_⟩
    rw [Oper.semAt_eq _ _ _ (by intro c h; rw [ho] at h; cases h)]
    unfold execOp
    simp only [ho, hrun]
    rw [Oper.uponIn_enter]
    refine ⟨(fun h => by cases h), ?_⟩
    have hargs : (c.args.map a.eval ++ uc.toArray) = (c.args.toList.map a.eval ++ uc).toArray := by simp
    rw [hargs]
    refine callsFW ((hcalls w _ _ h2.stLt hpr).mono fun e w' hp => ?_)
    obtain ⟨u, St', rfl, k1, k2, k3⟩ := call_step h2 hp
    refine hK u w' ?_
    cases rv with
    | val x =>
      simp [hcl] at hr
      obtain ⟨rfl, rfl⟩ := hr
      refine ⟨_, g, St', k1, ev.trans k2, x1, ?_⟩
      simp only [VR]
      exact k3
    | own n sz cs =>
      simp [hcl] at hr
      obtain ⟨q, cap, us, cur, el, rfl, hq, hcur, hsz, hc, hcm, hps', hul, hat, hfree⟩ := k3
      split at hr
      · rename_i hd
        simp at hr
        obtain ⟨rfl, rfl⟩ := hr
        have mx : MExt g m1 (g.set d q cap sz) (m1.set d (.buf n)) := mext_new hd
        refine ⟨_, g.set d q cap sz, St', k1.new hd (fun b hl he => by have := h1.lt hl; omega) (fun q' o hq' => by have := heap_lt (h1.fix q' o hq').1; omega) ?_, ev.trans k2, x1.trans mx, ?_⟩
        · refine ⟨?_, cur, el, ?_, ?_, ?_, ?_, ?_⟩
          · intro hx
            have := h.b0 _ hx
            simp [G.set] at this; omega
          · simpa [G.set] using hcur
          · simpa [G.set] using hsz
          · simpa [G.set] using hc
          · simpa [G.set] using hcm
          · simpa [G.set] using hfree
        · simp only [VR]
          exact ⟨q, cap, us, rfl, hc, hps', hul, hat, n, set_same hd, Nat.le_refl _, fun _ => by simp [G.set]⟩
      · simp at hr
        obtain ⟨rfl, rfl⟩ := hr
        refine ⟨_, g, St', k1, ev.trans k2, x1, ?_⟩
        simp only [VR, PR]
        exact ⟨_, cap, us, rfl, hps', hc, .inr ⟨_, rfl, hat⟩⟩
theorem bslF_sound (h : MemOK X J g St m w) {ρ : Operand → Value} {t e : TypeId} {n k : Nat} {z : List PV} {parts : Array (Nat × Operand)} {vs : List AV} {v : AV} {m' : List Blk} (ht : P.underlying t = some (.slice e)) (hk : szT P e = some k) (hz : zeroP P e = some z)
    (hc : z.length = k ∧ k ≠ 0 ∧ n * k ≤ 16777216) (hr : runS call (.bslF n k z (parts.toList.map fun p => p.1 * k)) vs m = some (v, m')) (hv : VRs g m St w vs (parts.toList.map fun x => ρ x.2)) :
    ∃ u w', (Instr.buildSlice t n (parts.map fun (i, x) => (i, ρ x))).run P w = .ok u w' ∧ Step X J g St m w v m' u w' := by
  simp only [runS] at hr
  obtain ⟨h1, x1⟩ := h.lock (vs.flatMap (reachA m deep))
  generalize lock m (vs.flatMap (reachA m deep)) = m1 at hr h1 x1
  have h2 := h1.give
  have ev : Evo St w (StGive g m1 St) w := evo_give
  have hv1 := VRs.mono (Evo.refl _ _) x1 _ _ hv
  split at hr <;> try (cases hr; done)
  rename_i ps hg
  have hps := giveAs_sound (give_sound h1 deep) _ _ _ hg hv1
  cases hl : layP k (rep z n) (parts.toList.map fun p => p.1 * k) ps with
  | none => simp [hl] at hr
  | some cs =>
    simp [hl] at hr
    obtain ⟨rfl, rfl⟩ := hr
    obtain ⟨u, w', r1, X', g', St', k1, k2, k3, k4⟩ := bslP_sound h2 ht hk hz hc hl hps
    exact ⟨u, w', r1, X', g', St', k1, ev.trans k2, x1.trans k3, k4⟩
def YH (P : Program) (J : Nat → JT) (g : G) (m' : List Blk) (nT : Nat) (csT : List PV) : Prop :=
  ∀ sh k, g.lg = some (sh, k) → (∃ n cs, m'[0]? = some (.log sh k n cs) ∧ n ≤ nT ∧ cs <+: csT) ∧ YOK P J g.ly sh k nT csT
theorem shape_len : ∀ (sh : List (Option Nat)) (ps : List PV), shapeOK sh ps = true → (ps.flatMap pcells).length = shSize sh
  | [], [], _ => rfl
  | [], _ :: _, h => by simp [shapeOK] at h
  | none :: s, [], h => by simp [shapeOK] at h
  | some n :: s, [], h => by simp [shapeOK] at h
  | none :: s, p :: ps, h => by
    simp only [shapeOK, Bool.and_eq_true] at h
    have := shape_len s ps h.2
    rw [List.flatMap_cons, List.length_append, this]
    cases p <;> simp [isCellP] at h <;> simp [shSize, pcells]
  | some n :: s, p :: ps, h => by
    cases p <;> simp only [shapeOK] at h <;> try (cases h; done)
    simp only [Bool.and_eq_true, beq_iff_eq] at h
    have := shape_len s ps h.2
    rw [List.flatMap_cons, List.length_append, this]
    simp [shSize, pcells, h.1.1]
theorem yld_sound {nT : Nat} {csT : List PV} (h : MemOK X J g St m w) {o : Oper} {a : Act} {c : Call} {f : Operand} {vs : List AV} {v : AV} {m' : List Blk} {K : Act → World → Prop} {Q : Exit → Act → World → Prop} (hy : YH P J g m' nT csT) (ho : o.op = .call c) (hf : c.callee = .value f)
    (hr : runS call .yld vs m = some (v, m')) (hv : VRs g m St w vs ((f :: c.args.toList).map a.eval)) (hK : ∀ u w', Step X J g St m w v m' u w' → K (a.put o.dst u) w') : o.wpIn (FW r) 0 P a w K Q := by
  simp only [List.map_cons] at hv
  cases vs with
  | nil => simp only [VRs] at hv; cases hv
  | cons fv vs =>
    simp only [VRs] at hv
    obtain ⟨uf, us, he, hv1, hv2⟩ := hv
    simp only [List.cons.injEq] at he
    obtain ⟨rfl, rfl⟩ := he
    cases fv <;> simp only [runS] at hr <;> try (cases hr; done)
    split at hr <;> try (cases hr; done)
    rename_i sh k n cs hm
    split at hr <;> try (cases hr; done)
    rename_i ps hps
    split at hr <;> try (cases hr; done)
    rename_i hc
    obtain ⟨hnk, hsh⟩ := hc
    simp only [Option.some.injEq, Prod.mk.injEq] at hr
    obtain ⟨rfl, rfl⟩ := hr
    obtain ⟨_, hlg, hn, hcl⟩ := h.mem 0 _ hm
    obtain ⟨⟨n', cs', hm', hn', hpre⟩, hyok⟩ := hy sh k hlg
    rw [set_same hm] at hm'
    simp only [Option.some.injEq, Blk.log.injEq, true_and] at hm'
    obtain ⟨rfl, rfl⟩ := hm'
    have hfl := shape_len sh ps hsh
    have hpr := pureAs_spec vs ps _ hps hv2
    obtain ⟨ext, hext⟩ := hpre
    have hrow : ps.flatMap pcells = (csT.drop (n * shSize sh)).take (shSize sh) := by
      rw [← hext, ← hcl, List.append_assoc, List.drop_left, ← hfl, List.take_left]
    have hy := hyok n X St w ps _ (by omega) (by rw [hn]; exact h.inv) h.b0 h.stLt hsh hrow hpr
    simp only [VR] at hv1
    obtain ⟨fn, tmps, as, bd, hrun, hround⟩ := hy
    have hcall : (do let d ← resolve a.eval c o.type; invoke d.target d.args).run P w = .ok (.round g.ly fn tmps as bd) w := by
      simp only [resolve, hf, hv1, Deferred.ofValue, Sem.run_bind, Sem.run_pure, Result.andThen_ok, invoke]
      have e : (c.args.toList.map a.eval).toArray = #[] ++ c.args.map a.eval := by rw [Array.empty_append, ← Array.toList_inj]; simp
      rw [e] at hrun
      exact hrun
    refine ⟨fun _ _ => trivial, ?_⟩
    rw [Oper.semAt_eq _ _ _ (by intro c h; rw [ho] at h; cases h)]
    unfold execOp
    simp only [ho, hcall]
    rw [Oper.uponIn_round]
    refine ⟨(fun h => by cases h), ?_⟩
    refine RoundIn.mono (F := FW r) hround fun e w' hp => ?_
    obtain ⟨rfl, X', St', hJ, hys⟩ := hp
    refine hK _ w' ⟨X', { g with ι := n + 1 }, St', ?_, hys.evo, ?_, by simp [VR, PR]⟩
    · have far : ∀ b, live m b → ¬ X' (g.ρ b) := fun b hb hx => by
        have hlt := h.lt hb
        have hnx : ¬ X (g.ρ b) := h.notX hb
        rcases hys.new _ hx with h1 | h1
        · exact hnx h1
        · omega
      have kept : ∀ b, live m b → w'.heap[g.ρ b]? = w.heap[g.ρ b]? := fun b hb => by
        have hnx : ¬ X (g.ρ b) := h.notX hb
        exact hys.keep _ (h.lt hb) hnx
      have lv : ∀ b, live (m.set 0 (.log sh k (n + 1) (cs ++ ps.flatMap pcells))) b → live m b ∧ b ≠ 0 := fun b hb => by
        by_cases hb0 : b = 0
        · subst hb0
          obtain ⟨x, hb, ho⟩ := hb
          rw [set_same hm] at hb
          cases hb
          cases ho
        · exact ⟨live_set hb hb0, hb0⟩
      have mx : MExt g m { g with ι := n + 1 } (m.set 0 (.log sh k (n + 1) (cs ++ ps.flatMap pcells))) := by
        refine ⟨⟨fun b wr cs' hb => ?_, fun b n' hb => ?_, fun b wr n' s cs' hb => ?_, rfl⟩, rfl, rfl⟩
        · have hne : b ≠ 0 := fun e => by subst e; rw [hm] at hb; cases hb
          exact ⟨⟨wr, cs', by rw [set_other hne]; exact hb⟩, rfl⟩
        · have hne : b ≠ 0 := fun e => by subst e; rw [hm] at hb; cases hb
          exact ⟨n', by rw [set_other hne]; exact hb, Nat.le_refl _, fun _ => ⟨rfl, rfl, rfl⟩⟩
        · have hne : b ≠ 0 := fun e => by subst e; rw [hm] at hb; cases hb
          exact ⟨wr, n', s, cs', by rw [set_other hne]; exact hb, Nat.le_refl _, fun _ => ⟨rfl, rfl, rfl⟩⟩
      refine ⟨hJ, h.ab, hys.lt, hys.stlt, fun q o hq => ?_, fun b x hx => ?_, fun b b' hb hb' he => h.inj b b' (lv b hb).1 (lv b' hb').1 he⟩
      · obtain ⟨f1, f2, f3, f4⟩ := h.fix q o hq
        have hlt := heap_lt f1
        have hnx' : ¬ X' q := fun hx => by
          rcases hys.new q hx with h1 | h1
          · exact f2 h1
          · omega
        refine ⟨(hys.keep q hlt f2).trans f1, hnx', fun j hj => ?_, fun b hb => f4 b (lv b hb).1⟩
        rcases hys.stnew q j hj with h1 | h1 | h1
        · exact f3 j h1
        · exact hnx' h1
        · omega
      · rcases get_set hx with ⟨rfl, rfl⟩ | ⟨hne, hx⟩
        · refine ⟨rfl, hlg, rfl, ?_⟩
          rw [List.length_append, hcl, hfl, Nat.add_mul, Nat.one_mul]
        · have hbr := h.mem b x hx
          cases x with
          | none => trivial
          | cells wr cs0 =>
            obtain ⟨k1, cur, el, k2, k3, k4, k5⟩ := hbr
            have hl : live m b := ⟨_, hx, rfl⟩
            refine ⟨far b hl, cur, el, (kept b hl).trans k2, VRs.mono hys.evo mx _ _ k3, fun hw j hj => ?_, k5⟩
            rcases hys.stnew _ j hj with h1 | h1 | h1
            · exact k4 hw j h1
            · exact far b hl h1
            · exact absurd h1 (Nat.not_le.2 (h.lt hl))
          | buf n0 =>
            obtain ⟨k1, cur, el, k2, k3, k4, k5, k6⟩ := hbr
            have hl : live m b := ⟨_, hx, rfl⟩
            refine ⟨far b hl, cur, el, (kept b hl).trans k2, k3, k4, k5, fun j hj hs => ?_⟩
            rcases hys.stnew _ j hs with h1 | h1 | h1
            · exact k6 j hj h1
            · exact far b hl h1
            · exact absurd h1 (Nat.not_le.2 (h.lt hl))
          | log sh' k' n' cs' =>
            exact absurd hbr.1 hne
          | vec wr n0 sz cs0 =>
            obtain ⟨k1, cur, el, us, rest, k2, k3, k4, k5, k6, k7, k8, k9, k10, k11⟩ := hbr
            have hl : live m b := ⟨_, hx, rfl⟩
            refine ⟨far b hl, cur, el, us, rest, (kept b hl).trans k2, k3, PRs.mono hys.evo _ _ k4, k5, k6, k7, k8, k9, k10, fun hw j hj => ?_⟩
            rcases hys.stnew _ j hj with h1 | h1 | h1
            · exact k11 hw j h1
            · exact far b hl h1
            · exact absurd h1 (Nat.not_le.2 (h.lt hl))
    · refine ⟨⟨fun b wr cs' hb => ?_, fun b n' hb => ?_, fun b wr n' s cs' hb => ?_, rfl⟩, rfl, rfl⟩
      · have hne : b ≠ 0 := fun e => by subst e; rw [hm] at hb; cases hb
        exact ⟨⟨wr, cs', by rw [set_other hne]; exact hb⟩, rfl⟩
      · have hne : b ≠ 0 := fun e => by subst e; rw [hm] at hb; cases hb
        exact ⟨n', by rw [set_other hne]; exact hb, Nat.le_refl _, fun _ => ⟨rfl, rfl, rfl⟩⟩
      · have hne : b ≠ 0 := fun e => by subst e; rw [hm] at hb; cases hb
        exact ⟨wr, n', s, cs', by rw [set_other hne]; exact hb, Nat.le_refl _, fun _ => ⟨rfl, rfl, rfl⟩⟩
end Gv
