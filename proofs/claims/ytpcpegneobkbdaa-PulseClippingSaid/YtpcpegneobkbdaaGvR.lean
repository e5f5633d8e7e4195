/- Results, and calls: what the abstract machine's call gives, the model's call gives. -/
import Derived.Test.YtpcpegneobkbdaaGvQ
namespace Gv
open Go Go.RowKit

variable {P : Program} {B0 : Nat} {St0 : Nat → Nat → Prop} {w0 : World} {g : G} {St : Nat → Nat → Prop} {m : List Blk} {w : World} {call : Nat → List PV → Option RV}

def endAll (m : List Blk) (n : Nat) (l : List AV) : Option (List PV) := l.foldr (fun x r => match endA m n x, r with
      | some y, some ys => some (y :: ys)
      | _, _ => none) (some [])

/-- When a frame has ended, its cells are for good. -/
def StEnd (g : G) (m : List Blk) (St : Nat → Nat → Prop) (b o : Nat) : Prop := St b o ∨ ∃ d wr cs, m[d]? = some (.cells wr cs) ∧ b = g.ρ d

theorem endAll_sound {n : Nat} (ih : ∀ (v : AV) (x : PV) (u : Value), endA m n v = some x → VR g m St w v u → PR (StEnd g m St) w x u) : ∀ (l : List AV) (ps : List PV) (us : List Value), endAll m n l = some ps → VRs g m St w l us → PRs (StEnd g m St) w ps us
  | [], ps, us, h, hv => by
    simp [endAll] at h; subst h
    simpa [VRs, PRs] using hv
  | v :: l, ps, us, h, hv => by
    simp only [endAll, List.foldr_cons] at h
    split at h
    · rename_i y ys hy hys
      simp at h; subst h
      simp only [VRs] at hv
      obtain ⟨z, zs, rfl, h1, h2⟩ := hv
      simp only [PRs]
      exact ⟨z, zs, rfl, ih v y z hy h1, endAll_sound ih l ys zs hys h2⟩
    · cases h

theorem evo_end : Evo St w (StEnd g m St) w := fun _ _ h => ⟨.inl h, rfl⟩

theorem end_cells (h : MemOK B0 St0 w0 g St m w) {b : Nat} {wr : Bool} {cs : List AV} (hb : m[b]? = some (.cells wr cs)) : ∃ us : List Value, VRs g m St w cs us ∧ ∀ o, ∀ j x, us[o + j]? = some x → StEnd g m St (g.ρ b) (o + j) ∧ w.cell? ((⟨g.ρ b, o, none⟩ : Addr).add j) = some x ∧ x.oneCell' = true := by
  obtain ⟨_, cur, e, h2, h3, _, hone⟩ := h.mem b _ hb
  refine ⟨cur.toList, h3, fun o j x hx => ⟨.inr ⟨b, wr, cs, hb, rfl⟩, ?_, hone x (List.mem_of_getElem? hx)⟩⟩
  rw [row_cell h2]
  simpa using hx

def endB (m : List Blk) (n : Nat) (v : AV) : Option PV := match v with
    | .p v => some v
    | .nilS => some (PV.list 0 [])
    | .lit n _ cs => some (PV.list n cs)
    | .app _ n _ cs => some (PV.list n cs)
    | .agg cs => (endAll m n cs).map .agg
    | .clo f caps => (endAll m n caps).map (.fn f)
    | .loc b o => match m[b]? with
      | some (.cells _ cs) => (endAll m n cs).map fun ps => .imm ps o
      | _ => none
    | .msl b o len sz => match m[b]? with
      | some (.cells _ cs) => match endAll m n cs with
        | some ps => (sub ps o (len * sz)).map (.list len)
        | none => none
      | _ => none
    | _ => none
theorem endA_succ (m : List Blk) (n : Nat) (v : AV) : endA m (n + 1) v = endB m n v := by
  cases v <;> simp only [endA, endB] <;> rfl

theorem end_sound (h : MemOK B0 St0 w0 g St m w) : ∀ (n : Nat) (v : AV) (x : PV) (u : Value), endA m n v = some x → VR g m St w v u → PR (StEnd g m St) w x u
  | 0, v, x, u, he, _ => by simp [endA] at he
  | n + 1, v, x, u, he, hv => by
    have ih := end_sound h n
    rw [endA_succ] at he
    unfold endB at he
    have pure : ∀ y, pureA v = some y → PR (StEnd g m St) w y u := fun y hy => PR.mono evo_end _ _ (pureA_spec v y u hy hv)
    split at he
    · simp at he; subst he; exact pure _ rfl
    · simp at he; subst he; exact pure _ rfl
    · simp at he; subst he; exact pure _ rfl
    · simp at he; subst he; exact pure _ rfl
    · rename_i cs
      cases hc : endAll m n cs with
      | none => simp [hc] at he
      | some ps =>
        simp [hc] at he; subst he
        simp only [VR] at hv
        obtain ⟨us, rfl, hv⟩ := hv
        simp only [PR]
        exact ⟨us, rfl, endAll_sound ih cs ps us hc hv⟩
    · rename_i f caps
      cases hc : endAll m n caps with
      | none => simp [hc] at he
      | some ps =>
        simp [hc] at he; subst he
        simp only [VR] at hv
        obtain ⟨us, rfl, hv⟩ := hv
        simp only [PR]
        exact ⟨us, rfl, endAll_sound ih caps ps us hc hv⟩
    · rename_i b o
      split at he
      · rename_i wr cs hb
        cases hc : endAll m n cs with
        | none => simp [hc] at he
        | some ps =>
          simp [hc] at he; subst he
          simp only [VR] at hv
          obtain ⟨_, rfl⟩ := hv
          obtain ⟨us, h1, h2⟩ := end_cells h hb
          simp only [PR]
          refine ⟨⟨g.ρ b, 0, none⟩, us, by rw [addr_add]; simp, endAll_sound ih cs ps us hc h1, fun j x hx => ?_⟩
          have := h2 0 j x (by simpa using hx)
          simpa using this
      · cases he
    · rename_i b o len sz
      split at he
      · rename_i wr cs hb
        cases hc : endAll m n cs with
        | none => simp [hc] at he
        | some ps =>
          simp only [hc] at he
          cases hs : sub ps o (len * sz) with
          | none => simp [hs] at he
          | some ws =>
            simp [hs] at he; subst he
            obtain ⟨_, rfl⟩ := sub_spec hs
            simp only [VR] at hv
            obtain ⟨_, cap, rfl, hcap⟩ := hv
            obtain ⟨us, h1, h2⟩ := end_cells h hb
            simp only [PR]
            refine ⟨_, cap, (us.drop o).take (len * sz), rfl, (endAll_sound ih cs ps us hc h1).drop_take o (len * sz), hcap, .inr ⟨_, rfl, fun j x hx => ?_⟩⟩
            rw [List.getElem?_take] at hx
            split at hx
            · rw [List.getElem?_drop] at hx
              exact h2 o j x hx
            · cases hx
      · cases he
    · cases he

def readR (tmps : Array Value) : ResultVar → Sem Value
  | .tmp t => pure (tmps.getD t undef)
  | .cell a t => do loadVar t (← asAddr (tmps.getD a undef))

theorem results_eq (fn : Func) (tmps : Array Value) : results fn tmps = (do
    let vs ← fn.results.mapM (readR tmps)
    pure (if h : vs.size = 1 then vs[0] else .tuple vs)) := rfl

theorem run_mapM {f : ResultVar → Sem Value} : ∀ {l : List ResultVar} {us : List Value}, us.length = l.length → (∀ (i : Nat) (r : ResultVar) (u : Value), l[i]? = some r → us[i]? = some u → (f r).run P w = .ok u w) → (l.mapM f).run P w = .ok us w
  | [], us, hl, _ => by
    have := List.eq_nil_of_length_eq_zero (by simpa using hl)
    subst this
    simp
  | r :: l, [], hl, _ => by simp at hl
  | r :: l, u :: us, hl, h => by
    have h0 := h 0 r u rfl rfl
    have h1 := run_mapM (f := f) (l := l) (us := us) (by simpa using hl) fun i r u hi hu => h (i + 1) r u (by simpa using hi) (by simpa using hu)
    simp [List.mapM_cons, h0, h1]

def oneOf (us : List Value) : Value := match us with
  | [u] => u
  | us => .tuple us.toArray

theorem run_results {fn : Func} {tmps : Array Value} {us : List Value} (hl : us.length = fn.results.toList.length) (h : ∀ (i : Nat) (r : ResultVar) (u : Value), fn.results.toList[i]? = some r → us[i]? = some u → (readR tmps r).run P w = .ok u w) :
    (results fn tmps).run P w = .ok (oneOf us) w := by
  have hm : fn.results.mapM (readR tmps) = List.toArray <$> fn.results.toList.mapM (readR tmps) := by
    conv => lhs; rw [← Array.toArray_toList (xs := fn.results)]
    exact List.mapM_toArray
  rw [results_eq, hm]
  simp only [Sem.run_bind, Sem.run_map, run_mapM hl h, Result.andThen_ok, Sem.run_pure]
  match us with
  | [] => rfl
  | [u] => rfl
  | u :: v :: r => simp [oneOf]

/-- One result slot. -/
theorem slot_sound (h : MemOK B0 St0 w0 g St m w) {t : List AV} {tmps : Array Value} (ht : VRs g m St w t tmps.toList) {r : ResultVar} {rs : List ResultVar} {xs : List RSlot} (hc : resC P (r :: rs) = some xs) : ∃ x ys, xs = x :: ys ∧ resC P rs = some ys ∧
    ∀ v, resOf ⟨t, m⟩ x = some v → ∃ u, (readR tmps r).run P w = .ok u w ∧ VR g m St w v u := by
  have getD : ∀ (i : Nat) (v : AV), t[i]? = some v → VR g m St w v (tmps.getD i undef) := fun i v hi => by
    obtain ⟨u, h1, h2⟩ := ht.get hi
    have : tmps[i]? = some u := by simpa using h1
    simpa [Array.getD_eq_getD_getElem?, this] using h2
  cases r with
  | tmp i =>
    simp only [resC] at hc
    split at hc
    · rename_i ys hys
      simp at hc; subst hc
      exact ⟨_, _, rfl, hys, fun v hv => ⟨_, rfl, getD i v hv⟩⟩
    · cases hc
  | cell i ty =>
    simp only [resC] at hc
    split at hc
    · rename_i n ag ys hn ha hys
      simp at hc; subst hc
      refine ⟨_, _, rfl, hys, fun v hv => ?_⟩
      simp only [resOf] at hv
      split at hv
      · rename_i x hx
        obtain ⟨u, h1, h2⟩ := load_sound h ha hn hv (getD i x hx)
        refine ⟨u, ?_, h2⟩
        simp only [readR]
        simp only [Instr.loadAt] at h1
        cases hp : tmps.getD i undef <;> rw [hp] at h1 <;> (try (simp [Instr.sureAddr, stuck] at h1; done))
        rename_i p
        cases p with
        | none => simp [Instr.sureAddr, stuck] at h1
        | some a => simpa [Instr.sureAddr, asAddr] using h1
      · cases hv
    · cases hc

theorem slots_sound (h : MemOK B0 St0 w0 g St m w) {t : List AV} {tmps : Array Value} (ht : VRs g m St w t tmps.toList) : ∀ {rs : List ResultVar} {xs : List RSlot} {ps : List PV}, resC P rs = some xs → resAll ⟨t, m⟩ xs = some ps →
    ∃ us : List Value, us.length = rs.length ∧ (∀ (i : Nat) (r : ResultVar) (u : Value), rs[i]? = some r → us[i]? = some u → (readR tmps r).run P w = .ok u w) ∧ PRs (StEnd g m St) w ps us
  | [], xs, ps, hc, hr => by
    simp [resC] at hc; subst hc
    simp [resAll] at hr; subst hr
    exact ⟨[], rfl, by simp, by simp [PRs]⟩
  | r :: rs, xs, ps, hc, hr => by
    obtain ⟨x, ys, rfl, hys, hx⟩ := slot_sound h ht hc
    simp only [resAll] at hr
    split at hr
    · rename_i v hv
      split at hr
      · rename_i y zs hy hzs
        simp at hr; subst hr
        obtain ⟨u, h1, h2⟩ := hx v hv
        obtain ⟨us, k1, k2, k3⟩ := slots_sound h ht hys hzs
        refine ⟨u :: us, by simp [k1], fun i r' u' hi hu => ?_, by simp only [PRs]; exact ⟨u, us, rfl, end_sound h 8 v y u hy h2, k3⟩⟩
        cases i with
        | zero => simp at hi hu; subst hi; subst hu; exact h1
        | succ i => exact k2 i r' u' (by simpa using hi) (by simpa using hu)
      · cases hr
    · cases hr

theorem result_sound {s : S} (h : MemOK w0.heap.size St0 w0 g St s.m w) {fn : Func} {tmps : Array Value} (ht : VRs g s.m St w s.t tmps.toList) {xs : List RSlot} {rv : RV} (hc : resC P fn.results.toList = some xs) (hr : result s xs = some rv) :
    ∃ v, (results fn tmps).run P w = .ok v w ∧ CallPost St0 w0 rv (.returned v) w := by
  obtain ⟨t, m⟩ := s
  have lt : ∀ b o, StEnd g m St b o → b < w.heap.size := fun b o hs => by
    rcases hs with hs | ⟨d, wr, cs, hd, rfl⟩
    · exact h.stLt b o hs
    · exact h.lt (.inl ⟨wr, cs, hd⟩)
  have new : ∀ b o, StEnd g m St b o → St0 b o ∨ w0.heap.size ≤ b := fun b o hs => by
    rcases hs with hs | ⟨d, wr, cs, hd, rfl⟩
    · exact h.stNew b o hs
    · exact .inr (h.mem d _ hd).1
  have post : ∀ u, RR w0.heap.size (StEnd g m St) w rv u → CallPost St0 w0 rv (.returned u) w := fun u hu =>
    ⟨u, StEnd g m St, rfl, hu, h.below, fun b o hs => .inl (h.stOld b o hs), lt, new⟩
  have many : ∀ ps, resAll ⟨t, m⟩ xs = some ps → xs.length ≠ 1 → rv = .val (.tup ps) → ∃ v, (results fn tmps).run P w = .ok v w ∧ CallPost St0 w0 rv (.returned v) w := by
    rintro ps hps hne rfl
    obtain ⟨us, k1, k2, k3⟩ := slots_sound h ht hc hps
    have hlen : ∀ {rs : List ResultVar} {ys : List RSlot}, resC P rs = some ys → ys.length = rs.length := by
      intro rs
      induction rs with
      | nil => intro ys hy; simp [resC] at hy; subst hy; rfl
      | cons r rs ih =>
        intro ys hy
        cases r <;> simp only [resC] at hy <;> split at hy <;> (try (cases hy; done)) <;> simp at hy <;> subst hy <;> simp [ih (by assumption)]
    refine ⟨_, run_results k1 k2, post _ ?_⟩
    have := hlen hc
    match us, k1, k3 with
    | [], _, k3 => simp only [RR, PR]; exact ⟨[], rfl, k3⟩
    | [u], k1, _ => rw [← this] at k1; exact absurd k1.symm hne
    | u :: v :: r, _, k3 => simp only [RR, PR]; exact ⟨_, rfl, k3⟩
  unfold result at hr
  split at hr
  · rename_i r
    cases hrs : fn.results.toList with
    | nil => rw [hrs] at hc; simp [resC] at hc
    | cons r0 rs =>
      rw [hrs] at hc
      obtain ⟨x, ys, he, hys, hx⟩ := slot_sound h ht hc
      simp at he
      obtain ⟨rfl, rfl⟩ := he
      have hnil : rs = [] := by
        cases rs with
        | nil => rfl
        | cons r1 rs =>
          obtain ⟨_, _, he, _⟩ := slot_sound h ht hys
          cases he
      subst hnil
      have fin : ∀ v u, resOf ⟨t, m⟩ r = some v → (readR tmps r0).run P w = .ok u w → RR w0.heap.size (StEnd g m St) w rv u → ∃ v, (results fn tmps).run P w = .ok v w ∧ CallPost St0 w0 rv (.returned v) w := by
        intro v u hv hu hR
        refine ⟨u, ?_, post u hR⟩
        have := run_results (P := P) (w := w) (fn := fn) (tmps := tmps) (us := [u]) (by rw [hrs]; rfl) (by
          rw [hrs]
          intro i r u' hi hu'
          cases i with
          | zero => simp at hi hu'; subst hi; subst hu'; exact hu
          | succ i => simp at hi)
        exact this
      split at hr
      · rename_i b n sz cs hv
        obtain ⟨u, h1, h2⟩ := hx _ hv
        have hl := PR.mono (evo_end (g := g) (m := m)) _ _ (pureA_spec _ (.list n cs) u rfl h2)
        split at hr
        · rename_i n' hb
          simp at hr
          split at hr
          · rename_i hn
            subst hn; subst hr
            refine fin _ u hv h1 ?_
            simp only [VR] at h2
            obtain ⟨q, cap, us, rfl, hc1, hps, hul, hat, n2, hb2, _, hq⟩ := h2
            change m[b]? = _ at hb
            rw [hb] at hb2
            simp at hb2
            subst hb2
            obtain ⟨rfl, rfl, rfl⟩ := hq rfl
            obtain ⟨p1, cur, e, p2, p3, p4, p5, p6⟩ := h.mem b _ hb
            simp only [RR]
            refine ⟨_, _, us, cur, e, rfl, p1, p2, p3, p4, p5, PRs.mono evo_end _ _ hps, hul, hat.mono evo_end, fun j hj hs => ?_⟩
            rcases hs with hs | ⟨d, wr, cs', hd, he⟩
            · exact p6 j hj hs
            · have := h.inj b d (.inr ⟨_, hb⟩) (.inl ⟨wr, cs', hd⟩) he
              subst this
              rw [hb] at hd
              cases hd
          · subst hr
            exact fin _ u hv h1 hl
        · simp at hr; subst hr
          exact fin _ u hv h1 hl
      · rename_i v hv
        split at hr
        · rename_i x hx'
          simp at hr; subst hr
          obtain ⟨u, h1, h2⟩ := hx _ (by assumption)
          exact fin _ u (by assumption) h1 (end_sound h 8 _ _ u hx' h2)
        · cases hr
      · cases hr
  · rename_i hne
    split at hr
    · rename_i ps hps
      simp at hr
      refine many ps hps (fun h1 => ?_) hr.symm
      match xs, h1 with
      | [x], _ => exact hne x rfl
    · cases hr

/-! ### Calls -/

/-- Every function of the row is the model's, turned. -/
def EnvOK (P : Program) (env : Nat → Option AFn) : Prop := ∀ f af, env f = some af → ∃ fn fr ks, P.funcs[f]? = some fn ∧ fnC P fr ks fn = some af

theorem fnC_spec {fr : List Nat} {ks : List (List Nat × List Nat)} {fn : Func} {af : AFn} (h : fnC P fr ks fn = some af) : ∃ c x ks', fn.body = some c ∧ codeC P fr c ks = some (x, ks') ∧ resC P fn.results.toList = some af.res ∧ af.body = x ∧ af.np = fn.params.size + fn.nfree ∧ af.nt = fn.ntmps ∧ fn.name ≠ "runtime.NumGoroutine" := by
  unfold fnC at h
  split at h
  · rename_i c hb
    split at h
    · rename_i x ks' rs hx hrs
      split at h
      · cases h
      · rename_i hn
        simp at h; subst h
        exact ⟨c, x, ks', hb, hx, hrs, rfl, rfl, rfl, hn⟩
    · cases h
  · cases h

theorem calls_sound (hm : P.follows .mixedOrders = true) {env : Nat → Option AFn} (hE : EnvOK P env) : ∀ n, CallOK P (callN env n)
  | 0 => fun f args rv h => by simp [callN] at h
  | n + 1 => fun f args rv h => by
    simp only [callN] at h
    split at h
    · rename_i af haf
      split at h
      · obtain ⟨fn, fr, ks, hf, hc⟩ := hE f af haf
        obtain ⟨c, x, ks', hb, hx, hrs, hbody, hnp, hnt, hname⟩ := fnC_spec hc
        refine ⟨⟨fn, hf, by rw [hb]; rfl, hname⟩, fun w St vals hlt hargs => ?_⟩
        refine calls_of_wp hf hb ?_
        have h0 : FR w.heap.size St w (start af args) { tmps := vals.toArray ++ Array.replicate (fn.ntmps - vals.toArray.size) undef, defers := [] } w := by
          refine ⟨rfl, ⟨fun _ => 0, fun _ => 0, fun _ => 0⟩, St, ⟨Below.refl _ _, Nat.le_refl _, hlt, fun _ _ h => h, fun _ _ h => .inl h, fun b x hx => ?_, fun b b' hb => ?_⟩, ?_⟩
          · simp only [start, List.getElem?_replicate] at hx
            split at hx
            · simp at hx; subst hx; trivial
            · cases hx
          · exfalso
            rcases hb with ⟨wr, cs, hb⟩ | ⟨n, hb⟩ <;> simp only [start, List.getElem?_replicate] at hb <;> split at hb <;> simp at hb
          · have hl := hargs.length
            simp only [start, Array.toList_append, Array.toList_replicate, List.size_toArray, hnt, hl]
            refine (VRs.of_p hargs).append (VRs.of_get (by simp) fun i v u hv hu => ?_)
            rw [List.getElem?_replicate] at hv hu
            split at hv
            · rename_i hi
              rw [if_pos hi] at hu
              simp at hv hu
              subst hv; subst hu
              simp [VR]
            · cases hv
        have code := (code_sound (B0 := w.heap.size) (St0 := St) (w0 := w) fr hm (calls_sound hm hE n) n).1
        rw [hbody] at h
        split at h
        · rename_i s hs
          refine wp_mono (code c x ks ks' _ _ s _ w hx hs h0) fun e a' w' hq => ?_
          cases e with
          | normal =>
            obtain ⟨_, hd, g, St', k1, k2⟩ := hq
            obtain ⟨v, r1, r2⟩ := result_sound k1 k2 hrs h
            exact ⟨hd, v, r1, r2⟩
          | ret => cases hq.1
          | exit _ => cases hq.1
          | goto _ => exact hq.elim
          | panic _ => exact hq.elim
          | outgrown => exact hq.elim
        · rename_i s hs
          refine wp_mono (code c x ks ks' _ _ s _ w hx hs h0) fun e a' w' hq => ?_
          cases e with
          | ret =>
            obtain ⟨_, hd, g, St', k1, k2⟩ := hq
            obtain ⟨v, r1, r2⟩ := result_sound k1 k2 hrs h
            exact ⟨hd, v, r1, r2⟩
          | normal => cases hq.1
          | exit _ => cases hq.1
          | goto _ => exact hq.elim
          | panic _ => exact hq.elim
          | outgrown => exact hq.elim
        · cases h
      · cases h
    · cases h
end Gv
