/- Results, and calls: what the abstract machine's call gives, the model's call gives. -/
import Derived.Test.YtfhgjanheaocaaaGvQs
namespace Gv
open Go Go.RowKit
variable {P : Program} {N : Nat} {X : Nat → Prop} {J : Nat → JT} {g : G} {St : Nat → Nat → Prop} {m : List Blk} {w : World} {call : CallT}
def endAll (m : List Blk) (n : Nat) (l : List AV) : Option (List PV) := l.foldr (fun x r => match endA m n x, r with
      | some y, some ys => some (y :: ys)
      | _, _ => none) (some [])
def StEnd (g : G) (m : List Blk) (St : Nat → Nat → Prop) (b o : Nat) : Prop := St b o ∨ (∃ d wr cs, m[d]? = some (.cells wr cs) ∧ b = g.ρ d) ∨ ∃ d wr n s cs, m[d]? = some (.vec wr n s cs) ∧ b = g.ρ d ∧ o < n * s
theorem endAll_sound {n : Nat} (ih : ∀ (v : AV) (x : PV) (u : Value), endA m n v = some x → VR g m St w v u → PR (StEnd g m St) w x u) : ∀ (l : List AV) (ps : List PV) (us : List Value), endAll m n l = some ps → VRs g m St w l us → PRs (StEnd g m St) w ps us
  | [], ps, us, h, hv => by
    simp [endAll] at h; subst h
    simpa [VRs, PRs] using hv
  | v :: l, ps, us, h, hv => by
    simp only [endAll, List.foldr_cons] at h
    split at h
    · rename_i y ys hy hys
      simp at h; subst h
      simp only [VRs] at hv
      obtain ⟨z, zs, rfl, h1, h2⟩ := hv
      simp only [PRs]
      exact ⟨z, zs, rfl, ih v y z hy h1, endAll_sound ih l ys zs hys h2⟩
    · cases h
theorem evo_end : Evo St w (StEnd g m St) w := fun _ _ h => ⟨.inl h, rfl⟩
theorem end_cells (h : MemOK X J g St m w) {b : Nat} {wr : Bool} {cs : List AV} (hb : m[b]? = some (.cells wr cs)) : ∃ us : List Value, VRs g m St w cs us ∧ ∀ o, ∀ j x, us[o + j]? = some x → StEnd g m St (g.ρ b) (o + j) ∧ w.cell? ((⟨g.ρ b, o, none⟩ : Addr).add j) = some x ∧ x.oneCell' = true := by
  obtain ⟨_, cur, e, h2, h3, _, hone⟩ := h.mem b _ hb
  refine ⟨cur.toList, h3, fun o j x hx => ⟨.inr (.inl ⟨b, wr, cs, hb, rfl⟩), ?_, hone x (List.mem_of_getElem? hx)⟩⟩
  rw [row_cell h2]
  simpa using hx
theorem end_vec (h : MemOK X J g St m w) {b n s : Nat} {wr : Bool} {cs : List PV} (hb : m[b]? = some (.vec wr n s cs)) : ∃ us : List Value, PRs (StEnd g m St) w cs us ∧ us.length = n * s ∧ At (StEnd g m St) w ⟨g.ρ b, 0, none⟩ us := by
  obtain ⟨us, h1, h2, h3⟩ := vec_cells h hb
  refine ⟨us, PRs.mono evo_end _ _ h1, h2, fun j x hx => ⟨.inr (.inr ⟨b, wr, n, s, cs, hb, rfl, ?_⟩), ?_, (h3 j x hx).2⟩⟩
  · have := (List.getElem?_eq_some_iff.1 hx).1
    simp only [Nat.zero_add]
    omega
  · rw [addr_add, Nat.zero_add]
    exact (h3 j x hx).1
def endB (m : List Blk) (n : Nat) (v : AV) : Option PV := match v with
    | .p v => some v
    | .nilS => some (PV.list 0 [])
    | .lit n _ cs => some (PV.list n cs)
    | .app _ n _ cs => some (PV.list n cs)
    | .agg cs => (endAll m n cs).map .agg
    | .clo f caps => (endAll m n caps).map (.fn f)
    | .loc b o => match m[b]? with
      | some (.cells _ cs) => (endAll m n cs).map fun ps => .imm ps o
      | _ => none
    | .msl b o len sz => match m[b]? with
      | some (.cells _ cs) => match endAll m n cs with
        | some ps => (sub ps o (len * sz)).map (.list len)
        | none => none
      | _ => none
    | .vap b n _ => match m[b]? with
      | some (.vec _ n' _ cs) => if n' = n then some (.list n cs) else none
      | _ => none
    | .vlc b n o => match m[b]? with
      | some (.vec _ n' _ cs) => if n' = n then some (.imm cs o) else none
      | _ => none
    | _ => none
theorem endA_succ (m : List Blk) (n : Nat) (v : AV) : endA m (n + 1) v = endB m n v := by
  cases v <;> simp only [endA, endB] <;> rfl
theorem end_sound (h : MemOK X J g St m w) : ∀ (n : Nat) (v : AV) (x : PV) (u : Value), endA m n v = some x → VR g m St w v u → PR (StEnd g m St) w x u
  | 0, v, x, u, he, _ => by simp [endA] at he
  | n + 1, v, x, u, he, hv => by
    have ih := end_sound h n
    rw [endA_succ] at he
    unfold endB at he
    have pure : ∀ y, pureA v = some y → PR (StEnd g m St) w y u := fun y hy => PR.mono evo_end _ _ (pureA_spec v y u hy hv)
    split at he
    · simp at he; subst he; exact pure _ rfl
    · simp at he; subst he; exact pure _ rfl
    · simp at he; subst he; exact pure _ rfl
    · simp at he; subst he; exact pure _ rfl
    · rename_i cs
      cases hc : endAll m n cs with
      | none => simp [hc] at he
      | some ps =>
        simp [hc] at he; subst he
        simp only [VR] at hv
        obtain ⟨us, rfl, hv⟩ := hv
        simp only [PR]
        exact ⟨us, rfl, endAll_sound ih cs ps us hc hv⟩
    · rename_i f caps
      cases hc : endAll m n caps with
      | none => simp [hc] at he
      | some ps =>
        simp [hc] at he; subst he
        simp only [VR] at hv
        obtain ⟨us, rfl, hv⟩ := hv
        simp only [PR]
        exact ⟨us, rfl, endAll_sound ih caps ps us hc hv⟩
    · rename_i b o
      split at he
      · rename_i wr cs hb
        cases hc : endAll m n cs with
        | none => simp [hc] at he
        | some ps =>
          simp [hc] at he; subst he
          simp only [VR] at hv
          obtain ⟨_, rfl⟩ := hv
          obtain ⟨us, h1, h2⟩ := end_cells h hb
          simp only [PR]
          refine ⟨⟨g.ρ b, 0, none⟩, us, by rw [addr_add]; simp, endAll_sound ih cs ps us hc h1, fun j x hx => ?_⟩
          have := h2 0 j x (by simpa using hx)
          simpa using this
      · cases he
    · rename_i b o len sz
      split at he
      · rename_i wr cs hb
        cases hc : endAll m n cs with
        | none => simp [hc] at he
        | some ps =>
          simp only [hc] at he
          cases hs : sub ps o (len * sz) with
          | none => simp [hs] at he
          | some ws =>
            simp [hs] at he; subst he
            obtain ⟨_, rfl⟩ := sub_spec hs
            simp only [VR] at hv
            obtain ⟨_, cap, rfl, hcap⟩ := hv
            obtain ⟨us, h1, h2⟩ := end_cells h hb
            simp only [PR]
            refine ⟨_, cap, (us.drop o).take (len * sz), rfl, (endAll_sound ih cs ps us hc h1).drop_take o (len * sz), hcap, .inr ⟨_, rfl, fun j x hx => ?_⟩⟩
            rw [List.getElem?_take] at hx
            split at hx
            · rw [List.getElem?_drop] at hx
              exact h2 o j x hx
            · cases hx
      · cases he
    · rename_i b i sz
      split at he <;> try (cases he; done)
      rename_i wr n' s cs hb
      split at he <;> try (cases he; done)
      rename_i hn
      subst hn
      simp at he; subst he
      simp only [VR] at hv
      obtain ⟨q, cap, rfl, hcap, wr2, n2, s2, cs2, hb2, _, hq⟩ := hv
      rw [hb] at hb2
      simp only [Option.some.injEq, Blk.vec.injEq] at hb2
      obtain ⟨_, rfl, _, _⟩ := hb2
      obtain ⟨rfl, _⟩ := hq rfl
      obtain ⟨us, k1, _, k2⟩ := end_vec h hb
      simp only [PR]
      exact ⟨_, cap, us, rfl, k1, hcap, .inr ⟨_, rfl, k2⟩⟩
    · rename_i b i o
      split at he <;> try (cases he; done)
      rename_i wr n' s cs hb
      split at he <;> try (cases he; done)
      rename_i hn
      subst hn
      simp at he; subst he
      simp only [VR] at hv
      obtain ⟨q, rfl, wr2, n2, s2, cs2, hb2, _, hq⟩ := hv
      rw [hb] at hb2
      simp only [Option.some.injEq, Blk.vec.injEq] at hb2
      obtain ⟨_, rfl, _, _⟩ := hb2
      obtain rfl := hq rfl
      obtain ⟨us, k1, _, k2⟩ := end_vec h hb
      simp only [PR]
      exact ⟨⟨g.ρ b, 0, none⟩, us, by rw [addr_add]; simp, k1, k2⟩
    · cases he
def readR (tmps : Array Value) : ResultVar → Sem Value
  | .tmp t => pure (tmps.getD t undef)
  | .cell a t => do loadVar t (← asAddr (tmps.getD a undef))
theorem results_eq (fn : Func) (tmps : Array Value) : results fn tmps = (do
    let vs ← fn.results.mapM (readR tmps)
    pure (if h : vs.size = 1 then vs[0] else .tuple vs)) := rfl
theorem run_mapM {f : ResultVar → Sem Value} : ∀ {l : List ResultVar} {us : List Value}, us.length = l.length → (∀ (i : Nat) (r : ResultVar) (u : Value), l[i]? = some r → us[i]? = some u → (f r).run P w = .ok u w) → (l.mapM f).run P w = .ok us w
  | [], us, hl, _ => by
    have := List.eq_nil_of_length_eq_zero (by simpa using hl)
    subst this
    simp
  | r :: l, [], hl, _ => by simp at hl
  | r :: l, u :: us, hl, h => by
    have h0 := h 0 r u rfl rfl
    have h1 := run_mapM (f := f) (l := l) (us := us) (by simpa using hl) fun i r u hi hu => h (i + 1) r u (by simpa using hi) (by simpa using hu)
    simp [List.mapM_cons, h0, h1]
def oneOf (us : List Value) : Value := match us with
  | [u] => u
  | us => .tuple us.toArray
theorem run_results {fn : Func} {tmps : Array Value} {us : List Value} (hl : us.length = fn.results.toList.length) (h : ∀ (i : Nat) (r : ResultVar) (u : Value), fn.results.toList[i]? = some r → us[i]? = some u → (readR tmps r).run P w = .ok u w) :
    (results fn tmps).run P w = .ok (oneOf us) w := by
  have hm : fn.results.mapM (readR tmps) = List.toArray <$> fn.results.toList.mapM (readR tmps) := by
    conv => lhs; rw [← Array.toArray_toList (xs := fn.results)]
    exact List.mapM_toArray
  rw [results_eq, hm]
  simp only [Sem.run_bind, Sem.run_map, run_mapM hl h, Result.andThen_ok, Sem.run_pure]
  match us with
  | [] => rfl
  | [u] => rfl
  | u :: v :: r => simp [oneOf]
theorem slot_sound (h : MemOK X J g St m w) {t1 t2 : List AV} {tmps : Array Value} (hN : t1.length = N) (ht : VRs g m St w t1 tmps.toList) {r : ResultVar} {rs : List ResultVar} {xs : List RSlot} (hc : resC P N (r :: rs) = some xs) : ∃ x ys, xs = x :: ys ∧ resC P N rs = some ys ∧
    ∀ v, resOf ⟨t1 ++ t2, m⟩ x = some v → ∃ u, (readR tmps r).run P w = .ok u w ∧ VR g m St w v u := by
  have getD : ∀ (i : Nat) (v : AV), i < N → (t1 ++ t2)[i]? = some v → VR g m St w v (tmps.getD i undef) := fun i v hlt hi => by
    rw [List.getElem?_append_left (by omega)] at hi
    obtain ⟨u, h1, h2⟩ := ht.get hi
    have : tmps[i]? = some u := by simpa using h1
    simpa [Array.getD_eq_getD_getElem?, this] using h2
  cases r with
  | tmp i =>
    simp only [resC] at hc
    split at hc
    · rename_i ys hys
      split at hc <;> try (cases hc; done)
      rename_i hlt
      simp at hc; subst hc
      exact ⟨_, _, rfl, hys, fun v hv => ⟨_, rfl, getD i v hlt hv⟩⟩
    · cases hc
  | cell i ty =>
    simp only [resC] at hc
    split at hc
    · rename_i n ag ys hn ha hys
      split at hc <;> try (cases hc; done)
      rename_i hlt
      simp at hc; subst hc
      refine ⟨_, _, rfl, hys, fun v hv => ?_⟩
      simp only [resOf] at hv
      split at hv
      · rename_i x hx
        obtain ⟨u, h1, h2⟩ := load_sound h ha hn hv (getD i x hlt hx)
        refine ⟨u, ?_, h2⟩
        simp only [readR]
        simp only [Instr.loadAt] at h1
        cases hp : tmps.getD i undef <;> rw [hp] at h1 <;> (try (simp [Instr.sureAddr, stuck] at h1; done))
        rename_i p
        cases p with
        | none => simp [Instr.sureAddr, stuck] at h1
        | some a => simpa [Instr.sureAddr, asAddr] using h1
      · cases hv
    · cases hc
theorem slots_sound (h : MemOK X J g St m w) {t1 t2 : List AV} {tmps : Array Value} (hN : t1.length = N) (ht : VRs g m St w t1 tmps.toList) : ∀ {rs : List ResultVar} {xs : List RSlot} {ps : List PV}, resC P N rs = some xs → resAll ⟨t1 ++ t2, m⟩ xs = some ps →
    ∃ us : List Value, us.length = rs.length ∧ (∀ (i : Nat) (r : ResultVar) (u : Value), rs[i]? = some r → us[i]? = some u → (readR tmps r).run P w = .ok u w) ∧ PRs (StEnd g m St) w ps us
  | [], xs, ps, hc, hr => by
    simp [resC] at hc; subst hc
    simp [resAll] at hr; subst hr
    exact ⟨[], rfl, by simp, by simp [PRs]⟩
  | r :: rs, xs, ps, hc, hr => by
    obtain ⟨x, ys, rfl, hys, hx⟩ := slot_sound (t2 := t2) h hN ht hc
    simp only [resAll] at hr
    split at hr
    · rename_i v hv
      split at hr
      · rename_i y zs hy hzs
        simp at hr; subst hr
        obtain ⟨u, h1, h2⟩ := hx v hv
        obtain ⟨us, k1, k2, k3⟩ := slots_sound h hN ht hys hzs
        refine ⟨u :: us, by simp [k1], fun i r' u' hi hu => ?_, by simp only [PRs]; exact ⟨u, us, rfl, end_sound h 8 v y u hy h2, k3⟩⟩
        cases i with
        | zero => simp at hi hu; subst hi; subst hu; exact h1
        | succ i => exact k2 i r' u' (by simpa using hi) (by simpa using hu)
      · cases hr
    · cases hr
def JF (B0 : Nat) (St0 : Nat → Nat → Prop) (w0 : World) : Nat → JT := fun _ X St w => (∀ q, X q ↔ q < B0) ∧ Below B0 w0 w ∧ (∀ b o, St0 b o → St b o) ∧ (∀ b o, St b o → St0 b o ∨ B0 ≤ b)
theorem JF.abides {B0 : Nat} {St0 : Nat → Nat → Prop} {w0 : World} (hB : B0 ≤ w0.heap.size) (i : Nat) : Abides (JF B0 St0 w0 i) := by
  rintro X St St' w w' row ⟨h1, h2, h3, h4⟩ hg hr ev hl hn
  refine ⟨h1, h2.grown hg (Nat.le_trans hB h2.size) (fun k hk => ?_), fun b o hs => (ev b o (h3 b o hs)).1, fun b o hs => ?_⟩
  · have := hr k hk
    rw [h1] at this
    omega
  · rcases hn b o hs with k | k
    · exact h4 b o k
    · rw [h1] at k
      exact .inr (by omega)
theorem result_sound {w0 : World} {St0 : Nat → Nat → Prop} {t1 t2 : List AV} (h : MemOK X (JF w0.heap.size St0 w0) g St m w) (hlg : g.lg = none) {fn : Func} {tmps : Array Value} (hN : t1.length = N) (ht : VRs g m St w t1 tmps.toList) {xs : List RSlot} {rv : RV} (hc : resC P N fn.results.toList = some xs) (hr : result ⟨t1 ++ t2, m⟩ xs = some rv) :
    ∃ v, (results fn tmps).run P w = .ok v w ∧ CallPost St0 w0 rv (.returned v) w := by
  obtain ⟨hX, hbel, hold, hnew⟩ := h.inv
  have lt : ∀ b o, StEnd g m St b o → b < w.heap.size := fun b o hs => by
    rcases hs with hs | ⟨d, wr, cs, hd, rfl⟩ | ⟨d, wr, n, s, cs, hd, rfl, _⟩
    · exact h.stLt b o hs
    · exact h.lt ⟨_, hd, rfl⟩
    · exact h.lt ⟨_, hd, rfl⟩
  have new : ∀ b o, StEnd g m St b o → St0 b o ∨ w0.heap.size ≤ b := fun b o hs => by
    rcases hs with hs | ⟨d, wr, cs, hd, rfl⟩ | ⟨d, wr, n, s, cs, hd, rfl, _⟩
    · exact hnew b o hs
    · have := (h.mem d _ hd).1
      rw [hX] at this
      exact .inr (by omega)
    · have := (h.mem d _ hd).1
      rw [hX] at this
      exact .inr (by omega)
  have post : ∀ u, RR w0.heap.size (StEnd g m St) w rv u → CallPost St0 w0 rv (.returned u) w := fun u hu =>
    ⟨u, StEnd g m St, rfl, hu, hbel, fun b o hs => .inl (hold b o hs), lt, new⟩
  have many : ∀ ps, resAll ⟨t1 ++ t2, m⟩ xs = some ps → xs.length ≠ 1 → rv = .val (.tup ps) → ∃ v, (results fn tmps).run P w = .ok v w ∧ CallPost St0 w0 rv (.returned v) w := by
    rintro ps hps hne rfl
    obtain ⟨us, k1, k2, k3⟩ := slots_sound h hN ht hc hps
    have hlen : ∀ {rs : List ResultVar} {ys : List RSlot}, resC P N rs = some ys → ys.length = rs.length := by
      intro rs
      induction rs with
      | nil => intro ys hy; simp [resC] at hy; subst hy; rfl
      | cons r rs ih =>
        intro ys hy
        cases r
        · simp only [resC] at hy
          split at hy <;> try (cases hy; done)
          split at hy <;> try (cases hy; done)
          simp at hy; subst hy
          simp [ih (by assumption)]
        · simp only [resC] at hy
          split at hy <;> try (cases hy; done)
          split at hy <;> try (cases hy; done)
          simp at hy; subst hy
          simp [ih (by assumption)]
    refine ⟨_, run_results k1 k2, post _ ?_⟩
    have := hlen hc
    match us, k1, k3 with
    | [], _, k3 => simp only [RR, PR]; exact ⟨[], rfl, k3⟩
    | [u], k1, _ => rw [← this] at k1; exact absurd k1.symm hne
    | u :: v :: r, _, k3 => simp only [RR, PR]; exact ⟨_, rfl, k3⟩
  unfold result at hr
  split at hr
  · rename_i sh k n cs hlog
    have := (h.mem 0 _ hlog).2.1
    rw [hlg] at this
    cases this
  split at hr
  · rename_i r
    cases hrs : fn.results.toList with
    | nil => rw [hrs] at hc; simp [resC] at hc
    | cons r0 rs =>
      rw [hrs] at hc
      obtain ⟨x, ys, he, hys, hx⟩ := slot_sound (t2 := t2) h hN ht hc
      simp at he
      obtain ⟨rfl, rfl⟩ := he
      have hnil : rs = [] := by
        cases rs with
        | nil => rfl
        | cons r1 rs =>
          obtain ⟨_, _, he, _⟩ := slot_sound (t2 := t2) h hN ht hys
          cases he
      subst hnil
      have fin : ∀ v u, resOf ⟨t1 ++ t2, m⟩ r = some v → (readR tmps r0).run P w = .ok u w → RR w0.heap.size (StEnd g m St) w rv u → ∃ v, (results fn tmps).run P w = .ok v w ∧ CallPost St0 w0 rv (.returned v) w := by
        intro v u hv hu hR
        refine ⟨u, ?_, post u hR⟩
        have := run_results (P := P) (w := w) (fn := fn) (tmps := tmps) (us := [u]) (by rw [hrs]; rfl) (by
          rw [hrs]
          intro i r u' hi hu'
          cases i with
          | zero => simp at hi hu'; subst hi; subst hu'; exact hu
          | succ i => simp at hi)
        exact this
      split at hr
      · rename_i b n sz cs hv
        obtain ⟨u, h1, h2⟩ := hx _ hv
        have hl := PR.mono (evo_end (g := g) (m := m)) _ _ (pureA_spec _ (.list n cs) u rfl h2)
        split at hr
        · rename_i n' hb
          simp at hr
          split at hr
          · rename_i hn
            subst hn; subst hr
            refine fin _ u hv h1 ?_
            simp only [VR] at h2
            obtain ⟨q, cap, us, rfl, hc1, hps, hul, hat, n2, hb2, _, hq⟩ := h2
            change m[b]? = _ at hb
            rw [hb] at hb2
            simp at hb2
            subst hb2
            obtain ⟨rfl, rfl, rfl⟩ := hq rfl
            obtain ⟨p1, cur, e, p2, p3, p4, p5, p6⟩ := h.mem b _ hb
            simp only [RR]
            refine ⟨_, _, us, cur, e, rfl, by rw [hX] at p1; omega, p2, p3, p4, p5, PRs.mono evo_end _ _ hps, hul, hat.mono evo_end, fun j hj hs => ?_⟩
            rcases hs with hs | ⟨d, wr, cs', hd, he⟩ | ⟨d, wr, n, s, cs', hd, he, _⟩
            · exact p6 j hj hs
            · have := h.inj b d ⟨_, hb, rfl⟩ ⟨_, hd, rfl⟩ he
              subst this
              rw [hb] at hd
              cases hd
            · have := h.inj b d ⟨_, hb, rfl⟩ ⟨_, hd, rfl⟩ he
              subst this
              rw [hb] at hd
              cases hd
          · subst hr
            exact fin _ u hv h1 hl
        · simp at hr; subst hr
          exact fin _ u hv h1 hl
      · rename_i b n sz hv
        obtain ⟨u, h1, h2⟩ := hx _ hv
        have key : ∀ (wr : Bool) (n' s : Nat) (cs : List PV), m[b]? = some (.vec wr n' s cs) → n' = n → ∃ (cap : Nat) (us : List Value), u = .slice (some ⟨g.ρ b, 0, none⟩) n cap ∧ n ≤ cap ∧ sz = g.σ b ∧ cap = g.κ b ∧ s = sz ∧
            PRs (StEnd g m St) w cs us ∧ us.length = n * s ∧ At (StEnd g m St) w ⟨g.ρ b, 0, none⟩ us := by
          rintro wr n' s cs hb rfl
          simp only [VR] at h2
          obtain ⟨q, cap, rfl, hcap, wr2, n2, s2, cs2, hb2, _, hq⟩ := h2
          rw [hb] at hb2
          simp only [Option.some.injEq, Blk.vec.injEq] at hb2
          obtain ⟨_, rfl, _, _⟩ := hb2
          obtain ⟨rfl, rfl, rfl⟩ := hq rfl
          obtain ⟨us, k1, k2, k3⟩ := end_vec h hb
          obtain ⟨_, _, _, _, _, _, _, _, _, _, h7, _⟩ := h.mem b _ hb
          exact ⟨_, us, rfl, hcap, rfl, rfl, h7, k1, k2, k3⟩
        split at hr
        · rename_i n' s cs hb
          simp at hr
          obtain ⟨hn, hr⟩ := hr
          obtain ⟨cap, us, rfl, hcap, hsz, rfl, rfl, k1, k2, k3⟩ := key true n' s cs hb hn
          subst hn
          subst hr
          obtain ⟨p1, cur, e, us0, rest, p2, _, _, _, _, _, p8, _, p10, p11⟩ := h.mem b _ hb
          refine fin _ _ hv h1 ?_
          simp only [RR]
          refine ⟨_, _, us, cur, e, rfl, by rw [hX] at p1; omega, p2, p8, hcap, p10, k1, k2, k3, fun j hj hs => ?_⟩
          rcases hs with hs | ⟨d, wr, cs', hd, he⟩ | ⟨d, wr, n, s, cs', hd, he, hlt⟩
          · exact p11 rfl j hs
          · have := h.inj b d ⟨_, hb, rfl⟩ ⟨_, hd, rfl⟩ he
            subst this
            have hb : m[b]? = _ := hb
            rw [hb] at hd
            cases hd
          · have := h.inj b d ⟨_, hb, rfl⟩ ⟨_, hd, rfl⟩ he
            subst this
            have hb : m[b]? = _ := hb
            rw [hb] at hd
            simp only [Option.some.injEq, Blk.vec.injEq] at hd
            obtain ⟨_, rfl, rfl, _⟩ := hd
            omega
        · rename_i n' s cs hb
          simp at hr
          obtain ⟨hn, hr⟩ := hr
          obtain ⟨cap, us, rfl, hcap, hsz, rfl, rfl, k1, k2, k3⟩ := key false n' s cs hb hn
          subst hn
          subst hr
          refine fin _ _ hv h1 ?_
          simp only [RR, PR]
          exact ⟨_, _, us, rfl, k1, hcap, .inr ⟨_, rfl, k3⟩⟩
        · cases hr
      · rename_i v hv
        split at hr
        · rename_i x hx'
          simp at hr; subst hr
          obtain ⟨u, h1, h2⟩ := hx _ (by assumption)
          exact fin _ u (by assumption) h1 (end_sound h 8 _ _ u hx' h2)
        · cases hr
      · cases hr
  · rename_i hne
    split at hr
    · rename_i ps hps
      simp at hr
      refine many ps hps (fun h1 => ?_) hr.symm
      match xs, h1 with
      | [x], _ => exact hne x rfl
    · cases hr
theorem marks_leave {fn : Func} {R : Ending → World → Prop} {t1 : List AV} {tmps : Array Value} : ∀ (Ds : List Nat) (g : G) (w : World), Ds.Nodup → (∀ D ∈ Ds, g.φ D = some (.deferred (some []))) → MemOK X J g St m w → VRs g m St w t1 tmps.toList →
    (∀ (g' : G) (w' : World), MemOK X J g' St m w' → VRs g' m St w' t1 tmps.toList → g'.lg = g.lg → g'.ι = g.ι → g'.ρ = g.ρ ∧ g'.κ = g.κ ∧ g'.σ = g.σ → ∃ v, (results fn tmps).run P w' = .ok v w' ∧ R (.returned v) w') → LeavesInM Fence.wide 0 P fn tmps R (marks Ds) .returning w
  | [], g, w, _, _, h, ht, hK => hK g w h ht rfl rfl ⟨rfl, rfl, rfl⟩
  | D :: Ds, g, w, hnd, hφ, h, ht, hK => by
    obtain ⟨hn1, hn2⟩ := List.nodup_cons.1 hnd
    have hD := hφ D (by simp)
    obtain ⟨f1, f2, f3, f4⟩ := h.fix D _ hD
    have hsz : (w.putObj D (.deferred none)).heap.size = w.heap.size := World.putObj_size
    have ev : Evo St w St (w.putObj D (.deferred none)) := fun b o hs => ⟨hs, World.cell?_of_block (World.putObj_heap_other (fun e => f3 o (e ▸ hs)))⟩
    have m0 := h.seen (updF g.φ D none) (J' := J) (X' := X) h.inv h.ab h.b0 (fun q o hq => by
      simp only [updF] at hq
      split at hq
      · cases hq
      · exact h.fix q o hq) (fun b hb => own_not h hb)
    have m1 := m0.abide (grownBy_putObj' w D (.deferred none)) (fun q e => by cases e; exact ⟨f2, f4, by simp [updF]⟩) ev (fun b o hs => by rw [hsz]; exact h.stLt b o hs) (fun b o hs => .inl hs)
    refine ⟨by simp, .inl ⟨D, _, rfl, run_takeDeferred f1, ?_⟩⟩
    refine marks_leave Ds { g with φ := updF g.φ D none } _ hn2 (fun D' hD' => ?_) m1 (VRs.mono0 ev (MExt0.same g { g with φ := updF g.φ D none } _ rfl rfl rfl rfl) _ _ ht) fun g' w' k1 k2 k3 k4 k5 => hK g' w' k1 k2 k3 k4 k5
    have hne : D' ≠ D := fun e => hn1 (e ▸ hD')
    simp only [updF, if_neg hne]
    exact hφ D' (by simp [hD'])
def primA (np : Nat) (g : List PV → Option PV) : AFn :=
  { np := np, nt := np + 1, res := [.tmp np], body := .ops [{ dst := some np, grd := none, args := (List.range np).map .tmp, k := .l (.prim g) }], rf := true }
structure PrimOK (P : Program) (f : Nat) (g : List PV → Option PV) : Prop where
  ent : Enters P f
  ok : ∀ args v, g args = some v → ∀ (w : World) (St : Nat → Nat → Prop) (vals : List Value), (∀ b o, St b o → b < w.heap.size) → PRs St w args vals → Calls P f vals.toArray w (CallPost St w (.val v))
theorem get_range (args : List PV) (z : AV) : ((List.range args.length).map Arg.tmp).map (Arg.get (args.map .p ++ [z])) = args.map .p := by
  apply List.ext_getElem?
  intro i
  by_cases hi : i < args.length
  · simp [Arg.get, List.getElem?_append_left, hi]
  · rw [List.getElem?_eq_none (by simp; omega), List.getElem?_eq_none (by simp; omega)]
theorem pureAs_p : ∀ (args : List PV), pureAs (args.map .p) = some args
  | [] => rfl
  | a :: r => by simp only [List.map_cons, pureAs, pureA, pureAs_p r]
theorem prim_run {call : CallT} {n np : Nat} {g : List PV → Option PV} {args : List PV} {e : Ext} {s : S} {rv : RV} (hl : args.length = np) (hit : ∀ sh k r, args ≠ .it sh k :: r)
    (he : exN call n (primA np g).body (start (primA np g) args) = some (e, s)) (hr : result s (primA np g).res = some rv) : ∃ v, g args = some v ∧ rv = .val v := by
  subst hl
  have hs : start (primA args.length g) args = ⟨args.map .p ++ [.undef], List.replicate (args.length + 1) .none⟩ := by
    unfold start
    split
    · exact absurd rfl (hit _ _ _)
    · simp [primA]
  rw [hs] at he
  cases n with
  | zero => simp [exN] at he
  | succ n =>
    have hk : runK call (.l (.prim g)) (args.map .p) (List.replicate (args.length + 1) .none) = (g args).map fun v => (AV.p v, List.replicate (args.length + 1) Blk.none) := by
      simp only [runK, runL, pureAs_p]
      cases g args <;> rfl
    simp only [primA, exN, exOps, exOp, grd, get_range, hk] at he
    cases hg : g args with
    | none => rw [hg] at he; simp at he
    | some v =>
      rw [hg] at he
      simp only [Option.map_some, put, Option.some.injEq, Prod.mk.injEq] at he
      obtain ⟨_, rfl⟩ := he
      refine ⟨v, rfl, ?_⟩
      unfold result at hr
      split at hr
      · rename_i hm
        rw [List.getElem?_replicate] at hm
        split at hm <;> simp at hm
      · have e1 : ((args.map AV.p ++ [AV.undef]).set args.length (.p v))[args.length]? = some (.p v) := by
          rw [List.getElem?_set]; simp
        simp only [primA, resOf, e1, endA] at hr
        simp at hr
        exact hr.symm
def growA (sz : Nat) : AFn :=
  { np := 2, nt := 3, res := [.tmp 2], body := .ops [{ dst := some 2, grd := none, args := [.tmp 0, .tmp 1], k := .a 2 (.grow sz) }], rf := true }
structure GrowOK (P : Program) (f sz : Nat) : Prop where
  ent : Enters P f
  zero : ∀ (w : World) (St : Nat → Nat → Prop), (∀ b o, St b o → b < w.heap.size) → Calls P f #[.slice none 0 0, .int .i64 0] w (CallPost St w (.val .nilL))
  more : ∀ (n : Int), 0 < n → n ≤ big → ∀ (w : World) (St : Nat → Nat → Prop), (∀ b o, St b o → b < w.heap.size) → Calls P f #[.slice none 0 0, .int .i64 n] w (CallPost St w (.own 0 sz []))
theorem grow_one {call : CallT} {sz : Nat} {x y : PV} {v : AV} {b : Blk} (h : runA call 2 (.grow sz) [.p x, .p y] = some (v, b)) :
    ∃ n : Int, x = .nilL ∧ y = .int .i64 n ∧ ((n = 0 ∧ v = .p .nilL ∧ b = .none) ∨ (0 < n ∧ n ≤ big ∧ v = .app 2 0 sz [] ∧ b = .buf 0)) := by
  cases x <;> try (cases h; done)
  cases y <;> try (cases h; done)
  rename_i k n
  cases k <;> try (cases h; done)
  simp only [runA] at h
  refine ⟨n, rfl, rfl, ?_⟩
  split at h
  · rename_i h0
    simp only [Option.some.injEq, Prod.mk.injEq] at h
    exact .inl ⟨h0, h.1.symm, h.2.symm⟩
  · split at h <;> try (cases h; done)
    rename_i h1
    simp only [Option.some.injEq, Prod.mk.injEq] at h
    exact .inr ⟨h1.1, h1.2, h.1.symm, h.2.symm⟩
theorem grow_run {call : CallT} {n sz : Nat} {args : List PV} {e : Ext} {s : S} {rv : RV} (hl : args.length = 2) (hit : ∀ sh k r, args ≠ .it sh k :: r)
    (he : exN call n (growA sz).body (start (growA sz) args) = some (e, s)) (hr : result s (growA sz).res = some rv) :
    ∃ n : Int, args = [.nilL, .int .i64 n] ∧ ((n = 0 ∧ rv = .val .nilL) ∨ (0 < n ∧ n ≤ big ∧ rv = .own 0 sz [])) := by
  match args, hl with
  | [x, y], _ =>
    have hs : start (growA sz) [x, y] = ⟨[.p x, .p y, .undef], List.replicate 3 .none⟩ := by
      unfold start
      split
      · rename_i heq; exact absurd heq (hit _ _ _)
      · simp [growA]
    rw [hs] at he
    cases n with
    | zero => simp [exN] at he
    | succ n =>
      have hk : runK call (.a 2 (.grow sz)) [.p x, .p y] (List.replicate 3 .none) = (runA call 2 (.grow sz) [.p x, .p y]).map fun r => (r.1, (List.replicate 3 Blk.none).set 2 r.2) := by
        simp [runK]
      have ha : ([Arg.tmp 0, Arg.tmp 1].map (Arg.get [AV.p x, AV.p y, .undef])) = [.p x, .p y] := rfl
      simp only [growA, exN, exOps, exOp, grd, ha, hk] at he
      cases hq : runA call 2 (.grow sz) [.p x, .p y] with
      | none => rw [hq] at he; cases he
      | some q =>
        obtain ⟨v, b⟩ := q
        obtain ⟨k, rfl, rfl, h⟩ := grow_one hq
        rw [hq] at he
        simp only [Option.map_some, put, Option.some.injEq, Prod.mk.injEq] at he
        obtain ⟨_, rfl⟩ := he
        refine ⟨k, rfl, ?_⟩
        rcases h with ⟨rfl, rfl, rfl⟩ | ⟨h1, h2, rfl, rfl⟩
        · refine .inl ⟨rfl, ?_⟩
          have : result ⟨[AV.p .nilL, AV.p (.int .i64 0), AV.p .nilL], List.replicate 3 Blk.none⟩ (growA sz).res = some (.val .nilL) := rfl
          exact (Option.some.inj (this.symm.trans hr)).symm
        · refine .inr ⟨h1, h2, ?_⟩
          have : result ⟨[AV.p .nilL, AV.p (.int .i64 k), AV.app 2 0 sz []], [Blk.none, Blk.none, Blk.buf 0]⟩ (growA sz).res = some (.own 0 sz []) := rfl
          exact (Option.some.inj (this.symm.trans hr)).symm
def toldA (np : Nat) (sh : List (Option Nat)) (g : List PV → Option (Nat × List PV)) : AFn :=
  { np := np, nt := np, res := [], body := .ops [{ dst := none, grd := none, args := (List.range np).map .tmp, k := .s (.told sh g) }], rf := false }
structure ToldOK (P : Program) (f : Nat) (sh : List (Option Nat)) (g : List PV → Option (Nat × List PV)) : Prop where
  ent : Enters P f
  ok : ∀ caps N cs, g caps = some (N, cs) → N ≤ big → cs.length = N * shSize sh → ∀ k, IterC P f sh k caps (min (k + 1) N) (cs.take (min (k + 1) N * shSize sh))
theorem get_range1 (x : AV) (args : List PV) : ((List.range (args.length + 1)).map Arg.tmp).map (Arg.get (x :: args.map .p)) = x :: args.map .p := by
  apply List.ext_getElem?
  intro i
  by_cases hi : i < args.length + 1
  · cases i with
    | zero => simp [Arg.get]
    | succ i => simp [Arg.get, show i < args.length by omega]
  · rw [List.getElem?_eq_none (by simp; omega), List.getElem?_eq_none (by simp; omega)]
theorem get_range0 (args : List PV) : ((List.range args.length).map Arg.tmp).map (Arg.get (args.map .p)) = args.map .p := by
  apply List.ext_getElem?
  intro i
  by_cases hi : i < args.length
  · simp [Arg.get, hi]
  · rw [List.getElem?_eq_none (by simp; omega), List.getElem?_eq_none (by simp; omega)]
theorem told_ex {call : CallT} {n np k N : Nat} {sh sh' : List (Option Nat)} {g : List PV → Option (Nat × List PV)} {caps : List PV} {cs : List PV} (hl : caps.length + 1 = np) (hg : g caps = some (N, cs)) (hsh : sh' = sh) (hb : N ≤ big) (hc : cs.length = N * shSize sh) :
    exN call (n + 1) (toldA np sh g).body (start (toldA np sh g) (.it sh' (k + 1) :: caps)) = some (.normal, ⟨.yv :: caps.map .p, .log sh k (min (k + 1) N) (cs.take (min (k + 1) N * shSize sh)) :: List.replicate caps.length .none⟩) := by
  subst hl
  subst hsh
  have e : runS call (.told sh' g) (.yv :: caps.map .p) (.log sh' k 0 [] :: List.replicate caps.length .none) = some (.undef, .log sh' k (min (k + 1) N) (cs.take (min (k + 1) N * shSize sh')) :: List.replicate caps.length .none) := by
    simp only [runS, List.getElem?_cons_zero, pureAs_p, hg, hb, hc, and_self, if_true, List.set_cons_zero]
  simp only [toldA, start, exN, exOps, exOp, grd, Nat.add_sub_cancel, Nat.sub_self, List.replicate_zero, List.append_nil, get_range1, runK, e, put]
theorem told_run {call : CallT} {n np k : Nat} {sh sh' : List (Option Nat)} {g : List PV → Option (Nat × List PV)} {caps : List PV} {e : Ext} {s : S} {rv : RV} (hl : caps.length + 1 = np)
    (he : exN call n (toldA np sh g).body (start (toldA np sh g) (.it sh' (k + 1) :: caps)) = some (e, s)) (hr : result s (toldA np sh g).res = some rv) :
    ∃ N cs, g caps = some (N, cs) ∧ sh' = sh ∧ N ≤ big ∧ cs.length = N * shSize sh ∧ rv = .val (.list (min (k + 1) N) (cs.take (min (k + 1) N * shSize sh))) := by
  cases n with
  | zero => simp [exN] at he
  | succ n =>
    cases hg : g caps with
    | none =>
      subst hl
      simp only [toldA, start, exN, exOps, exOp, grd, Nat.add_sub_cancel, Nat.sub_self, List.replicate_zero, List.append_nil, get_range1, runK, runS, List.getElem?_cons_zero, pureAs_p, hg] at he
      cases he
    | some q =>
      obtain ⟨N, cs⟩ := q
      by_cases hc : sh' = sh ∧ N ≤ big ∧ cs.length = N * shSize sh
      · rw [told_ex hl hg hc.1 hc.2.1 hc.2.2] at he
        simp only [Option.some.injEq, Prod.mk.injEq] at he
        obtain ⟨_, rfl⟩ := he
        refine ⟨N, cs, rfl, hc.1, hc.2.1, hc.2.2, ?_⟩
        simp only [result, List.getElem?_cons_zero, Option.some.injEq] at hr
        exact hr.symm
      · subst hl
        simp only [toldA, start, exN, exOps, exOp, grd, Nat.add_sub_cancel, Nat.sub_self, List.replicate_zero, List.append_nil, get_range1, runK, runS, List.getElem?_cons_zero, pureAs_p, hg, if_neg hc] at he
        cases he
theorem told_it {call : CallT} {n np : Nat} {sh : List (Option Nat)} {g : List PV → Option (Nat × List PV)} {args : List PV} {e : Ext} {s : S} (hl : args.length = np) (hit : ∀ sh k r, args ≠ .it sh k :: r)
    (he : exN call n (toldA np sh g).body (start (toldA np sh g) args) = some (e, s)) : False := by
  subst hl
  have hs : start (toldA args.length sh g) args = ⟨args.map .p, List.replicate args.length .none⟩ := by
    unfold start
    split
    · exact absurd rfl (hit _ _ _)
    · simp [toldA]
  rw [hs] at he
  cases n with
  | zero => simp [exN] at he
  | succ n =>
    have hk : runK call (.s (.told sh g)) (args.map .p) (List.replicate args.length .none) = none := by
      cases args <;> rfl
    simp only [toldA, exN, exOps, exOp, grd, get_range0, hk] at he
    cases he
theorem told_lend {call : CallT} {n np : Nat} {sh : List (Option Nat)} {g : List PV → Option (Nat × List PV)} {s0 : S} (hm : ∀ sh k n cs, s0.m[(0 : Nat)]? ≠ some (.log sh k n cs)) {e : Ext} {s : S}
    (he : exN call n (toldA np sh g).body s0 = some (e, s)) : False := by
  cases n with
  | zero => simp [exN] at he
  | succ n =>
    have hk : ∀ vs, runK call (.s (.told sh g)) vs s0.m = none := by
      intro vs
      cases vs with
      | nil => rfl
      | cons v vs =>
        cases v <;> try rfl
        simp only [runK, runS]
        split
        · rename_i h
          exact absurd h (hm _ _ _ _)
        · rfl
    simp only [toldA, exN, exOps, exOp, grd, hk] at he
    cases he
theorem start_nolog {af : AFn} {as : List AV} {ms : List Blk} {s0 : S} (h : startB af as ms = some s0) : ∀ sh k n cs, s0.m[(0 : Nat)]? ≠ some (.log sh k n cs) := by
  intro sh k n cs hm
  unfold startB at h
  split at h <;> try (cases h; done)
  rename_i as' ms1 hras hrms
  simp only [Option.some.injEq] at h
  subst h
  obtain ⟨p1, p2⟩ := renBs_spec hrms
  by_cases hlt : 0 < af.nt
  · rw [List.getElem?_append_left (by simpa using hlt)] at hm
    simp [hlt] at hm
  · have h0 : af.nt = 0 := by omega
    simp only [h0, List.replicate_zero, List.nil_append] at hm
    have hl := (List.getElem?_eq_some_iff.1 hm).1
    obtain ⟨y, hy, hry⟩ := p2 0 _ (List.getElem?_eq_getElem (show 0 < ms.length by omega))
    rw [hm] at hy
    simp at hy; subst hy
    cases hx : ms[0]'(by omega) <;> rw [hx] at hry <;> simp only [renB] at hry
    · simp at hry
    · split at hry <;> simp at hry
    · simp at hry
    · cases hry
    · simp at hry
def EnvOK (P : Program) (env : Nat → Option AFn) : Prop := ∀ f af, env f = some af → (∃ fn fr ks, P.funcs[f]? = some fn ∧ fnC P fr ks fn = some af) ∨ (∃ np g, af = primA np g ∧ PrimOK P f g) ∨ (∃ sz, af = growA sz ∧ GrowOK P f sz) ∨ ∃ np sh g, af = toldA np sh g ∧ ToldOK P f sh g
theorem fnC_spec {fr : List Nat} {ks : List (List Nat × List Nat)} {fn : Func} {af : AFn} (h : fnC P fr ks fn = some af) : ∃ c x ks', fn.body = some c ∧ codeC P (fn.ntmps, [], fn.ntmps) fr c ks = some (x, ks') ∧ resC P fn.ntmps fn.results.toList = some af.res ∧ af.body = x ∧
    af.np = fn.params.size + fn.nfree ∧ af.nt = fn.ntmps + (if hasRange c then 24 else 0) ∧ af.rf = hasRange c ∧ fn.name ≠ "runtime.NumGoroutine" ∧ af.np ≤ fn.ntmps := by
  unfold fnC at h
  split at h
  · rename_i c hb
    split at h
    · rename_i x ks' rs hx hrs
      split at h
      · cases h
      · rename_i hn
        simp only [not_or] at hn
        simp at h; subst h
        exact ⟨c, x, ks', hb, hx, hrs, rfl, rfl, rfl, rfl, hn.1, by have := hn.2; simp only; omega⟩
    · cases h
  · cases h
theorem calls_of_marks {f : Nat} {fn : Func} {c : Code} {args : Array Value} {R : Ending → World → Prop} (hf : P.funcs[f]? = some fn) (hb : fn.body = some c)
    (h : c.wpIn (FW none) 0 P (bodyPostM Fence.wide 0 P fn R) { tmps := args ++ Array.replicate (fn.ntmps - args.size) undef, defers := [] } w) : Calls P f args w R :=
  (callsIn_wide (n := 0)).1 (callsIn_of_wp_marks hf hb trivial h)
theorem undef_rows {n : Nat} : VRs g m St w (List.replicate n .undef) (List.replicate n undef) := by
  refine VRs.of_get (by simp) fun i v u hv hu => ?_
  rw [List.getElem?_replicate] at hv hu
  split at hv
  · rename_i hi
    rw [if_pos hi] at hu
    simp at hv hu
    subst hv; subst hu
    simp [VR]
  · cases hv
theorem plain_call (hm : P.follows .mixedOrders = true) (hcall : CallOK P call) {f : Nat} {fn : Func} {fr : List Nat} {c : Code} {ac : ACode} {ks ks' : List (List Nat × List Nat)} {n : Nat} {af : AFn} {args : List PV} {rv : RV} (hf : P.funcs[f]? = some fn) (hb : fn.body = some c)
    (hx : codeC P (fn.ntmps, [], fn.ntmps) fr c ks = some (ac, ks')) (hrs : resC P fn.ntmps fn.results.toList = some af.res) (hnt : af.nt = fn.ntmps + (if hasRange c then 24 else 0)) (hle : args.length ≤ fn.ntmps) (hit : ∀ sh k r, args ≠ .it sh k :: r) {e : Ext} {s : S}
    (he : exN call n ac (start af args) = some (e, s)) (hend : e = .normal ∨ e = .ret) (hr : result s af.res = some rv) {vals : List Value} (hlt : ∀ b o, St b o → b < w.heap.size) (hargs : PRs St w args vals) : Calls P f vals.toArray w (CallPost St w rv) := by
  refine calls_of_marks hf hb ?_
  obtain ⟨cx, hcx⟩ : ∃ cx : Cx, cx = { J := JF w.heap.size St w, lg := none, ly := 0, nT := 0, csT := [], N := fn.ntmps, kp := [], u := #[], B := fn.ntmps, xt := [], r := none, φ := fun _ => none } := ⟨_, rfl⟩
  have hstart : start af args = ⟨args.map .p ++ List.replicate (af.nt - args.length) .undef, List.replicate af.nt .none⟩ := by
    unfold start
    split
    · exact absurd rfl (hit _ _ _)
    · rfl
  have hl := hargs.length
  have h0 : FR cx (start af args) { tmps := vals.toArray ++ Array.replicate (fn.ntmps - vals.toArray.size) undef, defers := [] } w := by
    subst hcx
    refine ⟨fun q => q < w.heap.size, ⟨fun _ => 0, fun _ => 0, fun _ => 0, 0, 0, none, fun _ => none⟩, St, [], args.map .p ++ List.replicate (fn.ntmps - args.length) .undef, List.replicate (af.nt - fn.ntmps) .undef, rfl, List.nodup_nil, fun D hD => by simp at hD, ?_, ?_, fun i hi => by simp at hi, fun p hp => by simp at hp, rfl, rfl, fun q o hq => by simp at hq, ?_, ?_, fun q hq => by cases hq⟩
    · rw [hstart]
      simp only [List.append_assoc, List.replicate_append_replicate]
      congr 2
      omega
    · simp; omega
    · rw [hstart]
      refine ⟨⟨fun _ => Iff.rfl, Below.refl _ _, fun _ _ h => h, fun _ _ h => .inl h⟩, JF.abides (Nat.le_refl _), fun _ h => h, hlt, fun q o hq => by simp at hq, fun b x hx => ?_, fun b b' hb => ?_⟩
      · simp only [List.getElem?_replicate] at hx
        split at hx
        · simp at hx; subst hx; trivial
        · cases hx
      · exfalso
        obtain ⟨x, hb, ho⟩ := hb
        simp only [List.getElem?_replicate] at hb
        split at hb <;> simp at hb
        subst hb
        cases ho
    · simp only [Array.toList_append, Array.toList_replicate, List.size_toArray, hl]
      exact (VRs.of_p hargs).append undef_rows
  have hok : cx.OK P := by
    subst hcx
    exact ⟨Nat.le_refl _, fun p hp => by simp at hp, fun l hl => by simp at hl, fun sh k hk => by simp at hk⟩
  have code := code_sound fr hm hcall n cx c ac ks ks' _ e s _ w hok (fun _ => by rw [hcx]; exact ⟨rfl, rfl⟩) (fun hl => absurd (by rw [hcx]) hl) (by rw [hcx]; exact hx) he (fun sh k hk => by rw [hcx] at hk; cases hk) h0
  have post : ∀ a' w', FR cx s a' w' → LeavesInM Fence.wide 0 P fn a'.tmps (CallPost St w rv) a'.defers .returning w' := by
    rintro a' w' ⟨X', g', St', Ds, t1, t2, k⟩
    rw [k.df]
    have hlg : g'.lg = none := k.lg.trans (by rw [hcx])
    refine marks_leave Ds g' w' k.nd k.fx k.mo k.vr fun g2 w2 q1 q2 q3 _ _ => ?_
    have hs : s = ⟨t1 ++ t2, s.m⟩ := by rw [← k.tt]
    rw [hs] at hr
    have hJ : cx.J = JF w.heap.size St w := by rw [hcx]
    rw [hJ] at q1
    exact result_sound q1 (q3.trans hlg) (by rw [k.len, hcx]) q2 hrs hr
  have hr0 : cx.r = none := by rw [hcx]
  rw [hr0] at code
  refine wpIn_mono code fun ex a' w' hq => ?_
  cases ex with
  | normal => exact post a' w' hq.2
  | ret => exact post a' w' hq.2
  | exit i =>
    have h1 := hq.1
    rcases hend with rfl | rfl <;> cases h1
  | goto _ => exact hq.elim
  | panic _ => exact hq.elim
  | outgrown => exact hq.elim
def JE (J : Nat → JT) (St0 : Nat → Nat → Prop) (w0 : World) : Nat → JT := fun i X St w => J i X St w ∧ Evo St0 w0 St w
theorem JE.abides {J : Nat → JT} (h : ∀ i, Abides (J i)) (St0 : Nat → Nat → Prop) (w0 : World) : ∀ i, Abides (JE J St0 w0 i) :=
  fun i X St St' w w' row hs hg hr ev hl hn => ⟨h i X St St' w w' row hs.1 hg hr ev hl hn, hs.2.trans ev⟩
theorem raws_sound (h : MemOK X J g St m w) {t1 t2 : List AV} {tmps : Array Value} (hN : t1.length = N) (ht : VRs g m St w t1 tmps.toList) : ∀ {rs : List ResultVar} {xs : List RSlot} {vs : List AV}, resC P N rs = some xs → resRaw ⟨t1 ++ t2, m⟩ xs = some vs →
    ∃ us : List Value, us.length = rs.length ∧ (∀ (i : Nat) (r : ResultVar) (u : Value), rs[i]? = some r → us[i]? = some u → (readR tmps r).run P w = .ok u w) ∧ VRs g m St w vs us
  | [], xs, vs, hc, hr => by
    simp [resC] at hc; subst hc
    simp [resRaw] at hr; subst hr
    exact ⟨[], rfl, by simp, by simp [VRs]⟩
  | r :: rs, xs, vs, hc, hr => by
    obtain ⟨x, ys, rfl, hys, hx⟩ := slot_sound (t2 := t2) h hN ht hc
    simp only [resRaw] at hr
    split at hr
    · rename_i v zs hv hzs
      simp at hr; subst hr
      obtain ⟨u, h1, h2⟩ := hx v hv
      obtain ⟨us, k1, k2, k3⟩ := raws_sound h hN ht hys hzs
      refine ⟨u :: us, by simp [k1], fun i r' u' hi hu => ?_, ⟨u, us, rfl, h2, k3⟩⟩
      cases i with
      | zero => simp at hi hu; subst hi; subst hu; exact h1
      | succ i => simp at hi hu; exact k2 i r' u' hi hu
    · cases hr
theorem resC_len : ∀ {rs : List ResultVar} {ys : List RSlot}, resC P N rs = some ys → ys.length = rs.length := by
  intro rs
  induction rs with
  | nil => intro ys hy; simp [resC] at hy; subst hy; rfl
  | cons r rs ih =>
    intro ys hy
    cases r
    · simp only [resC] at hy
      split at hy <;> try (cases hy; done)
      split at hy <;> try (cases hy; done)
      simp at hy; subst hy
      simp [ih (by assumption)]
    · simp only [resC] at hy
      split at hy <;> try (cases hy; done)
      split at hy <;> try (cases hy; done)
      simp at hy; subst hy
      simp [ih (by assumption)]
theorem ps?_sound : ∀ {vs : List AV} {ps : List PV} {us : List Value}, ps? vs = some ps → VRs g m St w vs us → PRs St w ps us
  | [], ps, us, h, hv => by
    simp [ps?] at h; subst h
    simpa [PRs, VRs] using hv
  | v :: vs, ps, us, h, hv => by
    obtain ⟨u, us', rfl, h1, h2⟩ := hv
    cases v <;> simp only [ps?] at h <;> try (cases h; done)
    split at h
    · rename_i qs hqs
      simp at h; subst h
      exact ⟨u, us', rfl, by simpa [VR] using h1, ps?_sound hqs h2⟩
    · cases h
theorem renB_log {σ : Nat → Option Nat} {x : Blk} {sh : List (Option Nat)} {k n : Nat} {cs : List PV} : renB σ x ≠ some (.log sh k n cs) := by
  intro h
  cases x <;> simp only [renB] at h
  · simp at h
  · split at h <;> simp at h
  · simp at h
  · cases h
  · simp at h
def giveL (nt k : Nat) (ad : Option Nat) : List Nat := (List.range k).map (· + nt) ++ ad.toList
theorem giveL_get {nt k : Nat} {ad : Option Nat} (_had : ∀ a, ad = some a → a < nt) {b b' : Nat} (h : backOf nt k ad b = some b') : (giveL nt k ad)[b']? = some b := by
  unfold backOf at h
  unfold giveL
  split at h
  · rename_i hb
    simp at h; subst h
    rw [List.getElem?_append_left (by simp; omega), List.getElem?_map, List.getElem?_range (by omega)]
    simp
    omega
  · split at h
    · rename_i he
      simp at h; subst h
      rw [List.getElem?_append_right (by simp), he]
      simp
    · cases h
theorem backOf_give {nt k : Nat} {ad : Option Nat} (had : ∀ a, ad = some a → a < nt) {b b' : Nat} (h : (giveL nt k ad)[b']? = some b) : backOf nt k ad b = some b' := by
  unfold giveL at h
  by_cases hb : b' < k
  · rw [List.getElem?_append_left (by simpa using hb)] at h
    simp [hb] at h
    subst h
    unfold backOf
    rw [if_pos ⟨by omega, by omega⟩]
    simp
  · rw [List.getElem?_append_right (by simp; omega)] at h
    cases hd : ad with
    | none => rw [hd] at h; simp at h
    | some a =>
      rw [hd] at h
      have ha := had a hd
      have : b' - k = 0 := by
        rcases Nat.eq_zero_or_pos (b' - k) with e | e
        · exact e
        · simp only [List.length_map, List.length_range, Option.toList] at h
          rw [List.getElem?_eq_none (by simp; omega)] at h
          cases h
      simp [this] at h
      subst h
      unfold backOf
      rw [if_neg (by omega), if_pos rfl]
      congr 1
      omega
theorem gaveB_sound {J : Nat → JT} {St0 : Nat → Nat → Prop} {w0 : World} (h : MemOK X (JE J St0 w0) g St m w) (hab : ∀ i, Abides (J i)) (hlg : g.lg = none) {nt k : Nat} {ad : Option Nat} (had : ∀ a, ad = some a → a < nt) (hlen : m.length = nt + k) {ms' : List Blk}
    (hms : renBs (backOf nt k ad) (m.drop nt ++ adB m ad) = some ms') :
    ∃ g', MemOK X J g' St ms' w ∧ RenOK (backOf nt k ad) g m g' ms' ∧ g'.lg = none ∧ (∀ i, i < k → g'.ρ i = g.ρ (i + nt) ∧ g'.κ i = g.κ (i + nt) ∧ g'.σ i = g.σ (i + nt)) ∧ (∀ i x, i < k → m[i + nt]? = some x → ∃ x', renB (backOf nt k ad) x = some x' ∧ ms'[i]? = some x') := by
  obtain ⟨r1, r2⟩ := renBs_spec hms
  have hL : (m.drop nt ++ adB m ad).length = (giveL nt k ad).length := by
    unfold giveL
    rw [List.length_append, List.length_drop, List.length_append, List.length_map, List.length_range]
    cases ad with
    | none => simp [adB]; omega
    | some a => simp [adB]; omega
  have src : ∀ b b' : Nat, (giveL nt k ad)[b']? = some b → b < m.length ∧ (m.drop nt ++ adB m ad)[b']? = m[b]? := by
    intro b b' hb
    unfold giveL at hb
    by_cases hk : b' < k
    · rw [List.getElem?_append_left (by simpa using hk)] at hb
      simp [hk] at hb
      subst hb
      refine ⟨by omega, ?_⟩
      rw [List.getElem?_append_left (by simp; omega), List.getElem?_drop, Nat.add_comm]
    · rw [List.getElem?_append_right (by simp; omega)] at hb
      cases hd : ad with
      | none => rw [hd] at hb; simp at hb
      | some a =>
        rw [hd] at hb
        have ha := had a hd
        have h0 : b' - k = 0 := by
          rcases Nat.eq_zero_or_pos (b' - k) with e | e
          · exact e
          · simp only [List.length_map, List.length_range, Option.toList] at hb
            rw [List.getElem?_eq_none (by simp; omega)] at hb
            cases hb
        simp [h0] at hb
        subst hb
        refine ⟨by omega, ?_⟩
        have e : b' = (m.drop nt).length := by rw [List.length_drop]; omega
        show (m.drop nt ++ [m.getD a Blk.none])[b']? = m[a]?
        rw [e, List.getElem?_append_right (Nat.le_refl _)]
        simp [List.getD_eq_getElem?_getD, List.getElem?_eq_getElem (show a < m.length by omega)]
  obtain ⟨g', hg'⟩ : ∃ g' : G, g' = { g with ρ := fun i => g.ρ ((giveL nt k ad).getD i 0), κ := fun i => g.κ ((giveL nt k ad).getD i 0), σ := fun i => g.σ ((giveL nt k ad).getD i 0), φ := fun _ => none } := ⟨_, rfl⟩
  have at' : ∀ b b' : Nat, (giveL nt k ad)[b']? = some b → g'.ρ b' = g.ρ b ∧ g'.κ b' = g.κ b ∧ g'.σ b' = g.σ b := by
    intro b b' hb
    rw [hg']
    simp [List.getD_eq_getElem?_getD, hb]
  have hren : RenOK (backOf nt k ad) g m g' ms' := by
    refine RenOK.of fun b b' x hb hx _ => ?_
    have hg := giveL_get had hb
    obtain ⟨h1, h2⟩ := src b b' hg
    rw [hx] at h2
    obtain ⟨y, hy, hr⟩ := r2 b' x h2
    exact ⟨y, hr, hy, at' b b' hg⟩
  have inv : ∀ (b' : Nat) (x' : Blk), ms'[b']? = some x' → ∃ b x, (giveL nt k ad)[b']? = some b ∧ m[b]? = some x ∧ renB (backOf nt k ad) x = some x' := by
    intro b' x' hx'
    have hlt := (List.getElem?_eq_some_iff.1 hx').1
    have hlt2 : b' < (giveL nt k ad).length := by omega
    obtain ⟨h1, h2⟩ := src _ b' (List.getElem?_eq_getElem hlt2)
    rw [List.getElem?_eq_getElem h1] at h2
    obtain ⟨y, hy, hr⟩ := r2 b' _ h2
    rw [hx'] at hy
    simp at hy; subst hy
    exact ⟨_, _, List.getElem?_eq_getElem hlt2, List.getElem?_eq_getElem h1, hr⟩
  refine ⟨g', ?_, hren, by rw [hg']; exact hlg, fun i hi => ?_, fun i x hi hx => ?_⟩
  · refine h.rename hren (X1 := X) (J1 := J) (by rw [hg']; exact h.inv.1) hab h.b0 (fun q => by rw [hg']) (fun b b' _ hl => own_not h hl) (fun a b c ha hb => ?_) (fun b' x' hx' ho => ?_) (fun b' sh kk n cs hx' => ?_)
    · have e1 := giveL_get had ha
      have e2 := giveL_get had hb
      rw [e1] at e2
      simpa using e2
    · obtain ⟨b, x, i1, i2, i3⟩ := inv b' x' hx'
      exact ⟨b, x, backOf_give had i1, i2, i3, at' b b' i1⟩
    · obtain ⟨b, x, i1, i2, i3⟩ := inv b' _ hx'
      exact renB_log i3
  · refine at' _ _ ?_
    unfold giveL
    rw [List.getElem?_append_left (by simpa using hi)]
    simp [hi]
  · have e : (giveL nt k ad)[i]? = some (i + nt) := by
      unfold giveL
      rw [List.getElem?_append_left (by simpa using hi)]
      simp [hi]
    obtain ⟨h1, h2⟩ := src _ i e
    rw [hx] at h2
    obtain ⟨y, hy, hr⟩ := r2 i x h2
    exact ⟨y, hr, hy⟩
theorem lend_call (hm : P.follows .mixedOrders = true) (hcall : CallOK P call) {f : Nat} {fn : Func} {fr : List Nat} {c : Code} {ac : ACode} {ks ks' : List (List Nat × List Nat)} {n : Nat} {af : AFn} {as : List AV} {ms : List Blk} {v : AV} {ms' : List Blk} (hf : P.funcs[f]? = some fn) (hb : fn.body = some c)
    (hx : codeC P (fn.ntmps, [], fn.ntmps) fr c ks = some (ac, ks')) (hrs : resC P fn.ntmps fn.results.toList = some af.res) (hnt : af.nt = fn.ntmps) (hrf : hasRange c = false) (hbo : bsOK af.nt ac = true) (hle : as.length ≤ fn.ntmps) {s0 : S} (hs0 : startB af as ms = some s0) {e : Ext} {s : S}
    (he : exN call n ac s0 = some (e, s)) (hend : e = .normal ∨ e = .ret) (hr : resultB af.nt ms.length s af.res = some (v, ms')) {J : Nat → JT} {vals : List Value} (hmo : MemOK X J g St ms w) (hlg : g.lg = none) (hφ : ∀ q, g.φ q = none) (_hJ0 : ∀ i, J i = J 0) (hargs : VRs g ms St w as vals) : Calls P f vals.toArray w (LendPost J g ms v ms' St w) := by
  refine calls_of_marks hf hb ?_
  unfold startB at hs0
  split at hs0 <;> try (cases hs0; done)
  rename_i as' ms1 hras hrms
  simp only [Option.some.injEq] at hs0
  subst hs0
  obtain ⟨p1, p2⟩ := renBs_spec hrms
  obtain ⟨g0, hg0⟩ : ∃ g0 : G, g0 = { g with ρ := fun b => g.ρ (b - af.nt), κ := fun b => g.κ (b - af.nt), σ := fun b => g.σ (b - af.nt) } := ⟨_, rfl⟩
  have hg0' : ∀ b, g0.ρ (b + af.nt) = g.ρ b ∧ g0.κ (b + af.nt) = g.κ b ∧ g0.σ (b + af.nt) = g.σ b := fun b => by rw [hg0]; simp
  have get0 : ∀ b, (List.replicate af.nt Blk.none ++ ms1)[b + af.nt]? = ms1[b]? := fun b => by
    rw [List.getElem?_append_right (by simp)]; simp
  have hren : RenOK (fun b => some (b + af.nt)) g ms g0 (List.replicate af.nt Blk.none ++ ms1) := by
    refine RenOK.of fun b b' x hb hx _ => ?_
    simp at hb; subst hb
    obtain ⟨y, hy, hry⟩ := p2 b x hx
    exact ⟨y, hry, by rw [get0]; exact hy, hg0' b⟩
  have inv0 : ∀ (b' : Nat) (x' : Blk), (List.replicate af.nt Blk.none ++ ms1)[b']? = some x' → x' = .none ∨ ∃ b x, b' = b + af.nt ∧ ms[b]? = some x ∧ renB (fun b => some (b + af.nt)) x = some x' := by
    intro b' x' hx'
    by_cases hlt : b' < af.nt
    · rw [List.getElem?_append_left (by simpa using hlt)] at hx'
      simp [hlt] at hx'
      exact .inl hx'.symm
    · right
      have e : b' = (b' - af.nt) + af.nt := by omega
      rw [e, get0] at hx'
      have hl := (List.getElem?_eq_some_iff.1 hx').1
      have hl2 : b' - af.nt < ms.length := by omega
      obtain ⟨y, hy, hry⟩ := p2 _ _ (List.getElem?_eq_getElem hl2)
      rw [hx'] at hy
      simp at hy; subst hy
      exact ⟨_, _, e, List.getElem?_eq_getElem hl2, hry⟩
  have hm0 : MemOK X (JE J St w) g0 St (List.replicate af.nt Blk.none ++ ms1) w := by
    refine hmo.rename hren (X1 := X) (by rw [hg0]; exact ⟨hmo.inv, Evo.refl _ _⟩) (JE.abides hmo.ab _ _) hmo.b0 (fun q => by rw [hg0]; exact hφ q) (fun b b' _ hl => own_not hmo hl) (fun a b c ha hb => by simp at ha hb; omega) (fun b' x' hx' ho => ?_) (fun b' sh kk n cs hx' => ?_)
    · rcases inv0 b' x' hx' with rfl | ⟨b, x, i1, i2, i3⟩
      · cases ho
      · subst i1
        exact ⟨b, x, rfl, i2, i3, hg0' b⟩
    · rcases inv0 b' _ hx' with e | ⟨b, x, i1, i2, i3⟩
      · cases e
      · exact renB_log i3
  obtain ⟨cx, hcx⟩ : ∃ cx : Cx, cx = { J := JE J St w, lg := none, ly := g.ly, nT := 0, csT := [], N := fn.ntmps, kp := [], u := #[], B := fn.ntmps, xt := [], r := none, φ := fun _ => none, ld := some (g0, List.replicate af.nt Blk.none ++ ms1) } := ⟨_, rfl⟩
  have hl := hargs.length
  have hva := VRs.ren hren as as' vals hras hargs
  have hla := hva.length
  have h0 : FR cx ⟨as' ++ List.replicate (af.nt - as.length) .undef, List.replicate af.nt .none ++ ms1⟩ { tmps := vals.toArray ++ Array.replicate (fn.ntmps - vals.toArray.size) undef, defers := [] } w := by
    subst hcx
    refine ⟨X, g0, St, [], as' ++ List.replicate (fn.ntmps - as.length) .undef, [], rfl, List.nodup_nil, fun D hD => by simp at hD, ?_, ?_, fun i hi => by simp at hi, fun p hp => by simp at hp, by rw [hg0]; exact hlg, by rw [hg0], fun q o hq => by simp at hq, hm0, ?_, fun q hq b _ => ?_⟩
    · rw [List.append_nil, hnt]
    · simp; omega
    · simp only [Array.toList_append, Array.toList_replicate, List.size_toArray, hl]
      exact hva.append undef_rows
    · simp at hq; subst hq
      exact KeepB.refl _ _ _
  have hok : cx.OK P := by
    subst hcx
    exact ⟨Nat.le_refl _, fun p hp => by simp at hp, fun l hl => by simp at hl, fun sh k hk => by simp at hk⟩
  have code := code_sound fr hm hcall n cx c ac ks ks' _ e s _ w hok (fun h => by rw [hrf] at h; cases h) (fun _ => by rw [hcx]; show bsOK fn.ntmps ac = true; rw [← hnt]; exact hbo) (by rw [hcx]; exact hx) he (fun sh k hk => by rw [hcx] at hk; cases hk) h0
  have post : ∀ a' w', FR cx s a' w' → LeavesInM Fence.wide 0 P fn a'.tmps (LendPost J g ms v ms' St w) a'.defers .returning w' := by
    rintro a' w' ⟨X', g', St', Ds, t1, t2, k⟩
    rw [k.df]
    have hlg' : g'.lg = none := k.lg.trans (by rw [hcx])
    have hkx := k.kx (g0, List.replicate af.nt Blk.none ++ ms1) (by rw [hcx])
    refine marks_leave Ds g' w' k.nd k.fx k.mo k.vr fun g2 w2 q1 q2 q3 q4 q5 => ?_
    have hs : s = ⟨t1 ++ t2, s.m⟩ := by rw [← k.tt]
    have hJ : cx.J = JE J St w := by rw [hcx]
    rw [hJ] at q1
    have hev : Evo St w St' w2 := q1.inv.2
    have hN : t1.length = fn.ntmps := by rw [k.len, hcx]
    have keep : ∀ (g3 : G) (ad : Option Nat) (ns : List Blk), (∀ i, i < ms.length → g3.ρ i = g2.ρ (i + af.nt) ∧ g3.κ i = g2.κ (i + af.nt) ∧ g3.σ i = g2.σ (i + af.nt)) →
        (∀ i x, i < ms.length → s.m[i + af.nt]? = some x → ∃ x', renB (backOf af.nt ms.length ad) x = some x' ∧ ns[i]? = some x') → ∀ i, KeepB g ms g3 ns i := by
      intro g3 ad ns h1 h2 i
      have hk := hkx (i + af.nt) (by rw [hcx]; show fn.ntmps ≤ _; omega)
      have e0 := hg0' i
      refine ⟨fun wr cs hi => ?_, fun nn hi => ?_, fun wr nn sz cs hi => ?_⟩
      · have hlt := (List.getElem?_eq_some_iff.1 hi).1
        obtain ⟨y, hy, hry⟩ := p2 i _ hi
        simp only [renB] at hry
        split at hry <;> try (cases hry; done)
        simp at hry; subst hry
        obtain ⟨⟨wr', cs', k1⟩, k2⟩ := hk.cells wr _ (by rw [get0]; exact hy)
        obtain ⟨z, z1, z2⟩ := h2 i _ hlt k1
        simp only [renB] at z1
        split at z1 <;> try (cases z1; done)
        simp at z1; subst z1
        exact ⟨⟨_, _, z2⟩, by rw [(h1 i hlt).1, q5.1, k2, e0.1]⟩
      · have hlt := (List.getElem?_eq_some_iff.1 hi).1
        obtain ⟨y, hy, hry⟩ := p2 i _ hi
        simp [renB] at hry; subst hry
        obtain ⟨n', k1, k2, k3⟩ := hk.buf nn (by rw [get0]; exact hy)
        obtain ⟨z, z1, z2⟩ := h2 i _ hlt k1
        simp [renB] at z1; subst z1
        refine ⟨n', z2, k2, fun e => ?_⟩
        obtain ⟨m1, m2, m3⟩ := k3 e
        exact ⟨by rw [(h1 i hlt).1, q5.1, m1, e0.1], by rw [(h1 i hlt).2.1, q5.2.1, m2, e0.2.1], by rw [(h1 i hlt).2.2, q5.2.2, m3, e0.2.2]⟩
      · have hlt := (List.getElem?_eq_some_iff.1 hi).1
        obtain ⟨y, hy, hry⟩ := p2 i _ hi
        simp [renB] at hry; subst hry
        obtain ⟨wr', n', s', cs', k1, k2, k3⟩ := hk.vec wr nn sz cs (by rw [get0]; exact hy)
        obtain ⟨z, z1, z2⟩ := h2 i _ hlt k1
        simp [renB] at z1; subst z1
        refine ⟨wr', n', s', cs', z2, k2, fun e => ?_⟩
        obtain ⟨m1, m2, m3⟩ := k3 e
        exact ⟨by rw [(h1 i hlt).1, q5.1, m1, e0.1], by rw [(h1 i hlt).2.1, q5.2.1, m2, e0.2.1], by rw [(h1 i hlt).2.2, q5.2.2, m3, e0.2.2]⟩
    unfold resultB at hr
    split at hr <;> try (cases hr; done)
    rename_i hlen
    split at hr
    · rename_i r hres
      split at hr <;> try (cases hr; done)
      rename_i vv hvv
      split at hr <;> try (cases hr; done)
      rename_i ms2 v2 hms2 hv2
      simp only [Option.some.injEq, Prod.mk.injEq] at hr
      obtain ⟨rfl, rfl⟩ := hr
      have had : ∀ a, adoptOf af.nt s.m vv = some a → a < af.nt := fun a ha => by
        have := List.find?_some ha
        simpa using this
      obtain ⟨g3, n1, n2, n3, n4, n5⟩ := gaveB_sound q1 hmo.ab (q3.trans hlg') had hlen hms2
      rw [hres] at hrs
      cases hrs' : fn.results.toList with
      | nil => rw [hrs'] at hrs; simp [resC] at hrs
      | cons r0 rs =>
        rw [hrs'] at hrs
        obtain ⟨x, ys, he', hys, hx'⟩ := slot_sound (t2 := t2) q1 hN q2 hrs
        simp at he'
        obtain ⟨rfl, rfl⟩ := he'
        have hnil : rs = [] := by
          cases rs with
          | nil => rfl
          | cons r1 rs =>
            obtain ⟨_, _, he', _⟩ := slot_sound (t2 := t2) q1 hN q2 hys
            cases he'
        subst hnil
        obtain ⟨u, hu1, hu2⟩ := hx' vv (by rw [← hs]; exact hvv)
        refine ⟨u, ?_, u, X', g3, St', rfl, n1, hev, VR.ren n2 _ _ _ hv2 hu2, keep g3 _ _ n4 n5⟩
        exact run_results (P := P) (w := w2) (fn := fn) (tmps := a'.tmps) (us := [u]) (by rw [hrs']; rfl) (by
          rw [hrs']
          intro i r u' hi hu'
          cases i with
          | zero => simp at hi hu'; subst hi; subst hu'; exact hu1
          | succ i => simp at hi)
    · rename_i hne
      split at hr <;> try (cases hr; done)
      rename_i ps ms2 hps hms2
      simp only [Option.some.injEq, Prod.mk.injEq] at hr
      obtain ⟨rfl, rfl⟩ := hr
      cases hraw : resRaw s af.res with
      | none => rw [hraw] at hps; cases hps
      | some vs =>
        rw [hraw] at hps
        simp only [Option.bind_some] at hps
        obtain ⟨g3, n1, n2, n3, n4, n5⟩ := gaveB_sound (ad := none) q1 hmo.ab (q3.trans hlg') (fun a ha => by cases ha) hlen (by simpa [adB] using hms2)
        obtain ⟨us, k1, k2, k3⟩ := raws_sound (t2 := t2) q1 hN q2 hrs (by rw [← hs]; exact hraw)
        have k4 := ps?_sound hps k3
        have hlr : af.res.length ≠ 1 := fun e => by
          match hq : af.res, e with
          | [r], _ => exact hne r hq
        refine ⟨_, run_results k1 k2, _, X', g3, St', rfl, n1, hev, ?_, keep g3 _ _ n4 n5⟩
        have hl2 := resC_len hrs
        match us, k1, k4 with
        | [], _, k4 => simp only [VR, PR]; exact ⟨[], rfl, k4⟩
        | [u], k1, _ => rw [← hl2] at k1; exact absurd k1.symm hlr
        | u :: v :: r, _, k4 => simp only [VR, PR]; exact ⟨_, rfl, k4⟩
  have hr0 : cx.r = none := by rw [hcx]
  rw [hr0] at code
  refine wpIn_mono code fun ex a' w' hq => ?_
  cases ex with
  | normal => exact post a' w' hq.2
  | ret => exact post a' w' hq.2
  | exit i =>
    have h1 := hq.1
    rcases hend with rfl | rfl <;> cases h1
  | goto _ => exact hq.elim
  | panic _ => exact hq.elim
  | outgrown => exact hq.elim
theorem iter_call (hm : P.follows .mixedOrders = true) (hcall : CallOK P call) {f : Nat} {fn : Func} {fr : List Nat} {c : Code} {ac : ACode} {ks ks' : List (List Nat × List Nat)} {n : Nat} {af : AFn} {sh : List (Option Nat)} {k : Nat} {caps : List PV} {nT : Nat} {csT : List PV} (hf : P.funcs[f]? = some fn) (hb : fn.body = some c)
    (hx : codeC P (fn.ntmps, [], fn.ntmps) fr c ks = some (ac, ks')) (hrs : fn.results.toList = []) (hnt : af.nt = fn.ntmps) (hrf : hasRange c = false) (hle : caps.length + 1 ≤ fn.ntmps) {e : Ext} {s : S}
    (he : exN call n ac (start af (.it sh (k + 1) :: caps)) = some (e, s)) (hend : e = .normal ∨ e = .ret) (hres : af.res = []) (hr : result s af.res = some (.val (.list nT csT))) : IterC P f sh k caps nT csT := by
  intro l J X St w vals hab hX hlt hargs hyok hJ0
  have hl := hargs.length
  refine calls_of_marks hf hb ?_
  obtain ⟨cx, hcx⟩ : ∃ cx : Cx, cx = { J := J, lg := some (sh, k), ly := l, nT := nT, csT := csT, N := fn.ntmps, kp := [], u := #[], B := fn.ntmps, xt := [], r := none, φ := fun _ => none } := ⟨_, rfl⟩
  have hlog : ∃ sh' k', s.m[0]? = some (.log sh' k' nT csT) := by
    rw [hres] at hr
    unfold result at hr
    split at hr
    · rename_i sh' k' n' cs' hlog
      simp at hr
      obtain ⟨rfl, rfl⟩ := hr
      exact ⟨_, _, hlog⟩
    · simp [resAll] at hr
  have h0 : FR cx (start af (.it sh (k + 1) :: caps)) { tmps := (Value.func (.yield l) #[] #[] :: vals).toArray ++ Array.replicate (fn.ntmps - (Value.func (.yield l) #[] #[] :: vals).toArray.size) undef, defers := [] } w := by
    subst hcx
    have hms : (List.replicate (af.nt - 1) Blk.none) = List.replicate (fn.ntmps - 1) .none := by rw [hnt]
    refine ⟨X, ⟨fun _ => 0, fun _ => 0, fun _ => 0, 0, l, some (sh, k), fun _ => none⟩, St, [], .yv :: (caps.map .p ++ List.replicate (fn.ntmps - (caps.length + 1)) .undef), [], rfl, List.nodup_nil, fun D hD => by simp at hD, ?_, ?_, fun i hi => by simp at hi, fun p hp => by simp at hp, rfl, rfl, fun q o hq => by simp at hq, ?_, ?_, fun q hq => by cases hq⟩
    · simp only [start, List.append_nil, hnt]
    · simp; omega
    · simp only [start]
      refine ⟨hJ0, hab, fun q hq => (hX q).1 hq, hlt, fun q o hq => by simp at hq, fun b x hx => ?_, fun b b' hb => ?_⟩
      · cases b with
        | zero =>
          simp at hx
          subst hx
          exact ⟨rfl, rfl, rfl, by simp⟩
        | succ b =>
          simp only [List.getElem?_cons_succ, List.getElem?_replicate] at hx
          split at hx
          · simp at hx; subst hx; trivial
          · cases hx
      · exfalso
        obtain ⟨x, hb, ho⟩ := hb
        cases b <;> simp only [List.getElem?_cons_zero, List.getElem?_cons_succ, List.getElem?_replicate] at hb
        · simp at hb
          subst hb
          cases ho
        · split at hb <;> simp at hb
          subst hb
          cases ho
    · simp only [Array.toList_append, Array.toList_replicate, List.size_toArray, List.length_cons, hl, List.cons_append, VRs]
      refine ⟨_, _, rfl, by simp [VR], (VRs.of_p hargs).append ?_⟩
      exact undef_rows
  have hok : cx.OK P := by
    subst hcx
    exact ⟨Nat.le_refl _, fun p hp => by simp at hp, fun l hl => by simp at hl, fun sh' k' hk => by
      simp only [Option.some.injEq, Prod.mk.injEq] at hk
      obtain ⟨rfl, rfl⟩ := hk
      exact hyok⟩
  have hend' : ∀ a' w', FR cx s a' w' → ∃ X' g' St' Ds t1 t2, FRx cx s a' w' X' g' St' Ds t1 t2 ∧ g'.ι = nT := by
    rintro a' w' ⟨X', g', St', Ds, t1, t2, q⟩
    obtain ⟨sh', k', hl'⟩ := hlog
    exact ⟨X', g', St', Ds, t1, t2, q, (q.mo.mem 0 _ hl').2.2.1.symm⟩
  have hwill : Will cx s.m := fun sh' k' hk => by
    obtain ⟨sh2, k2, hl2⟩ := hlog
    obtain ⟨n0, cs0, h1, _, _⟩ := exN_log he sh2 k2 nT csT hl2
    simp only [start, List.getElem?_cons_zero, Option.some.injEq, Blk.log.injEq] at h1
    obtain ⟨rfl, rfl, _, _⟩ := h1
    rw [hcx] at hk
    simp only [Option.some.injEq, Prod.mk.injEq] at hk
    obtain ⟨rfl, rfl⟩ := hk
    rw [hcx]
    exact ⟨nT, csT, hl2, Nat.le_refl _, List.prefix_refl _⟩
  have code := code_sound fr hm hcall n cx c ac ks ks' _ e s _ w hok (fun h => by rw [hrf] at h; cases h) (fun hl => absurd (by rw [hcx]) hl) (by rw [hcx]; exact hx) he hwill h0
  have post : ∀ a' w', FR cx s a' w' → LeavesInM Fence.wide 0 P fn a'.tmps (fun e w' => ∃ v X' St', e = .returned v ∧ J nT X' St' w' ∧ ∀ q, X' q → q < w'.heap.size) a'.defers .returning w' := by
    intro a' w' hfr
    obtain ⟨X', g', St', Ds, t1, t2, q, hι⟩ := hend' a' w' hfr
    rw [q.df]
    refine marks_leave Ds g' w' q.nd q.fx q.mo q.vr fun g2 w2 q1 q2 _ q4 _ => ?_
    have hJ : cx.J = J := by rw [hcx]
    rw [hJ] at q1
    have hinv := q1.inv
    rw [q4, hι] at hinv
    exact ⟨_, run_results (us := []) (by rw [hrs]; rfl) (by rw [hrs]; intro i r u hi; simp at hi), _, X', St', rfl, hinv, q1.b0⟩
  have hr0 : cx.r = none := by rw [hcx]
  rw [hr0] at code
  refine wpIn_mono code fun ex a' w' hq => ?_
  cases ex with
  | normal => exact post a' w' hq.2
  | ret => exact post a' w' hq.2
  | exit i =>
    have h1 := hq.1
    rcases hend with rfl | rfl <;> cases h1
  | goto _ => exact hq.elim
  | panic _ => exact hq.elim
  | outgrown => exact hq.elim
theorem run_inv {env : Nat → Option AFn} {n f : Nat} {args : List PV} {rv : RV} (hit : ∀ sh caps, args ≠ .it sh 0 :: caps) (h : callN env (n + 1) f args = some rv) :
    ∃ af e s, env f = some af ∧ args.length = af.np ∧ yOK af args = true ∧ exN (callN env n) n af.body (start af args) = some (e, s) ∧ (e = .normal ∨ e = .ret) ∧ result s af.res = some rv := by
  rw [callN_fn env n f args hit] at h
  split at h <;> try (cases h; done)
  rename_i af haf
  split at h <;> try (cases h; done)
  rename_i hc
  cases hx : exN (callN env n) n af.body (start af args) with
  | none => rw [hx] at h; cases h
  | some p =>
    obtain ⟨e, s⟩ := p
    rw [hx] at h
    cases e with
    | normal => exact ⟨af, .normal, s, haf, hc.1, hc.2, hx, .inl rfl, h⟩
    | ret => exact ⟨af, .ret, s, haf, hc.1, hc.2, hx, .inr rfl, h⟩
    | exit i => cases h
theorem lend_inv {env : Nat → Option AFn} {n f : Nat} {as : List AV} {ms : List Blk} {v : AV} {ms' : List Blk} (h : (callN env (n + 1)).ln f as ms = some (v, ms')) :
    ∃ af s0 e s, env f = some af ∧ as.length = af.np ∧ af.rf = false ∧ bsOK af.nt af.body = true ∧ startB af as ms = some s0 ∧ exN (callN env n) n af.body s0 = some (e, s) ∧ (e = .normal ∨ e = .ret) ∧ resultB af.nt ms.length s af.res = some (v, ms') := by
  simp only [callN] at h
  split at h <;> try (cases h; done)
  rename_i af haf
  split at h <;> try (cases h; done)
  rename_i hc
  split at h <;> try (cases h; done)
  rename_i s0 hs0
  split at h
  · rename_i s hs
    exact ⟨af, s0, .normal, s, haf, hc.1, hc.2.1, hc.2.2, hs0, hs, .inl rfl, h⟩
  · rename_i s hs
    exact ⟨af, s0, .ret, s, haf, hc.1, hc.2.1, hc.2.2, hs0, hs, .inr rfl, h⟩
  · cases h
theorem calls_sound2 (hm : P.follows .mixedOrders = true) {env : Nat → Option AFn} (hE : EnvOK P env) : ∀ n, CallOK P (callN env n) ∧
    ∀ f sh k caps nT csT, callN env n f (.it sh (k + 1) :: caps) = some (.val (.list nT csT)) → IterC P f sh k caps nT csT
  | 0 => ⟨⟨fun f as ms v ms' h => (by cases h), fun f args rv h => (by cases h), fun f sh caps rv h => (by cases h)⟩, fun f sh k caps nT csT h => (by cases h)⟩
  | n + 1 => by
    obtain ⟨ih1, ih2⟩ := calls_sound2 hm hE n
    refine ⟨⟨fun f as ms v ms' h => ?_, fun f args rv h => ?_, fun f sh caps rv h => ?_⟩, fun f sh k caps nT csT h => ?_⟩
    · obtain ⟨af, s0, e, s, haf, hl, hrf0, hbo, hs0, hex, hend, hr⟩ := lend_inv h
      rcases hE f af haf with ⟨fn, fr, ks, hf, hc⟩ | ⟨np, g, rfl, hp⟩ | ⟨sz, rfl, hp⟩ | ⟨np, tsh, g, rfl, hp⟩
      rotate_left
      · simp [primA] at hrf0
      · simp [growA] at hrf0
      · exact (told_lend (start_nolog hs0) hex).elim
      obtain ⟨c, x, ks', hb, hx, hrs, hbody, hnp, hnt, hrf, hname, hle⟩ := fnC_spec hc
      have hrf' : hasRange c = false := by rw [← hrf]; exact hrf0
      rw [hbody] at hex hbo
      exact ⟨⟨fn, hf, by rw [hb]; rfl, hname⟩, fun X J g St w vals hmo hJ0 hlg hφ hargs => lend_call hm ih1 hf hb hx hrs (by rw [hnt, hrf']; simp) hrf' hbo (by omega) hs0 hex hend hr hmo hlg hφ hJ0 hargs⟩
    · by_cases hit : ∃ sh caps, args = .it sh 0 :: caps
      · obtain ⟨sh, caps, rfl⟩ := hit
        rw [callN_it] at h
        obtain ⟨N, cs, rfl, _, _, h3⟩ := full_iff.1 h
        exact ⟨(ih1.fn f _ _ (h3 0 (Nat.zero_le _))).1, fun w St vals _ hargs => by simp [PRs, PR] at hargs⟩
      · have hit' : ∀ sh caps, args ≠ .it sh 0 :: caps := fun sh caps e => hit ⟨sh, caps, e⟩
        obtain ⟨af, e, s, haf, hl, hy, hex, hend, hr⟩ := run_inv hit' h
        rcases hE f af haf with ⟨fn, fr, ks, hf, hc⟩ | ⟨np, g, rfl, hp⟩ | ⟨sz, rfl, hp⟩ | ⟨np, tsh, g, rfl, hp⟩
        rotate_left
        · refine ⟨hp.ent, fun w St vals hlt hargs => ?_⟩
          obtain ⟨v, hv, rfl⟩ := prim_run hl (fun sh k r e => by rw [e] at hargs; simp [PRs, PR] at hargs) hex hr
          exact hp.ok args v hv w St vals hlt hargs
        · refine ⟨hp.ent, fun w St vals hlt hargs => ?_⟩
          obtain ⟨k, rfl, hv⟩ := grow_run hl (fun sh k r e => by rw [e] at hargs; simp [PRs, PR] at hargs) hex hr
          simp only [PRs, PR] at hargs
          obtain ⟨_, _, rfl, rfl, _, _, rfl, rfl, rfl⟩ := hargs
          rcases hv with ⟨rfl, rfl⟩ | ⟨h1, h2, rfl⟩
          · exact hp.zero w St hlt
          · exact hp.more k h1 h2 w St hlt
        · by_cases hi : ∃ sh k r, args = .it sh k :: r
          · obtain ⟨sh, k, r, rfl⟩ := hi
            exact ⟨hp.ent, fun w St vals hlt hargs => by simp [PRs, PR] at hargs⟩
          · exact (told_it hl (fun sh k r e => hi ⟨sh, k, r, e⟩) hex).elim
        obtain ⟨c, x, ks', hb, hx, hrs, hbody, hnp, hnt, hrf, hname, hle⟩ := fnC_spec hc
        refine ⟨⟨fn, hf, by rw [hb]; rfl, hname⟩, fun w St vals hlt hargs => ?_⟩
        by_cases hi : ∃ sh k r, args = .it sh k :: r
        · obtain ⟨sh, k, r, rfl⟩ := hi
          simp [PRs, PR] at hargs
        · rw [hbody] at hex
          exact plain_call hm ih1 hf hb hx hrs hnt (by omega) (fun sh k r e => hi ⟨sh, k, r, e⟩) hex hend hr hlt hargs
    · rw [callN_it] at h
      obtain ⟨N, cs, rfl, h1, h2, h3⟩ := full_iff.1 h
      exact ⟨N, cs, rfl, h1, h2, (ih1.fn f _ _ (h3 0 (Nat.zero_le _))).1, fun k hk => ih2 f sh k caps _ _ (h3 k hk)⟩
    · obtain ⟨af, e, s, haf, hl, hy, hex, hend, hr⟩ := run_inv (fun sh caps e => by cases e) h
      rcases hE f af haf with ⟨fn, fr, ks, hf, hc⟩ | ⟨np, g, rfl, hp⟩ | ⟨sz, rfl, hp⟩ | ⟨np, tsh, g, rfl, hp⟩
      rotate_left
      · simp [yOK, primA] at hy
      · simp [yOK, growA] at hy
      · obtain ⟨N, cs, h1, rfl, h2, h3, h4⟩ := told_run hl hex hr
        simp only [RV.val.injEq, PV.list.injEq] at h4
        obtain ⟨rfl, rfl⟩ := h4
        exact hp.ok caps N cs h1 h2 h3 k
      obtain ⟨c, x, ks', hb, hx, hrs, hbody, hnp, hnt, hrf, hname, hle⟩ := fnC_spec hc
      simp only [yOK, Bool.and_eq_true, Bool.not_eq_true'] at hy
      have hrf' : hasRange c = false := by rw [← hrf]; exact hy.1.1
      have hres : af.res = [] := List.isEmpty_iff.1 hy.2
      rw [hbody] at hex
      refine iter_call hm ih1 hf hb hx ?_ (by rw [hnt, hrf']; simp) hrf' (by simp at hl; omega) hex hend hres hr
      rw [hres] at hrs
      cases hfr : fn.results.toList with
      | nil => rfl
      | cons r0 rs0 =>
        rw [hfr] at hrs
        cases r0 <;> simp only [resC] at hrs <;> split at hrs <;> (try (cases hrs; done)) <;> split at hrs <;> cases hrs
theorem calls_sound (hm : P.follows .mixedOrders = true) {env : Nat → Option AFn} (hE : EnvOK P env) (n : Nat) : CallOK P (callN env n) := (calls_sound2 hm hE n).1
end Gv
