/- Calls that are lent blocks. -/
import Derived.Test.YtfhgjanheaocaaaGvM
namespace Gv
open Go Go.RowKit
variable {P : Program} {X : Nat → Prop} {J : Nat → JT} {g : G} {St : Nat → Nat → Prop} {m : List Blk} {w : World} {call : CallT} {r : Option Nat}
def RestJ (J : Nat → JT) (g : G) (m : List Blk) (bs : List Nat) : JT := fun X' St w => ∃ Xc : Nat → Prop, J g.ι Xc St w ∧ (∀ q, Xc q → X' q) ∧ (∀ b, b ∉ bs → live m b → X' (g.ρ b)) ∧ (∀ q o, g.φ q = some o → X' q) ∧
  (∀ q o, g.φ q = some o → w.heap[q]? = some o ∧ ¬ Xc q ∧ ∀ j, ¬ St q j) ∧ ∀ b x, b ∉ bs → m[b]? = some x → BR Xc g m St w b x
theorem RestJ.abides (ab : ∀ i, Abides (J i)) (bs : List Nat) : Abides (RestJ J g m bs) := by
  rintro X St St' w w' row ⟨Xc, c1, c2, c3, c4, c5, c6⟩ hg hr ev hl hn
  refine ⟨Xc, ab _ Xc St St' w w' row c1 hg (fun q hq hx => hr q hq (c2 q hx)) ev hl (fun b o hs => (hn b o hs).imp id fun hx hc => hx (c2 b hc)), c2, c3, c4, fun q o hq => ?_, fun b x hb hx => ?_⟩
  · obtain ⟨f1, f2, f3⟩ := c5 q o hq
    refine ⟨(hg.block q (heap_lt f1) (fun e => hr q (by simpa using e.symm) (c4 q o hq))).trans f1, f2, fun j hj => ?_⟩
    rcases hn q j hj with k | k
    · exact f3 j k
    · exact k (c4 q o hq)
  · have hbr := c6 b x hb hx
    cases x with
    | none => trivial
    | log sh k n cs => exact hbr
    | cells wr cs =>
      obtain ⟨h1, cur, el, h2, h3, h4, hone⟩ := hbr
      have hX := c3 b hb ⟨_, hx, rfl⟩
      refine ⟨h1, cur, el, (hg.block _ (heap_lt h2) (fun e => hr _ (by simpa using e.symm) hX)).trans h2, VRs.mono ev (MExt.refl g m) _ _ h3, fun hw j hj => ?_, hone⟩
      rcases hn _ _ hj with k | k
      · exact h4 hw j k
      · exact k hX
    | buf n =>
      obtain ⟨h1, cur, el, h2, h3, h4, h5, h6⟩ := hbr
      have hX := c3 b hb ⟨_, hx, rfl⟩
      refine ⟨h1, cur, el, (hg.block _ (heap_lt h2) (fun e => hr _ (by simpa using e.symm) hX)).trans h2, h3, h4, h5, fun j hj hjs => ?_⟩
      rcases hn _ _ hjs with k | k
      · exact h6 j hj k
      · exact k hX
    | vec wr n sz cs =>
      obtain ⟨h1, cur, el, us, rest, h2, h3, h4, h5, h6, h7, h8, h9, h10, h11⟩ := hbr
      have hX := c3 b hb ⟨_, hx, rfl⟩
      refine ⟨h1, cur, el, us, rest, (hg.block _ (heap_lt h2) (fun e => hr _ (by simpa using e.symm) hX)).trans h2, h3, PRs.mono ev _ _ h4, h5, h6, h7, h8, h9, h10, fun hw j hj => ?_⟩
      rcases hn _ _ hj with k | k
      · exact h11 hw j k
      · exact k hX
theorem BR.less {X Xc : Nat → Prop} (hX : ∀ q, Xc q → X q) {b : Nat} {x : Blk} (h : BR X g m St w b x) : BR Xc g m St w b x := by
  cases x with
  | none => trivial
  | log sh k n cs => exact h
  | cells wr cs => exact ⟨fun hc => h.1 (hX _ hc), h.2⟩
  | buf n => exact ⟨fun hc => h.1 (hX _ hc), h.2⟩
  | vec wr n sz cs => exact ⟨fun hc => h.1 (hX _ hc), h.2⟩
def G.lend (g : G) (bs : List Nat) : G := { g with ρ := fun i => g.ρ (bs.getD i 0), κ := fun i => g.κ (bs.getD i 0), σ := fun i => g.σ (bs.getD i 0), lg := none, φ := fun _ => none }
def pick (L : List Nat) (f h : Nat → Nat) (b : Nat) : Nat := match placeOf L b with
  | some i => h i
  | none => f b
def G.back (g g' : G) (L : List Nat) : G := { g with ρ := pick L g.ρ g'.ρ, κ := pick L g.κ g'.κ, σ := pick L g.σ g'.σ }
theorem lend_ren {bs : List Nat} (hn : bs.Nodup) {ms0 ms : List Blk} (h0 : getAll m bs = some ms0) (h1 : renBs (placeOf bs) ms0 = some ms) :
    (∀ b i x, placeOf bs b = some i → m[b]? = some x → ∃ x', renB (placeOf bs) x = some x' ∧ ms[i]? = some x' ∧ (g.lend bs).ρ i = g.ρ b ∧ (g.lend bs).κ i = g.κ b ∧ (g.lend bs).σ i = g.σ b) ∧
    (∀ i x', ms[i]? = some x' → ∃ b x, placeOf bs b = some i ∧ bs[i]? = some b ∧ m[b]? = some x ∧ renB (placeOf bs) x = some x') := by
  obtain ⟨a1, a2⟩ := getAll_spec h0
  obtain ⟨b1, b2⟩ := renBs_spec h1
  refine ⟨fun b i x hp hx => ?_, fun i x' hx' => ?_⟩
  · have hb := placeOf_spec hp
    have hx0 := a2 i b hb
    rw [hx] at hx0
    obtain ⟨y, hy, hr⟩ := b2 i x hx0.symm
    have hd : bs.getD i 0 = b := by simp [List.getD_eq_getElem?_getD, hb]
    exact ⟨y, hr, hy, by simp [G.lend, hb], by simp [G.lend, hb], by simp [G.lend, hb]⟩
  · have hlt := (List.getElem?_eq_some_iff.1 hx').1
    have hlt0 : i < ms0.length := by omega
    have hlb : i < bs.length := by omega
    obtain ⟨y, hy, hr⟩ := b2 i _ (List.getElem?_eq_getElem hlt0)
    rw [hx'] at hy
    simp at hy; subst hy
    have hb : bs[i]? = some (bs[i]'hlb) := List.getElem?_eq_getElem _
    exact ⟨_, _, placeOf_get hn hb, hb, by rw [a2 i _ hb]; exact List.getElem?_eq_getElem hlt0, hr⟩
theorem funOf_sound {fv : AV} {f : Nat} {caps : List AV} {u : Value} (h : funOf fv = some (f, caps)) (hv : VR g m St w fv u) : ∃ uc : List Value, u = .func (.func f) #[] uc.toArray ∧ VRs g m St w caps uc := by
  unfold funOf at h
  split at h
  · simp at h
    obtain ⟨rfl, rfl⟩ := h
    simp only [VR, PR] at hv
    obtain ⟨us, rfl, hp⟩ := hv
    exact ⟨us, rfl, VRs.of_p hp⟩
  · simp at h
    obtain ⟨rfl, rfl⟩ := h
    simp only [VR] at hv
    exact hv
  · cases h
theorem back_sound (h : MemOK X J g St m w) {bs L : List Nat} (hL : L.Nodup) {ad : Option Nat} (hLb : L = bs ++ ad.toList) (hbs : bs.Nodup) (had : ∀ d, ad = some d → m[d]? = some .none)
    {ms0 ms : List Blk} (h0 : getAll m bs = some ms0) (h1 : renBs (placeOf bs) ms0 = some ms) {X' : Nat → Prop} {g' : G} {St' : Nat → Nat → Prop} {w' : World} {ms' ns : List Blk} (h2 : MemOK X' (fun _ => RestJ J g m bs) g' St' ms' w') (hk : ∀ i, KeepB (g.lend bs) ms g' ms' i)
    (hns : renBs (fun i => L[i]?) ms' = some ns) (hlen : ns.length = L.length) :
    ∃ Xc, MemOK Xc J (g.back g' L) St' (setAll m L ns) w' ∧ MExt g m (g.back g' L) (setAll m L ns) ∧ RenOK (fun i => L[i]?) g' ms' (g.back g' L) (setAll m L ns) := by
  obtain ⟨a1, a2⟩ := getAll_spec h0
  obtain ⟨n1, n2⟩ := renBs_spec hns
  obtain ⟨l1, l2⟩ := lend_ren (g := g) hbs h0 h1
  obtain ⟨Xc, c1, c2, c3, c4, c5, c6⟩ := h2.inv
  have ltm : ∀ b ∈ L, b < m.length := by
    intro b hb
    rw [hLb] at hb
    rcases List.mem_append.1 hb with hb | hb
    · obtain ⟨i, hi⟩ := List.getElem?_of_mem hb
      have := a2 i b hi
      have hlt := (List.getElem?_eq_some_iff.1 hi).1
      rw [List.getElem?_eq_getElem (show i < ms0.length by omega)] at this
      exact (List.getElem?_eq_some_iff.1 this).1
    · simp at hb
      exact (List.getElem?_eq_some_iff.1 (had b hb)).1
  have at' : ∀ i b, L[i]? = some b → ∃ x x', ms'[i]? = some x ∧ renB (fun i => L[i]?) x = some x' ∧ (setAll m L ns)[b]? = some x' ∧ (g.back g' L).ρ b = g'.ρ i ∧ (g.back g' L).κ b = g'.κ i ∧ (g.back g' L).σ b = g'.σ i := by
    intro i b hb
    have hlt := (List.getElem?_eq_some_iff.1 hb).1
    have hlt' : i < ms'.length := by omega
    obtain ⟨y, hy, hr⟩ := n2 i _ (List.getElem?_eq_getElem hlt')
    have hp := placeOf_get hL hb
    refine ⟨_, y, List.getElem?_eq_getElem hlt', hr, setAll_get hL hlen hb hy (ltm b (List.mem_of_getElem? hb)), ?_, ?_, ?_⟩ <;> simp [G.back, pick, hp]
  have other : ∀ b, b ∉ L → (setAll m L ns)[b]? = m[b]? ∧ (g.back g' L).ρ b = g.ρ b ∧ (g.back g' L).κ b = g.κ b ∧ (g.back g' L).σ b = g.σ b := by
    intro b hb
    have hp : placeOf L b = none := by
      cases hp : placeOf L b with
      | none => rfl
      | some i => exact absurd (List.mem_of_getElem? (placeOf_spec hp)) hb
    exact ⟨setAll_other L ns m b hb, by simp [G.back, pick, hp], by simp [G.back, pick, hp], by simp [G.back, pick, hp]⟩
  have ren : RenOK (fun i => L[i]?) g' ms' (g.back g' L) (setAll m L ns) := RenOK.of fun i b x hi hx ho => by
    obtain ⟨y, x', k1, k2, k3, k4⟩ := at' i b hi
    rw [hx] at k1
    simp at k1; subst k1
    exact ⟨x', k2, k3, k4⟩
  have inbs : ∀ b, b ∈ bs → ∃ i, bs[i]? = some b ∧ L[i]? = some b ∧ placeOf bs b = some i := fun b hb => by
    obtain ⟨i, hi⟩ := List.getElem?_of_mem hb
    exact ⟨i, hi, by rw [hLb, List.getElem?_append_left (List.getElem?_eq_some_iff.1 hi).1]; exact hi, placeOf_get hbs hi⟩
  have notbs : ∀ b, b ∉ bs → b ∈ L → m[b]? = some .none := fun b h1 h2 => by
    rw [hLb] at h2
    rcases List.mem_append.1 h2 with h2 | h2
    · exact absurd h2 h1
    · simp at h2
      exact had b h2
  have mx : MExt g m (g.back g' L) (setAll m L ns) := by
    refine ⟨⟨fun b wr cs hb => ?_, fun b n hb => ?_, fun b wr n s cs hb => ?_, rfl⟩, rfl, rfl⟩
    · by_cases hbs' : b ∈ bs
      · obtain ⟨i, hi, hLi, hp⟩ := inbs b hbs'
        obtain ⟨x', r1, r2, r3, _⟩ := l1 b i _ hp hb
        simp only [renB] at r1
        split at r1 <;> try (cases r1; done)
        simp at r1; subst r1
        obtain ⟨⟨wr', cs', k1⟩, k2⟩ := (hk i).cells _ _ r2
        obtain ⟨y, y', q1, q2, q3, q4, _⟩ := at' i b hLi
        rw [k1] at q1
        simp at q1; subst q1
        simp only [renB] at q2
        split at q2 <;> try (cases q2; done)
        simp at q2; subst q2
        exact ⟨⟨_, _, q3⟩, q4.trans (k2.trans r3)⟩
      · by_cases hbL : b ∈ L
        · rw [notbs b hbs' hbL] at hb; cases hb
        · obtain ⟨o1, o2, _⟩ := other b hbL
          exact ⟨⟨wr, cs, o1.trans hb⟩, o2⟩
    · by_cases hbs' : b ∈ bs
      · obtain ⟨i, hi, hLi, hp⟩ := inbs b hbs'
        obtain ⟨x', r1, r2, r3, r4, r5⟩ := l1 b i _ hp hb
        simp [renB] at r1; subst r1
        obtain ⟨n', k1, k2, k3⟩ := (hk i).buf _ r2
        obtain ⟨y, y', q1, q2, q3, q4, q5, q6⟩ := at' i b hLi
        rw [k1] at q1
        simp at q1; subst q1
        simp [renB] at q2; subst q2
        refine ⟨n', q3, k2, fun e => ?_⟩
        obtain ⟨e1, e2, e3⟩ := k3 e
        exact ⟨q4.trans (e1.trans r3), q5.trans (e2.trans r4), q6.trans (e3.trans r5)⟩
      · by_cases hbL : b ∈ L
        · rw [notbs b hbs' hbL] at hb; cases hb
        · obtain ⟨o1, o2, o3, o4⟩ := other b hbL
          exact ⟨n, o1.trans hb, Nat.le_refl _, fun _ => ⟨o2, o3, o4⟩⟩
    · by_cases hbs' : b ∈ bs
      · obtain ⟨i, hi, hLi, hp⟩ := inbs b hbs'
        obtain ⟨x', r1, r2, r3, r4, r5⟩ := l1 b i _ hp hb
        simp [renB] at r1; subst r1
        obtain ⟨wr', n', s', cs', k1, k2, k3⟩ := (hk i).vec _ _ _ _ r2
        obtain ⟨y, y', q1, q2, q3, q4, q5, q6⟩ := at' i b hLi
        rw [k1] at q1
        simp at q1; subst q1
        simp [renB] at q2; subst q2
        refine ⟨wr', n', s', cs', q3, k2, fun e => ?_⟩
        obtain ⟨e1, e2, e3⟩ := k3 e
        exact ⟨q4.trans (e1.trans r3), q5.trans (e2.trans r4), q6.trans (e3.trans r5)⟩
      · by_cases hbL : b ∈ L
        · rw [notbs b hbs' hbL] at hb; cases hb
        · obtain ⟨o1, o2, o3, o4⟩ := other b hbL
          exact ⟨wr, n, s, cs, o1.trans hb, Nat.le_refl _, fun _ => ⟨o2, o3, o4⟩⟩
  have lvL : ∀ b, live (setAll m L ns) b → (b ∈ L ∧ ∃ i, L[i]? = some b ∧ live ms' i ∧ (g.back g' L).ρ b = g'.ρ i) ∨ (b ∉ L ∧ live m b ∧ (g.back g' L).ρ b = g.ρ b) := by
    rintro b ⟨x, hx, ho⟩
    by_cases hb : b ∈ L
    · obtain ⟨i, hi⟩ := List.getElem?_of_mem hb
      obtain ⟨y, y', q1, q2, q3, q4, _⟩ := at' i b hi
      rw [q3] at hx
      simp at hx; subst hx
      exact .inl ⟨hb, i, hi, ⟨y, q1, by rw [← renB_own q2]; exact ho⟩, q4⟩
    · obtain ⟨o1, o2, _⟩ := other b hb
      exact .inr ⟨hb, ⟨x, o1 ▸ hx, ho⟩, o2⟩
  have notL : ∀ {b}, b ∉ L → b ∉ bs := fun {b} hb hbs => hb (by rw [hLb]; exact List.mem_append_left _ hbs)
  refine ⟨Xc, ⟨c1, h.ab, fun q hq => h2.b0 q (c2 q hq), h2.stLt, fun q o hq => ?_, fun b x hx => ?_, fun b b' hb hb' he => ?_⟩, mx, ren⟩
  · obtain ⟨f1, f2, f3⟩ := c5 q o hq
    refine ⟨f1, f2, f3, fun b hb => ?_⟩
    rcases lvL b hb with ⟨_, i, hi, hli, e⟩ | ⟨hbL, hlv, e⟩
    · rw [e]
      intro he
      exact h2.notX hli (he ▸ c4 q o hq)
    · rw [e]
      exact (h.fix q o hq).2.2.2 b hlv
  · by_cases hb : b ∈ L
    · obtain ⟨i, hi⟩ := List.getElem?_of_mem hb
      obtain ⟨y, y', q1, q2, q3, q4, q5, q6⟩ := at' i b hi
      rw [q3] at hx
      simp at hx; subst hx
      exact BR.ren ren q2 (BR.less c2 (h2.mem i y q1)) q4 q5 q6
    · obtain ⟨o1, o2, o3, o4⟩ := other b hb
      rw [o1] at hx
      exact br_mono mx (c6 b x (notL hb) hx) o2 o3 o4
  · rcases lvL b hb with ⟨_, i, hi, hli, e⟩ | ⟨hbL, hlv, e⟩ <;> rcases lvL b' hb' with ⟨_, i', hi', hli', e'⟩ | ⟨hbL', hlv', e'⟩
    · rw [e, e'] at he
      have := h2.inj i i' hli hli' he
      subst this
      rw [hi] at hi'
      simpa using hi'
    · rw [e, e'] at he
      exact absurd (he ▸ c3 b' (notL hbL') hlv') (h2.notX hli)
    · rw [e, e'] at he
      exact absurd (he ▸ c3 b (notL hbL) hlv) (h2.notX hli')
    · rw [e, e'] at he
      exact h.inj b b' hlv hlv' he
theorem lend_sound (hcall : CallOK P call) (h : MemOK X J g St m w) {o : Oper} {a : Act} {c : Call} {f : Operand} {vs : List AV} {v : AV} {d : Nat} {m' : List Blk} {K : Act → World → Prop} {Q : Exit → Act → World → Prop} (ho : o.op = .call c) (hf : c.callee = .value f)
    (hr : lendB call d vs m = some (v, m')) (hv : VRs g m St w vs ((f :: c.args.toList).map a.eval)) (hK : ∀ u w', Step X J g St m w v m' u w' → K (a.put o.dst u) w') : o.wpIn (FW r) 0 P a w K Q := by
  unfold lendB at hr
  split at hr <;> try (cases hr; done)
  split at hr <;> try (cases hr; done)
  rename_i fv vs
  simp only [List.map_cons, VRs] at hv
  obtain ⟨uf, us, he, hv1, hv2⟩ := hv
  simp only [List.cons.injEq] at he
  obtain ⟨rfl, rfl⟩ := he
  split at hr <;> try (cases hr; done)
  rename_i fid caps hfo
  simp only at hr
  obtain ⟨uc, huc, hvc⟩ := funOf_sound hfo hv1
  have hargs := hv2.append hvc
  have hbs := dedup_nodup ((vs ++ caps).flatMap (reachL m deep))
  generalize dedup ((vs ++ caps).flatMap (reachL m deep)) = bs at hr hbs
  split at hr <;> try (cases hr; done)
  rename_i as' ms0 hra h0
  split at hr <;> try (cases hr; done)
  rename_i ms h1
  split at hr <;> try (cases hr; done)
  rename_i v1 ms' hcl
  obtain ⟨l1, l2⟩ := lend_ren (g := g) hbs h0 h1
  have ren1 : RenOK (placeOf bs) g m (g.lend bs) ms := RenOK.of fun b i x hp hx _ => l1 b i x hp hx
  have hargs1 := VRs.ren ren1 _ _ _ hra hargs
  have hrest : RestJ J g m bs (fun q => X q ∨ (∃ b, b ∉ bs ∧ live m b ∧ g.ρ b = q) ∨ ∃ o, g.φ q = some o) St w :=
    ⟨X, h.inv, fun q hq => .inl hq, fun b hb hl => .inr (.inl ⟨b, hb, hl, rfl⟩), fun q o hq => .inr (.inr ⟨o, hq⟩), fun q o hq => ⟨(h.fix q o hq).1, (h.fix q o hq).2.1, (h.fix q o hq).2.2.1⟩, fun b x _ hx => h.mem b x hx⟩
  have m1 : MemOK (fun q => X q ∨ (∃ b, b ∉ bs ∧ live m b ∧ g.ρ b = q) ∨ ∃ o, g.φ q = some o) (fun _ => RestJ J g m bs) (g.lend bs) St ms w := by
    refine MemOK.rename h ren1 hrest (fun _ => RestJ.abides h.ab bs) (fun q hq => ?_) (fun _ => rfl) (fun b i hp hl hx => ?_) (fun x y i hx hy => ?_) (fun i x' hx' _ => ?_) (fun i sh k n cs hx => ?_)
    · rcases hq with hq | ⟨b, _, hl, rfl⟩ | ⟨o, hq⟩
      · exact h.b0 q hq
      · exact h.lt hl
      · exact heap_lt (h.fix q o hq).1
    · rcases hx with hx | ⟨b', hb', hl', e⟩ | ⟨o, hq⟩
      · exact h.notX hl hx
      · have := h.inj b' b hl' hl e
        subst this
        exact hb' (List.mem_of_getElem? (placeOf_spec hp))
      · exact (h.fix _ o hq).2.2.2 b hl rfl
    · have h1 := placeOf_spec hx
      have h2 := placeOf_spec hy
      rw [h1] at h2
      simpa using h2
    · obtain ⟨b, x, k1, k2, k3, k4⟩ := l2 i x' hx'
      obtain ⟨x'', q1, q2, q3⟩ := l1 b i x k1 k3
      exact ⟨b, x, k1, k3, k4, q3⟩
    · obtain ⟨b, x, k1, k2, k3, k4⟩ := l2 i _ hx
      cases x <;> simp only [renB] at k4 <;> first | (cases k4; done) | (simp at k4; done) | (split at k4 <;> simp at k4)
  obtain ⟨hen, hcalls⟩ := hcall.ln fid as' ms v1 ms' hcl
  have hrun := run_call (P := P) (w := w) (ty := o.type) hf huc hen
  refine ⟨fun _ _ => trivial, ?_⟩
  rw [Oper.semAt_eq _ _ _ (by intro c h; rw [ho] at h; cases h)]
  unfold execOp
  simp only [ho, hrun]
  rw [Oper.uponIn_enter]
  refine ⟨(fun h => by cases h), ?_⟩
  have hargs' : (c.args.map a.eval ++ uc.toArray) = (c.args.toList.map a.eval ++ uc).toArray := by simp
  rw [hargs']
  refine callsFW ((hcalls _ _ (g.lend bs) St w _ m1 (fun _ => rfl) rfl (fun _ => rfl) hargs1).mono fun e w' hp => ?_)
  obtain ⟨u, X', g', St', rfl, h2, ev, hvr, hk⟩ := hp
  refine hK u w' ?_
  unfold takeBack at hr
  split at hr
  · rename_i hlen
    split at hr <;> try (cases hr; done)
    rename_i v' ns hrv hrn
    obtain ⟨n1, n2⟩ := renBs_spec hrn
    simp at hr
    obtain ⟨rfl, rfl⟩ := hr
    obtain ⟨Xc, k1, k2, k3⟩ := back_sound (L := bs) (ad := none) h hbs (by simp) hbs (by simp) h0 h1 h2 hk hrn (by omega)
    exact ⟨Xc, _, St', k1, ev, k2, VR.ren k3 _ _ _ hrv hvr⟩
  · split at hr <;> try (cases hr; done)
    rename_i hlen
    split at hr <;> try (cases hr; done)
    rename_i hd
    split at hr <;> try (cases hr; done)
    rename_i hnd
    split at hr <;> try (cases hr; done)
    rename_i v' ns hrv hrn
    obtain ⟨n1, n2⟩ := renBs_spec hrn
    simp at hr
    obtain ⟨rfl, rfl⟩ := hr
    have hnd : d ∉ bs := by simpa using hnd
    have hL : (bs ++ [d]).Nodup := by
      rw [List.nodup_append]
      exact ⟨hbs, by simp, fun x hx y hy => by simp at hy; subst hy; exact fun e => hnd (e ▸ hx)⟩
    obtain ⟨Xc, k1, k2, k3⟩ := back_sound (L := bs ++ [d]) (ad := some d) h hL rfl hbs (fun d' e => by simp at e; subst e; exact hd) h0 h1 h2 hk hrn (by simp; omega)
    exact ⟨Xc, _, St', k1, ev, k2, VR.ren k3 _ _ _ hrv hvr⟩
end Gv
