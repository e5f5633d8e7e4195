/- Blocks whose slots are renamed. -/
import Derived.Test.YtfhgjanheaocaaaGvD
namespace Gv
open Go Go.RowKit
structure RenOK (σ : Nat → Option Nat) (g : G) (m : List Blk) (g' : G) (m' : List Blk) : Prop where
  cells : ∀ b b' wr cs, σ b = some b' → m[b]? = some (.cells wr cs) → (∃ wr' cs', m'[b']? = some (.cells wr' cs')) ∧ g'.ρ b' = g.ρ b
  buf : ∀ b b' n, σ b = some b' → m[b]? = some (.buf n) → m'[b']? = some (.buf n) ∧ g'.ρ b' = g.ρ b ∧ g'.κ b' = g.κ b ∧ g'.σ b' = g.σ b
  vec : ∀ b b' wr n s cs, σ b = some b' → m[b]? = some (.vec wr n s cs) → (∃ wr' s' cs', m'[b']? = some (.vec wr' n s' cs')) ∧ g'.ρ b' = g.ρ b ∧ g'.κ b' = g.κ b ∧ g'.σ b' = g.σ b
variable {σ : Nat → Option Nat} {g g' : G} {m m' : List Blk} {St : Nat → Nat → Prop} {w : World}
mutual
theorem VR.ren (h : RenOK σ g m g' m') : ∀ (v v' : AV) (u : Value), ren σ v = some v' → VR g m St w v u → VR g' m' St w v' u
  | .p v, v', u, hr, hv => by simp only [Gv.ren, Option.some.injEq] at hr; subst hr; simpa [VR] using hv
  | .nilS, v', u, hr, hv => by simp only [Gv.ren, Option.some.injEq] at hr; subst hr; simpa [VR] using hv
  | .lit n sz cs, v', u, hr, hv => by simp only [Gv.ren, Option.some.injEq] at hr; subst hr; simpa [VR] using hv
  | .undef, v', u, hr, hv => by simp only [Gv.ren, Option.some.injEq] at hr; subst hr; simpa [VR] using hv
  | .bad, v', u, hr, hv => by simp only [Gv.ren, Option.some.injEq] at hr; subst hr; simp [VR]
  | .yv, v', u, hr, hv => by simp [Gv.ren] at hr
  | .loc b o, v', u, hr, hv => by
    simp only [Gv.ren] at hr
    split at hr <;> try (cases hr; done)
    rename_i b' hb
    simp at hr; subst hr
    simp only [VR] at hv ⊢
    obtain ⟨⟨wr, cs, hm⟩, rfl⟩ := hv
    obtain ⟨h1, h2⟩ := h.cells b b' wr cs hb hm
    exact ⟨h1, by rw [h2]⟩
  | .msl b o n sz, v', u, hr, hv => by
    simp only [Gv.ren] at hr
    split at hr <;> try (cases hr; done)
    rename_i b' hb
    simp at hr; subst hr
    simp only [VR] at hv ⊢
    obtain ⟨⟨wr, cs, hm⟩, cap, rfl, hc⟩ := hv
    obtain ⟨h1, h2⟩ := h.cells b b' wr cs hb hm
    exact ⟨h1, cap, by rw [h2], hc⟩
  | .app b n sz cs, v', u, hr, hv => by
    simp only [Gv.ren] at hr
    split at hr
    · rename_i b' hb
      simp at hr; subst hr
      simp only [VR] at hv ⊢
      obtain ⟨q, cap, us, rfl, hc, h1, h2, h3, n', h4, h5, h6⟩ := hv
      obtain ⟨k1, k2, k3, k4⟩ := h.buf b b' n' hb h4
      refine ⟨q, cap, us, rfl, hc, h1, h2, h3, n', k1, h5, fun hn => ?_⟩
      rw [k2, k3, k4]
      exact h6 hn
    · simp at hr; subst hr
      simp only [VR]
      exact pureA_spec (.app b n sz cs) _ _ rfl hv
  | .vap b n sz, v', u, hr, hv => by
    simp only [Gv.ren] at hr
    split at hr <;> try (cases hr; done)
    rename_i b' hb
    simp at hr; subst hr
    simp only [VR] at hv ⊢
    obtain ⟨q, cap, rfl, hc, wr, n', s, cs, h1, h2, h3⟩ := hv
    obtain ⟨⟨wr', s', cs', k1⟩, k2, k3, k4⟩ := h.vec b b' wr n' s cs hb h1
    refine ⟨q, cap, rfl, hc, wr', n', s', cs', k1, h2, fun hn => ?_⟩
    rw [k2, k3, k4]
    exact h3 hn
  | .vlc b n o, v', u, hr, hv => by
    simp only [Gv.ren] at hr
    split at hr <;> try (cases hr; done)
    rename_i b' hb
    simp at hr; subst hr
    simp only [VR] at hv ⊢
    obtain ⟨q, rfl, wr, n', s, cs, h1, h2, h3⟩ := hv
    obtain ⟨⟨wr', s', cs', k1⟩, k2, k3, k4⟩ := h.vec b b' wr n' s cs hb h1
    refine ⟨q, rfl, wr', n', s', cs', k1, h2, fun hn => ?_⟩
    rw [k2]
    exact h3 hn
  | .agg cs, v', u, hr, hv => by
    simp only [Gv.ren] at hr
    split at hr <;> try (cases hr; done)
    rename_i ws hw
    simp at hr; subst hr
    simp only [VR] at hv ⊢
    obtain ⟨us, rfl, hv⟩ := hv
    exact ⟨us, rfl, VRs.ren h cs ws us hw hv⟩
  | .clo f cs, v', u, hr, hv => by
    simp only [Gv.ren] at hr
    split at hr <;> try (cases hr; done)
    rename_i ws hw
    simp at hr; subst hr
    simp only [VR] at hv ⊢
    obtain ⟨us, rfl, hv⟩ := hv
    exact ⟨us, rfl, VRs.ren h cs ws us hw hv⟩
theorem VRs.ren (h : RenOK σ g m g' m') : ∀ (vs vs' : List AV) (us : List Value), rens σ vs = some vs' → VRs g m St w vs us → VRs g' m' St w vs' us
  | [], vs', us, hr, hv => by simp only [rens, Option.some.injEq] at hr; subst hr; simpa [VRs] using hv
  | v :: vs, vs', us, hr, hv => by
    simp only [rens] at hr
    split at hr <;> try (cases hr; done)
    rename_i x xs hx hxs
    simp at hr; subst hr
    simp only [VRs] at hv ⊢
    obtain ⟨y, ys, rfl, h1, h2⟩ := hv
    exact ⟨y, ys, rfl, VR.ren h v x y hx h1, VRs.ren h vs xs ys hxs h2⟩
end
theorem BR.ren {X : Nat → Prop} (h : RenOK σ g m g' m') {b b' : Nat} {x x' : Blk} (hr : renB σ x = some x') (hbr : BR X g m St w b x) (h1 : g'.ρ b' = g.ρ b) (h2 : g'.κ b' = g.κ b) (h3 : g'.σ b' = g.σ b) : BR X g' m' St w b' x' := by
  cases x with
  | none => simp [renB] at hr; subst hr; trivial
  | log sh k n cs => simp [renB] at hr
  | cells wr cs =>
    simp only [renB] at hr
    split at hr <;> try (cases hr; done)
    rename_i ws hw
    simp at hr; subst hr
    obtain ⟨k1, cur, e, k2, k3, k4, k5⟩ := hbr
    exact ⟨by rw [h1]; exact k1, cur, e, by rw [h1]; exact k2, VRs.ren h _ _ _ hw k3, by rw [h1]; exact k4, k5⟩
  | buf n =>
    simp [renB] at hr; subst hr
    obtain ⟨k1, cur, e, k2, k3, k4, k5, k6⟩ := hbr
    exact ⟨by rw [h1]; exact k1, cur, e, by rw [h1]; exact k2, by rw [h2, h3]; exact k3, by rw [h2]; exact k4, by rw [h2]; exact k5, by rw [h1, h3]; exact k6⟩
  | vec wr n sz cs =>
    simp [renB] at hr; subst hr
    obtain ⟨k1, cur, e, us, rest, k2, k3, k4, k5, k6, k7, k8, k9, k10, k11⟩ := hbr
    exact ⟨by rw [h1]; exact k1, cur, e, us, rest, by rw [h1]; exact k2, k3, k4, k5, k6, by rw [h3]; exact k7, by rw [h2]; exact k8, by rw [h2]; exact k9, by rw [h2]; exact k10, by rw [h1]; exact k11⟩
theorem renB_own {x x' : Blk} (h : renB σ x = some x') : x'.own = x.own := by
  cases x <;> simp only [renB] at h
  · simp at h; subst h; rfl
  · split at h <;> try (cases h; done)
    simp at h; subst h; rfl
  · simp at h; subst h; rfl
  · cases h
  · simp at h; subst h; rfl
theorem renB_none {x' : Blk} {x : Blk} (h : renB σ x = some x') (hn : x' = .none) : x = .none := by
  subst hn
  cases x <;> simp only [renB] at h
  · rfl
  · split at h <;> simp at h
  · simp at h
  · cases h
  · simp at h
theorem RenOK.of (hm : ∀ b b' x, σ b = some b' → m[b]? = some x → x.own = true → ∃ x', renB σ x = some x' ∧ m'[b']? = some x' ∧ g'.ρ b' = g.ρ b ∧ g'.κ b' = g.κ b ∧ g'.σ b' = g.σ b) : RenOK σ g m g' m' := by
  refine ⟨fun b b' wr cs hs hb => ?_, fun b b' n hs hb => ?_, fun b b' wr n s cs hs hb => ?_⟩
  · obtain ⟨x', h1, h2, h3, h4, h5⟩ := hm b b' _ hs hb rfl
    simp only [renB] at h1
    split at h1 <;> try (cases h1; done)
    simp at h1; subst h1
    exact ⟨⟨_, _, h2⟩, h3⟩
  · obtain ⟨x', h1, h2, h3, h4, h5⟩ := hm b b' _ hs hb rfl
    simp [renB] at h1; subst h1
    exact ⟨h2, h3, h4, h5⟩
  · obtain ⟨x', h1, h2, h3, h4, h5⟩ := hm b b' _ hs hb rfl
    simp [renB] at h1; subst h1
    exact ⟨⟨_, _, _, h2⟩, h3, h4, h5⟩
theorem MemOK.rename {X X1 : Nat → Prop} {J J1 : Nat → JT} (h : MemOK X J g St m w) (hr : RenOK σ g m g' m') (hinv : J1 g'.ι X1 St w) (hab : ∀ i, Abides (J1 i)) (hb0 : ∀ q, X1 q → q < w.heap.size) (hφ : ∀ q, g'.φ q = none)
    (hX : ∀ b b', σ b = some b' → live m b → ¬ X1 (g.ρ b)) (_hi : ∀ a b c, σ a = some c → σ b = some c → a = b)
    (hm : ∀ b' x', m'[b']? = some x' → x'.own = true → ∃ b x, σ b = some b' ∧ m[b]? = some x ∧ renB σ x = some x' ∧ g'.ρ b' = g.ρ b ∧ g'.κ b' = g.κ b ∧ g'.σ b' = g.σ b)
    (hn : ∀ (b' : Nat) (sh : List (Option Nat)) (k n : Nat) (cs : List PV), m'[b']? ≠ some (Blk.log sh k n cs)) : MemOK X1 J1 g' St m' w := by
  refine ⟨hinv, hab, hb0, h.stLt, (fun q o hq => by rw [hφ] at hq; cases hq), fun b' x' hb' => ?_, fun b1 b2 k1 k2 he => ?_⟩
  · by_cases ho : x'.own = true
    · obtain ⟨b, x, s1, s2, s3, s4, s5, s6⟩ := hm b' x' hb' ho
      have hbr := h.mem b x s2
      have hox : x.own = true := by rw [← renB_own s3]; exact ho
      have hbr1 : BR X1 g m St w b x := by
        have hx := hX b b' s1 ⟨x, s2, hox⟩
        cases x with
        | none => trivial
        | cells wr cs => exact ⟨hx, hbr.2⟩
        | buf n => exact ⟨hx, hbr.2⟩
        | log sh k n cs => cases hox
        | vec wr n sz cs => exact ⟨hx, hbr.2⟩
      exact BR.ren hr s3 hbr1 s4 s5 s6
    · cases x' with
      | none => trivial
      | cells wr cs => exact absurd rfl ho
      | buf n => exact absurd rfl ho
      | log sh k n cs => exact absurd hb' (hn _ _ _ _ _)
      | vec wr n sz cs => exact absurd rfl ho
  · obtain ⟨x1, q1, o1⟩ := k1
    obtain ⟨x2, q2, o2⟩ := k2
    obtain ⟨c1, y1, s1, s2, s3, s4, _⟩ := hm b1 x1 q1 o1
    obtain ⟨c2, y2, t1, t2, t3, t4, _⟩ := hm b2 x2 q2 o2
    rw [s4, t4] at he
    have := h.inj c1 c2 ⟨y1, s2, by rw [← renB_own s3]; exact o1⟩ ⟨y2, t2, by rw [← renB_own t3]; exact o2⟩ he
    subst this
    rw [s1] at t1
    simpa using t1
theorem placeOf_spec : ∀ {bs : List Nat} {b i : Nat}, placeOf bs b = some i → bs[i]? = some b
  | [], b, i, h => by simp [placeOf] at h
  | x :: r, b, i, h => by
    simp only [placeOf] at h
    split at h
    · rename_i e
      simp at h; subst h; subst e; rfl
    · cases hp : placeOf r b with
      | none => rw [hp] at h; cases h
      | some j =>
        rw [hp] at h
        simp at h; subst h
        simpa using placeOf_spec hp
theorem placeOf_none : ∀ {bs : List Nat} {b : Nat}, placeOf bs b = none → b ∉ bs
  | [], b, _ => by simp
  | x :: r, b, h => by
    simp only [placeOf] at h
    split at h
    · cases h
    · rename_i e
      cases hp : placeOf r b with
      | none => simp only [List.mem_cons, not_or]; exact ⟨fun hh => e hh.symm, placeOf_none hp⟩
      | some j => rw [hp] at h; cases h
theorem placeOf_get : ∀ {bs : List Nat}, bs.Nodup → ∀ {i b : Nat}, bs[i]? = some b → placeOf bs b = some i
  | [], _, i, b, h => by simp at h
  | x :: r, hn, 0, b, h => by simp at h; subst h; simp [placeOf]
  | x :: r, hn, i + 1, b, h => by
    have hb : r[i]? = some b := by simpa using h
    obtain ⟨h1, h2⟩ := List.nodup_cons.1 hn
    have hne : x ≠ b := fun e => h1 (e ▸ List.mem_of_getElem? hb)
    simp only [placeOf, if_neg hne, placeOf_get h2 hb, Option.map_some]
theorem dedup_nodup : ∀ (l : List Nat), (dedup l).Nodup
  | [] => List.nodup_nil
  | b :: l => by
    simp only [dedup]
    refine List.nodup_cons.2 ⟨fun h => ?_, List.Pairwise.filter _ (dedup_nodup l)⟩
    have := (List.mem_filter.1 h).2
    simp at this
theorem getAll_spec {m : List Blk} : ∀ {bs : List Nat} {xs : List Blk}, getAll m bs = some xs → xs.length = bs.length ∧ ∀ (i b : Nat), bs[i]? = some b → m[b]? = xs[i]?
  | [], xs, h => by simp [getAll] at h; subst h; simp
  | b :: bs, xs, h => by
    simp only [getAll] at h
    split at h <;> try (cases h; done)
    rename_i y ys hy hys
    simp at h; subst h
    obtain ⟨h1, h2⟩ := getAll_spec hys
    refine ⟨by simp [h1], fun i c hc => ?_⟩
    cases i with
    | zero => simp at hc; subst hc; simpa using hy
    | succ i => simpa using h2 i c (by simpa using hc)
theorem renBs_spec : ∀ {xs ys : List Blk}, renBs σ xs = some ys → ys.length = xs.length ∧ (∀ (i : Nat) (x : Blk), xs[i]? = some x → ∃ y, ys[i]? = some y ∧ renB σ x = some y)
  | [], ys, h => by simp [renBs] at h; subst h; simp
  | x :: xs, ys, h => by
    simp only [renBs] at h
    split at h <;> try (cases h; done)
    rename_i a as ha has
    simp at h; subst h
    obtain ⟨h1, h2⟩ := renBs_spec has
    refine ⟨by simp [h1], fun i y hy => ?_⟩
    cases i with
    | zero => simp at hy; subst hy; exact ⟨a, rfl, ha⟩
    | succ i => simpa using h2 i y (by simpa using hy)
theorem setAll_other : ∀ (bs : List Nat) (ns : List Blk) (m : List Blk) (b : Nat), b ∉ bs → (setAll m bs ns)[b]? = m[b]?
  | [], ns, m, b, _ => by cases ns <;> rfl
  | c :: bs, [], m, b, _ => rfl
  | c :: bs, x :: xs, m, b, h => by
    simp only [setAll]
    rw [setAll_other bs xs _ b (fun hb => h (List.mem_cons_of_mem _ hb)), set_other (fun e => h (by rw [e]; exact List.mem_cons_self ..))]
theorem setAll_len : ∀ (bs : List Nat) (ns : List Blk) (m : List Blk), (setAll m bs ns).length = m.length
  | [], ns, m => by cases ns <;> rfl
  | c :: bs, [], m => rfl
  | c :: bs, x :: xs, m => by simp only [setAll]; rw [setAll_len bs xs]; simp
theorem setAll_get : ∀ {bs : List Nat}, bs.Nodup → ∀ {ns : List Blk} {m : List Blk} {i b : Nat} {x : Blk}, ns.length = bs.length → bs[i]? = some b → ns[i]? = some x → b < m.length → (setAll m bs ns)[b]? = some x
  | [], _, ns, m, i, b, x, _, h, _, _ => by simp at h
  | c :: bs, hn, [], m, i, b, x, hl, _, _, _ => by simp at hl
  | c :: bs, hn, y :: ys, m, i, b, x, hl, hb, hx, hlt => by
    obtain ⟨h1, h2⟩ := List.nodup_cons.1 hn
    simp only [setAll]
    cases i with
    | zero =>
      simp at hb hx
      subst hb; subst hx
      rw [setAll_other bs ys _ c h1, List.getElem?_set, if_pos rfl, if_pos hlt]
    | succ i => exact setAll_get h2 (by simpa using hl) (by simpa using hb) (by simpa using hx) (by simpa using hlt)
end Gv
