/- What an abstract value says of a value in memory, and how it is kept while memory grows. -/
import Derived.Test.YtfhgjanheaocaaaGvA
namespace Gv
open Go Go.RowKit
def At (St : Nat → Nat → Prop) (w : World) (ad : Addr) (us : List Value) : Prop :=
  ∀ j x, us[j]? = some x → St ad.block (ad.off + j) ∧ w.cell? (ad.add j) = some x ∧ x.oneCell' = true
mutual
def PR (St : Nat → Nat → Prop) (w : World) : PV → Value → Prop
  | .int k n, u => u = .int k n
  | .bool b, u => u = .bool b
  | .str s, u => u = .string s
  | .agg cs, u => ∃ us : List Value, u = .agg us.toArray ∧ PRs St w cs us
  | .tup vs, u => ∃ us : List Value, u = .tuple us.toArray ∧ PRs St w vs us
  | .list n cs, u => ∃ (a : Option Addr) (cap : Nat) (us : List Value), u = .slice a n cap ∧ PRs St w cs us ∧ n ≤ cap ∧
      ((n = 0 ∧ us = []) ∨ ∃ ad, a = some ad ∧ At St w ad us)
  | .imm cs off, u => ∃ (ad : Addr) (us : List Value), u = .pointer (some (ad.add off)) ∧ PRs St w cs us ∧ At St w ad us
  | .fn f caps, u => ∃ us : List Value, u = .func (.func f) #[] us.toArray ∧ PRs St w caps us
  | .nilF, u => u = .nilFunc
  | .nilL, u => u = .slice none 0 0
  | .it _ _, _ => False
def PRs (St : Nat → Nat → Prop) (w : World) : List PV → List Value → Prop
  | [], us => us = []
  | c :: cs, us => ∃ x xs, us = x :: xs ∧ PR St w c x ∧ PRs St w cs xs
end
structure G where
  ρ : Nat → Nat
  κ : Nat → Nat
  σ : Nat → Nat
  ι : Nat
  ly : Nat
  lg : Option (List (Option Nat) × Nat)
  φ : Nat → Option Obj
mutual
def VR (g : G) (m : List Blk) (St : Nat → Nat → Prop) (w : World) : AV → Value → Prop
  | .p v, u => PR St w v u
  | .nilS, u => u = .slice none 0 0
  | .loc b o, u => (∃ wr cs, m[b]? = some (.cells wr cs)) ∧ u = .pointer (some ⟨g.ρ b, o, none⟩)
  | .msl b o n _, u => (∃ wr cs, m[b]? = some (.cells wr cs)) ∧ ∃ cap, u = .slice (some ⟨g.ρ b, o, none⟩) n cap ∧ n ≤ cap
  | .lit n sz cs, u => ∃ (q : Nat) (us : List Value), u = .slice (some ⟨q, 0, none⟩) n n ∧ PRs St w cs us ∧ us.length = n * sz ∧ At St w ⟨q, 0, none⟩ us
  | .app b n sz cs, u => ∃ (q cap : Nat) (us : List Value), u = .slice (some ⟨q, 0, none⟩) n cap ∧ n ≤ cap ∧ PRs St w cs us ∧ us.length = n * sz ∧ At St w ⟨q, 0, none⟩ us ∧
      ∃ n', m[b]? = some (.buf n') ∧ n ≤ n' ∧ (n = n' → q = g.ρ b ∧ cap = g.κ b ∧ sz = g.σ b)
  | .agg cs, u => ∃ us : List Value, u = .agg us.toArray ∧ VRs g m St w cs us
  | .clo f caps, u => ∃ us : List Value, u = .func (.func f) #[] us.toArray ∧ VRs g m St w caps us
  | .undef, u => u = undef
  | .bad, _ => True
  | .yv, u => u = .func (.yield g.ly) #[] #[]
  | .vap b n sz, u => ∃ (q cap : Nat), u = .slice (some ⟨q, 0, none⟩) n cap ∧ n ≤ cap ∧ ∃ (wr : Bool) (n' s : Nat) (cs : List PV), m[b]? = some (.vec wr n' s cs) ∧ n ≤ n' ∧ (n = n' → q = g.ρ b ∧ cap = g.κ b ∧ sz = g.σ b)
  | .vlc b n o, u => ∃ q : Nat, u = .pointer (some ⟨q, o, none⟩) ∧ ∃ (wr : Bool) (n' s : Nat) (cs : List PV), m[b]? = some (.vec wr n' s cs) ∧ n ≤ n' ∧ (n = n' → q = g.ρ b)
def VRs (g : G) (m : List Blk) (St : Nat → Nat → Prop) (w : World) : List AV → List Value → Prop
  | [], us => us = []
  | c :: cs, us => ∃ x xs, us = x :: xs ∧ VR g m St w c x ∧ VRs g m St w cs xs
end
def Evo (St : Nat → Nat → Prop) (w : World) (St' : Nat → Nat → Prop) (w' : World) : Prop :=
  ∀ b o, St b o → St' b o ∧ w'.cell? ⟨b, o, none⟩ = w.cell? ⟨b, o, none⟩
theorem Evo.refl (St : Nat → Nat → Prop) (w : World) : Evo St w St w := fun _ _ h => ⟨h, rfl⟩
theorem Evo.trans {St St' St'' : Nat → Nat → Prop} {w w' w'' : World} (h : Evo St w St' w') (k : Evo St' w' St'' w'') : Evo St w St'' w'' :=
  fun b o hs => ⟨(k b o (h b o hs).1).1, ((k b o (h b o hs).1).2).trans (h b o hs).2⟩
theorem cell_spot {w : World} {a : Addr} {x : Value} (h : w.cell? a = some x) : a.spot = none := by
  unfold World.cell? at h
  split at h
  · cases hs : a.spot with
    | none => rfl
    | some _ => simp [hs] at h
  · cases h
theorem add_form (a : Addr) (j : Nat) (h : (a.add j).spot = none) : a.add j = ⟨a.block, a.off + j, none⟩ := by
  unfold Addr.add at h ⊢
  split at h
  · rename_i hj
    subst hj
    obtain ⟨b, o, s⟩ := a
    simp at h
    subst h
    rfl
  · rename_i hj
    simp [hj]
theorem add_of_add (a : Addr) (i j : Nat) : (a.add i).add j = a.add (i + j) := by
  unfold Addr.add
  by_cases hi : i = 0 <;> by_cases hj : j = 0 <;> simp [hi, hj, Nat.add_assoc]
theorem At.mono {St St' : Nat → Nat → Prop} {w w' : World} {ad : Addr} {us : List Value} (h : At St w ad us) (e : Evo St w St' w') : At St' w' ad us := by
  intro j x hj
  obtain ⟨h1, h2, h3⟩ := h j x hj
  obtain ⟨e1, e2⟩ := e _ _ h1
  have hf := add_form ad j (cell_spot h2)
  refine ⟨e1, ?_, h3⟩
  rw [hf] at h2 ⊢
  rw [e2]
  exact h2
mutual
theorem PR.mono {St St' : Nat → Nat → Prop} {w w' : World} (e : Evo St w St' w') : ∀ (v : PV) (u : Value), PR St w v u → PR St' w' v u
  | .int _ _, _, h => by simpa [PR] using h
  | .bool _, _, h => by simpa [PR] using h
  | .str _, _, h => by simpa [PR] using h
  | .nilF, _, h => by simpa [PR] using h
  | .nilL, _, h => by simpa [PR] using h
  | .it _ _, _, h => by simp [PR] at h
  | .agg cs, u, h => by
    simp only [PR] at h ⊢
    obtain ⟨us, rfl, h⟩ := h
    exact ⟨us, rfl, PRs.mono e cs us h⟩
  | .tup cs, u, h => by
    simp only [PR] at h ⊢
    obtain ⟨us, rfl, h⟩ := h
    exact ⟨us, rfl, PRs.mono e cs us h⟩
  | .list n cs, u, h => by
    simp only [PR] at h ⊢
    obtain ⟨a, cap, us, rfl, h, hc, hr⟩ := h
    exact ⟨a, cap, us, rfl, PRs.mono e cs us h, hc, hr.imp id fun ⟨ad, ha, hat⟩ => ⟨ad, ha, hat.mono e⟩⟩
  | .imm cs off, u, h => by
    simp only [PR] at h ⊢
    obtain ⟨ad, us, rfl, h, hat⟩ := h
    exact ⟨ad, us, rfl, PRs.mono e cs us h, hat.mono e⟩
  | .fn f caps, u, h => by
    simp only [PR] at h ⊢
    obtain ⟨us, rfl, h⟩ := h
    exact ⟨us, rfl, PRs.mono e caps us h⟩
theorem PRs.mono {St St' : Nat → Nat → Prop} {w w' : World} (e : Evo St w St' w') : ∀ (cs : List PV) (us : List Value), PRs St w cs us → PRs St' w' cs us
  | [], _, h => by simpa [PRs] using h
  | c :: cs, us, h => by
    simp only [PRs] at h ⊢
    obtain ⟨x, xs, rfl, h1, h2⟩ := h
    exact ⟨x, xs, rfl, PR.mono e c x h1, PRs.mono e cs xs h2⟩
end
structure MExt0 (g : G) (m : List Blk) (g' : G) (m' : List Blk) : Prop where
  cells : ∀ b wr cs, m[b]? = some (.cells wr cs) → (∃ wr' cs', m'[b]? = some (.cells wr' cs')) ∧ g'.ρ b = g.ρ b
  buf : ∀ b n, m[b]? = some (.buf n) → ∃ n', m'[b]? = some (.buf n') ∧ n ≤ n' ∧ (n = n' → g'.ρ b = g.ρ b ∧ g'.κ b = g.κ b ∧ g'.σ b = g.σ b)
  vec : ∀ b wr n s cs, m[b]? = some (.vec wr n s cs) → ∃ wr' n' s' cs', m'[b]? = some (.vec wr' n' s' cs') ∧ n ≤ n' ∧ (n = n' → g'.ρ b = g.ρ b ∧ g'.κ b = g.κ b ∧ g'.σ b = g.σ b)
  ly : g'.ly = g.ly
structure MExt (g : G) (m : List Blk) (g' : G) (m' : List Blk) : Prop extends MExt0 g m g' m' where
  lg : g'.lg = g.lg
  fx : g'.φ = g.φ
theorem MExt.refl (g : G) (m : List Blk) : MExt g m g m :=
  ⟨⟨fun _ wr cs h => ⟨⟨wr, cs, h⟩, rfl⟩, fun _ n h => ⟨n, h, Nat.le_refl _, fun _ => ⟨rfl, rfl, rfl⟩⟩, fun _ wr n s cs h => ⟨wr, n, s, cs, h, Nat.le_refl _, fun _ => ⟨rfl, rfl, rfl⟩⟩, rfl⟩, rfl, rfl⟩
mutual
theorem VR.mono0 {g g' : G} {m m' : List Blk} {St St' : Nat → Nat → Prop} {w w' : World} (e : Evo St w St' w') (x : MExt0 g m g' m') :
    ∀ (v : AV) (u : Value), VR g m St w v u → VR g' m' St' w' v u
  | .p v, u, h => by
    simp only [VR] at h ⊢
    exact PR.mono e v u h
  | .nilS, _, h => by simpa [VR] using h
  | .undef, _, h => by simpa [VR] using h
  | .bad, _, _ => by simp [VR]
  | .yv, u, h => by
    simp only [VR] at h ⊢
    rw [x.ly]
    exact h
  | .loc b o, u, h => by
    simp only [VR] at h ⊢
    obtain ⟨⟨wr, cs, hm⟩, rfl⟩ := h
    obtain ⟨h1, h2⟩ := x.cells b wr cs hm
    exact ⟨h1, by rw [h2]⟩
  | .msl b o n sz, u, h => by
    simp only [VR] at h ⊢
    obtain ⟨⟨wr, cs, hm⟩, cap, rfl, hc⟩ := h
    obtain ⟨h1, h2⟩ := x.cells b wr cs hm
    exact ⟨h1, cap, by rw [h2], hc⟩
  | .lit n sz cs, u, h => by
    simp only [VR] at h ⊢
    obtain ⟨q, us, rfl, h1, h2, h3⟩ := h
    exact ⟨q, us, rfl, PRs.mono e cs us h1, h2, h3.mono e⟩
  | .app b n sz cs, u, h => by
    simp only [VR] at h ⊢
    obtain ⟨q, cap, us, rfl, hc, h1, h2, h3, n', h4, h5, h6⟩ := h
    obtain ⟨n2, k1, k2, k3⟩ := x.buf b n' h4
    refine ⟨q, cap, us, rfl, hc, PRs.mono e cs us h1, h2, h3.mono e, n2, k1, Nat.le_trans h5 k2, fun hn => ?_⟩
    have hn' : n = n' := by omega
    obtain ⟨r1, r2, r3⟩ := h6 hn'
    obtain ⟨t1, t2, t3⟩ := k3 (by omega)
    exact ⟨r1.trans t1.symm, r2.trans t2.symm, r3.trans t3.symm⟩
  | .vap b n sz, u, h => by
    simp only [VR] at h ⊢
    obtain ⟨q, cap, rfl, hc, wr, n', s, cs, h1, h2, h3⟩ := h
    obtain ⟨wr', n2, s', cs', k1, k2, k3⟩ := x.vec b wr n' s cs h1
    refine ⟨q, cap, rfl, hc, wr', n2, s', cs', k1, Nat.le_trans h2 k2, fun hn => ?_⟩
    obtain ⟨r1, r2, r3⟩ := h3 (by omega)
    obtain ⟨t1, t2, t3⟩ := k3 (by omega)
    exact ⟨r1.trans t1.symm, r2.trans t2.symm, r3.trans t3.symm⟩
  | .vlc b n o, u, h => by
    simp only [VR] at h ⊢
    obtain ⟨q, rfl, wr, n', s, cs, h1, h2, h3⟩ := h
    obtain ⟨wr', n2, s', cs', k1, k2, k3⟩ := x.vec b wr n' s cs h1
    refine ⟨q, rfl, wr', n2, s', cs', k1, Nat.le_trans h2 k2, fun hn => ?_⟩
    rw [(k3 (by omega)).1]
    exact h3 (by omega)
  | .agg cs, u, h => by
    simp only [VR] at h ⊢
    obtain ⟨us, rfl, h⟩ := h
    exact ⟨us, rfl, VRs.mono0 e x cs us h⟩
  | .clo f caps, u, h => by
    simp only [VR] at h ⊢
    obtain ⟨us, rfl, h⟩ := h
    exact ⟨us, rfl, VRs.mono0 e x caps us h⟩
theorem VRs.mono0 {g g' : G} {m m' : List Blk} {St St' : Nat → Nat → Prop} {w w' : World} (e : Evo St w St' w') (x : MExt0 g m g' m') :
    ∀ (cs : List AV) (us : List Value), VRs g m St w cs us → VRs g' m' St' w' cs us
  | [], _, h => by simpa [VRs] using h
  | c :: cs, us, h => by
    simp only [VRs] at h ⊢
    obtain ⟨y, ys, rfl, h1, h2⟩ := h
    exact ⟨y, ys, rfl, VR.mono0 e x c y h1, VRs.mono0 e x cs ys h2⟩
end
theorem VR.mono {g g' : G} {m m' : List Blk} {St St' : Nat → Nat → Prop} {w w' : World} (e : Evo St w St' w') (x : MExt g m g' m') (v : AV) (u : Value) (h : VR g m St w v u) : VR g' m' St' w' v u := VR.mono0 e x.toMExt0 v u h
theorem VRs.mono {g g' : G} {m m' : List Blk} {St St' : Nat → Nat → Prop} {w w' : World} (e : Evo St w St' w') (x : MExt g m g' m') (cs : List AV) (us : List Value) (h : VRs g m St w cs us) : VRs g' m' St' w' cs us := VRs.mono0 e x.toMExt0 cs us h
section
variable {g : G} {m : List Blk} {St : Nat → Nat → Prop} {w : World}
theorem PRs.length : ∀ {cs : List PV} {us : List Value}, PRs St w cs us → us.length = cs.length
  | [], us, h => by simp only [PRs] at h; simp [h]
  | c :: cs, us, h => by
    simp only [PRs] at h
    obtain ⟨x, xs, rfl, _, h⟩ := h
    simp [PRs.length h]
theorem VRs.length : ∀ {cs : List AV} {us : List Value}, VRs g m St w cs us → us.length = cs.length
  | [], us, h => by simp only [VRs] at h; simp [h]
  | c :: cs, us, h => by
    simp only [VRs] at h
    obtain ⟨x, xs, rfl, _, h⟩ := h
    simp [VRs.length h]
theorem PRs.get : ∀ {cs : List PV} {us : List Value} {i : Nat} {v : PV}, PRs St w cs us → cs[i]? = some v → ∃ u, us[i]? = some u ∧ PR St w v u
  | [], _, _, _, _, h => by simp at h
  | c :: cs, us, 0, v, h, hi => by
    simp only [PRs] at h
    obtain ⟨x, xs, rfl, h1, _⟩ := h
    simp at hi
    subst hi
    exact ⟨x, rfl, h1⟩
  | c :: cs, us, i + 1, v, h, hi => by
    simp only [PRs] at h
    obtain ⟨x, xs, rfl, _, h2⟩ := h
    simpa using PRs.get h2 (by simpa using hi)
theorem VRs.get : ∀ {cs : List AV} {us : List Value} {i : Nat} {v : AV}, VRs g m St w cs us → cs[i]? = some v → ∃ u, us[i]? = some u ∧ VR g m St w v u
  | [], _, _, _, _, h => by simp at h
  | c :: cs, us, 0, v, h, hi => by
    simp only [VRs] at h
    obtain ⟨x, xs, rfl, h1, _⟩ := h
    simp at hi
    subst hi
    exact ⟨x, rfl, h1⟩
  | c :: cs, us, i + 1, v, h, hi => by
    simp only [VRs] at h
    obtain ⟨x, xs, rfl, _, h2⟩ := h
    simpa using VRs.get h2 (by simpa using hi)
theorem VRs.of_get : ∀ {cs : List AV} {us : List Value}, us.length = cs.length → (∀ (i : Nat) (v : AV) (u : Value), cs[i]? = some v → us[i]? = some u → VR g m St w v u) → VRs g m St w cs us
  | [], us, hl, _ => by simp only [VRs]; exact List.eq_nil_of_length_eq_zero (by simpa using hl)
  | c :: cs, [], hl, _ => by simp at hl
  | c :: cs, x :: xs, hl, h => by
    simp only [VRs]
    exact ⟨x, xs, rfl, h 0 c x rfl rfl, VRs.of_get (by simpa using hl) fun i v u hi hu => h (i + 1) v u (by simpa using hi) (by simpa using hu)⟩
theorem PRs.of_get : ∀ {cs : List PV} {us : List Value}, us.length = cs.length → (∀ (i : Nat) (v : PV) (u : Value), cs[i]? = some v → us[i]? = some u → PR St w v u) → PRs St w cs us
  | [], us, hl, _ => by simp only [PRs]; exact List.eq_nil_of_length_eq_zero (by simpa using hl)
  | c :: cs, [], hl, _ => by simp at hl
  | c :: cs, x :: xs, hl, h => by
    simp only [PRs]
    exact ⟨x, xs, rfl, h 0 c x rfl rfl, PRs.of_get (by simpa using hl) fun i v u hi hu => h (i + 1) v u (by simpa using hi) (by simpa using hu)⟩
theorem VRs.set {cs : List AV} {us : List Value} {i : Nat} {v : AV} {u : Value} (h : VRs g m St w cs us) (hv : VR g m St w v u) : VRs g m St w (cs.set i v) (us.set i u) := by
  refine VRs.of_get (by simp [h.length]) fun j x y hx hy => ?_
  rw [List.getElem?_set] at hx hy
  by_cases hij : i = j
  · subst hij
    rw [if_pos rfl] at hx hy
    split at hx
    · split at hy
      · simp at hx hy
        subst hx
        subst hy
        exact hv
      · simp at hy
    · simp at hx
  · rw [if_neg hij] at hx hy
    obtain ⟨u', h1, h2⟩ := h.get hx
    rw [hy] at h1
    cases h1
    exact h2
theorem PRs.append {cs ds : List PV} {us xs : List Value} (h : PRs St w cs us) (k : PRs St w ds xs) : PRs St w (cs ++ ds) (us ++ xs) := by
  refine PRs.of_get (by simp [h.length, k.length]) fun i v u hv hu => ?_
  by_cases hi : i < cs.length
  · rw [List.getElem?_append_left hi] at hv
    rw [List.getElem?_append_left (by rw [h.length]; exact hi)] at hu
    obtain ⟨u', h1, h2⟩ := h.get hv
    rw [hu] at h1
    cases h1
    exact h2
  · rw [List.getElem?_append_right (by omega)] at hv
    rw [List.getElem?_append_right (by rw [h.length]; omega), h.length] at hu
    obtain ⟨u', h1, h2⟩ := k.get hv
    rw [hu] at h1
    cases h1
    exact h2
theorem VRs.append {cs ds : List AV} {us xs : List Value} (h : VRs g m St w cs us) (k : VRs g m St w ds xs) : VRs g m St w (cs ++ ds) (us ++ xs) := by
  refine VRs.of_get (by simp [h.length, k.length]) fun i v u hv hu => ?_
  by_cases hi : i < cs.length
  · rw [List.getElem?_append_left hi] at hv
    rw [List.getElem?_append_left (by rw [h.length]; exact hi)] at hu
    obtain ⟨u', h1, h2⟩ := h.get hv
    rw [hu] at h1
    cases h1
    exact h2
  · rw [List.getElem?_append_right (by omega)] at hv
    rw [List.getElem?_append_right (by rw [h.length]; omega), h.length] at hu
    obtain ⟨u', h1, h2⟩ := k.get hv
    rw [hu] at h1
    cases h1
    exact h2
theorem PRs.drop_take {cs : List PV} {us : List Value} (h : PRs St w cs us) (i n : Nat) : PRs St w ((cs.drop i).take n) ((us.drop i).take n) := by
  refine PRs.of_get (by simp [h.length]) fun j v u hv hu => ?_
  rw [List.getElem?_take] at hv hu
  split at hv
  · rename_i hj
    rw [if_pos hj] at hu
    rw [List.getElem?_drop] at hv hu
    obtain ⟨u', h1, h2⟩ := h.get hv
    rw [hu] at h1
    cases h1
    exact h2
  · cases hv
theorem VRs.drop_take {cs : List AV} {us : List Value} (h : VRs g m St w cs us) (i n : Nat) : VRs g m St w ((cs.drop i).take n) ((us.drop i).take n) := by
  refine VRs.of_get (by simp [h.length]) fun j v u hv hu => ?_
  rw [List.getElem?_take] at hv hu
  split at hv
  · rename_i hj
    rw [if_pos hj] at hu
    rw [List.getElem?_drop] at hv hu
    obtain ⟨u', h1, h2⟩ := h.get hv
    rw [hu] at h1
    cases h1
    exact h2
  · cases hv
theorem VRs.drop {cs : List AV} {us : List Value} (h : VRs g m St w cs us) (i : Nat) : VRs g m St w (cs.drop i) (us.drop i) := by
  have := h.drop_take i (cs.drop i).length
  rw [List.take_length] at this
  rwa [show (cs.drop i).length = (us.drop i).length by simp [h.length], List.take_length] at this
theorem VRs.take {cs : List AV} {us : List Value} (h : VRs g m St w cs us) (n : Nat) : VRs g m St w (cs.take n) (us.take n) := by
  simpa using h.drop_take 0 n
theorem VRs.over {cs vs : List AV} {us xs : List Value} (h : VRs g m St w cs us) (k : VRs g m St w vs xs) (off : Nat) : VRs g m St w (over cs off vs) (over us off xs) := by
  unfold Gv.over
  rw [k.length]
  exact (h.take off).append (k.append (h.drop _))
theorem VRs.of_p {vs : List PV} {us : List Value} (h : PRs St w vs us) : VRs g m St w (vs.map .p) us := by
  refine VRs.of_get (by simp [h.length]) fun i v u hv hu => ?_
  rw [List.getElem?_map] at hv
  cases hc : vs[i]? with
  | none => simp [hc] at hv
  | some x =>
    simp [hc] at hv
    subst hv
    obtain ⟨u', h1, h2⟩ := h.get hc
    rw [hu] at h1
    cases h1
    simpa [VR] using h2
theorem ps_spec : ∀ {cs : List AV} {vs : List PV}, ps? cs = some vs → cs = vs.map .p
  | [], vs, h => by simp [ps?] at h; subst h; rfl
  | c :: cs, vs, h => by
    cases c <;> simp [ps?] at h
    rename_i v
    split at h
    · rename_i xs hx
      simp at h
      subst h
      simp [ps_spec hx]
    · cases h
theorem PRs.of_map_p : ∀ {vs : List PV} {us : List Value}, VRs g m St w (vs.map .p) us → PRs St w vs us
  | [], us, h => by simpa [VRs, PRs] using h
  | v :: vs, us, h => by
    simp only [List.map_cons, VRs, VR] at h
    obtain ⟨x, xs, rfl, h1, h2⟩ := h
    simp only [PRs]
    exact ⟨x, xs, rfl, h1, PRs.of_map_p h2⟩
theorem VR.mkAgg {cs : List AV} {us : List Value} (h : VRs g m St w cs us) : VR g m St w (mkAgg cs) (.agg us.toArray) := by
  unfold Gv.mkAgg
  split
  · rename_i vs hvs
    have := ps_spec hvs
    subst this
    simp only [VR, PR]
    exact ⟨us, rfl, PRs.of_map_p h⟩
  · simp only [VR]
    exact ⟨us, rfl, h⟩
end
mutual
theorem pureA_spec {g : G} {m : List Blk} {St : Nat → Nat → Prop} {w : World} : ∀ (v : AV) (x : PV) (u : Value), pureA v = some x → VR g m St w v u → PR St w x u
  | .p v, x, u, h, hv => by simp [pureA] at h; subst h; simpa [VR] using hv
  | .nilS, x, u, h, hv => by
    simp [pureA] at h; subst h
    simp only [VR] at hv
    subst hv
    simp only [PR, PRs]
    exact ⟨none, 0, [], rfl, rfl, Nat.le_refl _, .inl ⟨trivial, rfl⟩⟩
  | .lit n sz cs, x, u, h, hv => by
    simp [pureA] at h; subst h
    simp only [VR] at hv
    obtain ⟨q, us, rfl, h1, _, h3⟩ := hv
    simp only [PR]
    exact ⟨_, n, us, rfl, h1, Nat.le_refl _, .inr ⟨_, rfl, h3⟩⟩
  | .app b n sz cs, x, u, h, hv => by
    simp [pureA] at h; subst h
    simp only [VR] at hv
    obtain ⟨q, cap, us, rfl, hc, h1, _, h3, _⟩ := hv
    simp only [PR]
    exact ⟨_, cap, us, rfl, h1, hc, .inr ⟨_, rfl, h3⟩⟩
  | .agg cs, x, u, h, hv => by
    simp only [pureA] at h
    split at h
    · rename_i vs hvs
      simp at h; subst h
      simp only [VR] at hv
      obtain ⟨us, rfl, h1⟩ := hv
      simp only [PR]
      exact ⟨us, rfl, pureAs_spec cs vs us hvs h1⟩
    · cases h
  | .clo f caps, x, u, h, hv => by
    simp only [pureA] at h
    split at h
    · rename_i vs hvs
      simp at h; subst h
      simp only [VR] at hv
      obtain ⟨us, rfl, h1⟩ := hv
      simp only [PR]
      exact ⟨us, rfl, pureAs_spec caps vs us hvs h1⟩
    · cases h
  | .loc _ _, _, _, h, _ => by simp [pureA] at h
  | .msl _ _ _ _, _, _, h, _ => by simp [pureA] at h
  | .undef, _, _, h, _ => by simp [pureA] at h
  | .bad, _, _, h, _ => by simp [pureA] at h
  | .yv, _, _, h, _ => by simp [pureA] at h
  | .vap _ _ _, _, _, h, _ => by simp [pureA] at h
  | .vlc _ _ _, _, _, h, _ => by simp [pureA] at h
theorem pureAs_spec {g : G} {m : List Blk} {St : Nat → Nat → Prop} {w : World} : ∀ (vs : List AV) (xs : List PV) (us : List Value), pureAs vs = some xs → VRs g m St w vs us → PRs St w xs us
  | [], xs, us, h, hv => by simp [pureAs] at h; subst h; simpa [VRs, PRs] using hv
  | v :: vs, xs, us, h, hv => by
    simp only [pureAs] at h
    split at h
    · rename_i y ys hy hys
      simp at h; subst h
      simp only [VRs] at hv
      obtain ⟨z, zs, rfl, h1, h2⟩ := hv
      simp only [PRs]
      exact ⟨z, zs, rfl, pureA_spec v y z hy h1, pureAs_spec vs ys zs hys h2⟩
    · cases h
end
end Gv
