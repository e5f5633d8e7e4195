/- Literals: structs, arrays, slices. -/
import Derived.Test.YtfhgjanheaocaaaGvF
namespace Gv
open Go Go.RowKit
variable {P : Program} {g : G} {m : List Blk} {St : Nat → Nat → Prop} {w : World} {call : CallT}
theorem const_sound {v : Value} {x : AV} (h : constA v = some x) : VR g m St w x v := by
  unfold constA at h
  split at h <;> simp at h <;> subst h <;> simp [VR, PR]
theorem consts_sound : ∀ {l : List Value} {xs : List AV}, constAs l = some xs → VRs g m St w xs l
  | [], xs, h => by simp [constAs] at h; subst h; simp [VRs]
  | v :: l, xs, h => by
    simp only [constAs] at h
    split at h
    · rename_i y ys hy hys
      simp at h; subst h
      simp only [VRs]
      exact ⟨v, l, rfl, const_sound hy, consts_sound hys⟩
    · cases h
theorem cellsOf_sound {v : AV} {u : Value} (h : VR g m St w v u) (hc : (cellsOf v).all isCell = true) : VRs g m St w (cellsOf v) u.cells.toList ∧ ∀ x ∈ u.cells.toList, x.oneCell' = true := by
  have one : ∀ (v : AV) (u : Value), VR g m St w v u → isCell v = true → u.cells = #[u] ∧ u.oneCell' = true := by
    intro v u h hc
    cases v <;> simp only [isCell] at hc <;> try (cases hc; done)
    · rename_i pv
      cases pv <;> simp only [VR, PR] at h <;> try (simp at hc; done)
      · subst h; exact ⟨rfl, rfl⟩
      · subst h; exact ⟨rfl, rfl⟩
      · subst h; exact ⟨rfl, rfl⟩
      · obtain ⟨_, _, _, rfl, _⟩ := h; exact ⟨rfl, rfl⟩
      · obtain ⟨_, _, rfl, _⟩ := h; exact ⟨rfl, rfl⟩
      · obtain ⟨_, rfl, _⟩ := h; exact ⟨rfl, rfl⟩
      · subst h; exact ⟨rfl, rfl⟩
      · subst h; exact ⟨rfl, rfl⟩
    · simp only [VR] at h; subst h; exact ⟨rfl, rfl⟩
    · simp only [VR] at h; obtain ⟨_, rfl⟩ := h; exact ⟨rfl, rfl⟩
    · simp only [VR] at h; obtain ⟨_, _, rfl, _⟩ := h; exact ⟨rfl, rfl⟩
    · simp only [VR] at h; obtain ⟨_, _, rfl, _⟩ := h; exact ⟨rfl, rfl⟩
    · simp only [VR] at h; obtain ⟨_, _, _, rfl, _⟩ := h; exact ⟨rfl, rfl⟩
    · simp only [VR] at h; obtain ⟨_, rfl, _⟩ := h; exact ⟨rfl, rfl⟩
    · simp only [VR] at h; obtain ⟨_, _, rfl, _⟩ := h; exact ⟨rfl, rfl⟩
    · simp only [VR] at h; obtain ⟨_, rfl, _⟩ := h; exact ⟨rfl, rfl⟩
  have all : ∀ (cs : List AV) (us : List Value), VRs g m St w cs us → cs.all isCell = true → ∀ x ∈ us, x.oneCell' = true := by
    intro cs
    induction cs with
    | nil => intro us h _; simp only [VRs] at h; subst h; simp
    | cons c cs ih =>
      intro us h hc
      simp only [VRs] at h
      obtain ⟨x, xs, rfl, h1, h2⟩ := h
      simp only [List.all_cons, Bool.and_eq_true] at hc
      intro y hy
      simp only [List.mem_cons] at hy
      rcases hy with rfl | hy
      · exact (one _ _ h1 hc.1).2
      · exact ih xs h2 hc.2 y hy
  have single : cellsOf v = [v] → VRs g m St w (cellsOf v) u.cells.toList ∧ ∀ x ∈ u.cells.toList, x.oneCell' = true := by
    intro e
    rw [e] at hc ⊢
    simp at hc
    obtain ⟨h1, h2⟩ := one v u h hc
    rw [h1]
    refine ⟨by simp only [VRs]; exact ⟨u, [], rfl, h, rfl⟩, by simp [h2]⟩
  cases v <;> try exact single rfl
  · rename_i pv
    cases pv <;> try exact single rfl
    rename_i cs
    simp only [cellsOf] at hc ⊢
    simp only [VR, PR] at h
    obtain ⟨us, rfl, h⟩ := h
    have hv : VRs g m St w (cs.map .p) us := VRs.of_p h
    exact ⟨by simpa [Value.cells] using hv, by simpa [Value.cells] using all _ _ hv hc⟩
  · rename_i cs
    simp only [cellsOf] at hc ⊢
    simp only [VR] at h
    obtain ⟨us, rfl, h⟩ := h
    exact ⟨by simpa [Value.cells] using h, by simpa [Value.cells] using all _ _ h hc⟩
theorem fold_get (off : Nat) : ∀ (l : List Value) (k : Nat) (cs : Array Value) (i : Nat), off + k + l.length ≤ cs.size →
    ((l.zipIdx k).foldl (fun (cs : Array Value) (x : Value × Nat) => cs.setIfInBounds (off + x.2) x.1) cs)[i]? = if off + k ≤ i ∧ i < off + k + l.length then l[i - (off + k)]? else cs[i]?
  | [], k, cs, i, _ => by simp; intro h1 h2; omega
  | v :: l, k, cs, i, h => by
    simp only [List.length_cons] at h
    simp only [List.zipIdx_cons, List.foldl_cons]
    rw [fold_get off l (k + 1) _ i (by simp; omega)]
    by_cases h1 : off + (k + 1) ≤ i ∧ i < off + (k + 1) + l.length
    · rw [if_pos h1, if_pos ⟨by omega, by simp; omega⟩]
      rw [show i - (off + k) = (i - (off + (k + 1))) + 1 by omega, List.getElem?_cons_succ]
    · rw [if_neg h1]
      by_cases h2 : i = off + k
      · subst h2
        rw [if_pos ⟨by omega, by simp⟩]
        have hlt : off + k < cs.size := by omega
        simp [hlt]
      · rw [if_neg (by simp only [List.length_cons]; omega)]
        rw [Array.getElem?_setIfInBounds_ne (by omega)]
theorem fold_over (vs : Array Value) (cs : Array Value) (off : Nat) (h : off + vs.size ≤ cs.size) :
    (vs.zipIdx.foldl (fun (cs : Array Value) (x : Value × Nat) => cs.setIfInBounds (off + x.2) x.1) cs).toList = over cs.toList off vs.toList := by
  apply List.ext_getElem?
  intro i
  rw [← Array.foldl_toList, Array.toList_zipIdx, Array.getElem?_toList, fold_get off vs.toList 0 cs i (by simpa using h)]
  unfold Gv.over
  simp only [Nat.add_zero, Array.length_toList]
  by_cases h1 : off ≤ i
  · rw [List.getElem?_append_right (by simp; omega)]
    simp only [List.length_take, Array.length_toList]
    rw [Nat.min_eq_left (by omega)]
    by_cases h2 : i < off + vs.size
    · rw [if_pos ⟨h1, h2⟩, List.getElem?_append_left (by simp; omega)]
    · rw [if_neg (fun hh => h2 hh.2), List.getElem?_append_right (by simp; omega), List.getElem?_drop]
      simp only [Array.length_toList]
      rw [show off + vs.size + (i - off - vs.size) = i by omega, Array.getElem?_toList]
  · rw [if_neg (fun hh => h1 hh.1), List.getElem?_append_left (by simp; omega), List.getElem?_take, if_pos (by omega), Array.getElem?_toList]
theorem fill_step {place : Nat → Option (Nat × Nat)} {cells : Array Value} {i off sz : Nat} {v : Value} {rest : List (Nat × Value)} (hp : place i = some (off, sz)) (hs : v.cells.size = sz) (hl : off + sz ≤ cells.size) :
    ∃ cells' : Array Value, Instr.fill place cells ((i, v) :: rest) = Instr.fill place cells' rest ∧ cells'.toList = over cells.toList off v.cells.toList ∧ cells'.size = cells.size := by
  refine ⟨_, ?_, fold_over v.cells cells off (by omega), ?_⟩
  · rw [Instr.fill]
    simp only [hp]
    rw [if_neg (by simp [hs]; omega)]
  · have := congrArg List.length (fold_over v.cells cells off (by omega))
    simp only [Array.length_toList] at this
    rw [this]
    unfold Gv.over
    simp
    omega
theorem lay_sound {ρ : Operand → Value} {place : Nat → Option (Nat × Nat)} : ∀ (parts : List (Nat × Operand)) (pl : List (Nat × Nat)) (z z' vs : List AV) (uz : Array Value),
    (∀ (j i : Nat) (p : Nat × Nat), (parts.map (·.1))[j]? = some i → pl[j]? = some p → place i = some p) → lay z pl vs = some z' → VRs g m St w z uz.toList → VRs g m St w vs (parts.map fun x => ρ x.2) →
    ∃ uz' : Array Value, Instr.fill place uz (parts.map fun x => (x.1, ρ x.2)) = some uz' ∧ VRs g m St w z' uz'.toList
  | [], pl, z, z', vs, uz, hp, h, hz, hv => by
    simp only [List.map_nil] at hv
    cases vs with
    | cons _ _ => simp only [VRs] at hv; obtain ⟨_, _, h0, _⟩ := hv; cases h0
    | nil =>
      cases pl with
      | cons _ _ => simp [lay] at h
      | nil =>
        simp [lay] at h
        subst h
        exact ⟨uz, by simp [Instr.fill], hz⟩
  | (i, x) :: parts, pl, z, z', vs, uz, hp, h, hz, hv => by
    simp only [List.map_cons] at hv
    cases vs with
    | nil => simp only [VRs] at hv; cases hv
    | cons v vs =>
      simp only [VRs] at hv
      obtain ⟨u, us, he, hv1, hv2⟩ := hv
      simp only [List.cons.injEq] at he
      obtain ⟨rfl, rfl⟩ := he
      cases pl with
      | nil => simp [lay] at h
      | cons p pl =>
        obtain ⟨off, sz⟩ := p
        simp only [lay] at h
        split at h
        · rename_i hc
          obtain ⟨h1, h2, h3⟩ := hc
          obtain ⟨k1, _⟩ := cellsOf_sound hv1 h3
          have hsz : (ρ x).cells.size = sz := by have := k1.length; simp at this; omega
          have hzl : uz.size = z.length := by have := hz.length; simpa using this
          obtain ⟨uz1, f1, f2, f3⟩ := fill_step (rest := parts.map fun x => (x.1, ρ x.2)) (cells := uz) (hp 0 i (off, sz) rfl rfl) hsz (by omega)
          have hz1 : VRs g m St w (over z off (cellsOf v)) uz1.toList := by rw [f2]; exact hz.over k1 off
          obtain ⟨uz', r1, r2⟩ := lay_sound parts pl _ z' vs uz1 (fun j i p hj hp' => hp (j + 1) i p (by simpa using hj) (by simpa using hp')) h hz1 hv2
          exact ⟨uz', by simp only [List.map_cons]; rw [f1]; exact r1, r2⟩
        · cases h
theorem places_get {t : TypeId} : ∀ {l : List Nat} {pl : List (Nat × Nat)}, placesT P t l = some pl → ∀ (j i : Nat) (p : Nat × Nat), l[j]? = some i → pl[j]? = some p → placeT P t i = some p
  | [], pl, h, j, i, p, hj, _ => by simp at hj
  | a :: l, pl, h, j, i, p, hj, hp => by
    simp only [placesT] at h
    split at h
    · rename_i x xs hx hxs
      simp at h; subst h
      cases j with
      | zero => simp at hj hp; subst hj; subst hp; exact hx
      | succ j => exact places_get hxs j i p (by simpa using hj) (by simpa using hp)
    · cases h
theorem szT_info {t : TypeId} {n : Nat} (h : szT P t = some n) : ∃ i, P.info? t = some i ∧ i.size = n := by
  unfold szT at h
  split at h
  · rename_i i hi
    simp at h
    exact ⟨i, hi, h⟩
  · cases h
theorem sized_fields : ∀ (fs : List Field), (fs.all fun f => (szT P f.type).isSome) = true →
    ∃ places : List (Nat × Nat), fs.mapM (fun f => (P.info? f.type).map fun i => (f.offset, i.size)) = some places ∧
      ∀ (i : Nat) (f : Field) (n : Nat), fs[i]? = some f → szT P f.type = some n → places[i]? = some (f.offset, n)
  | [], _ => ⟨[], by simp, fun i f n h => by simp at h⟩
  | f :: fs, h => by
    simp only [List.all_cons, Bool.and_eq_true] at h
    obtain ⟨places, h1, h2⟩ := sized_fields fs h.2
    obtain ⟨n, hn⟩ := Option.isSome_iff_exists.1 h.1
    obtain ⟨i, hi, his⟩ := szT_info hn
    refine ⟨(f.offset, n) :: places, by simp [List.mapM_cons, hi, h1, his], fun j f' n' hj hn' => ?_⟩
    cases j with
    | zero =>
      simp at hj
      subst hj
      rw [hn] at hn'
      simp at hn'
      simp [hn']
    | succ j => simpa using h2 j f' n' (by simpa using hj) hn'
theorem zero_info {t : TypeId} {z : List AV} (h : zeroT P t = some z) : ∃ i zv, P.info? t = some i ∧ i.zero = some zv ∧ constAs zv.cells.toList = some z := by
  unfold zeroT at h
  split at h
  · rename_i i hi
    split at h
    · rename_i zv hz
      exact ⟨i, zv, hi, hz, h⟩
    · cases h
  · cases h
theorem build_sound {ρ : Operand → Value} {t : TypeId} {parts : Array (Nat × Operand)} {z : List AV} {pl : List (Nat × Nat)} {vs : List AV} {v : AV} (hz : zeroT P t = some z) (hpl : placesT P t (parts.toList.map (·.1)) = some pl) (hok : partsOK P t = true)
    (h : runL call (.build z pl) vs = some v) (hv : VRs g m St w vs (parts.toList.map fun x => ρ x.2)) :
    ∃ u, (Instr.build t (parts.map fun (i, x) => (i, ρ x))).run P w = .ok u w ∧ VR g m St w v u := by
  have h : (lay z pl vs).map mkAgg = some v := by
    unfold runL at h
    exact h
  cases hl : lay z pl vs with
  | none => simp [hl] at h
  | some z' =>
    simp [hl] at h
    subst h
    obtain ⟨it, zv, hi, hzv, hcs⟩ := zero_info hz
    have hz0 : VRs g m St w z zv.cells.toList := consts_sound hcs
    have key : ∀ place : Nat → Option (Nat × Nat), (∀ i p, placeT P t i = some p → place i = some p) → ∃ uz' : Array Value, Instr.fill place zv.cells (parts.toList.map fun x => (x.1, ρ x.2)) = some uz' ∧ VRs g m St w z' uz'.toList := by
      intro place hp
      exact lay_sound parts.toList pl z z' vs zv.cells (fun j i p hj hpj => hp i p (places_get hpl j i p hj hpj)) hl hz0 hv
    have hlist : (parts.map fun (i, x) => (i, ρ x)).toList = parts.toList.map fun x => (x.1, ρ x.2) := by simp
    unfold partsOK at hok
    split at hok
    · rename_i fs hu
      obtain ⟨places, p1, p2⟩ := sized_fields fs.toList hok
      obtain ⟨uz', f1, f2⟩ := key (fun i => places.toArray[i]?) (fun i p hp => by
        unfold placeT at hp
        simp only [hu] at hp
        split at hp
        · rename_i f hf
          split at hp
          · rename_i n hn
            simp at hp
            subst hp
            simpa using p2 i f n (by simpa using hf) hn
          · cases hp
        · cases hp)
      refine ⟨.agg uz', run_build w t _ uz' ?_, ?_⟩
      · unfold Program.built
        simp only [hi, hu, hzv, p1]
        rw [hlist]
        exact f1
      · have := VR.mkAgg f2
        simpa using this
    · rename_i n e hu
      obtain ⟨k, hk⟩ := Option.isSome_iff_exists.1 hok
      obtain ⟨ie, hie, hies⟩ := szT_info hk
      obtain ⟨uz', f1, f2⟩ := key (fun i => some (i * ie.size, ie.size)) (fun i p hp => by
        unfold placeT at hp
        simp only [hu, hk] at hp
        simp at hp
        rw [hies]
        simp [hp])
      refine ⟨.agg uz', run_build w t _ uz' ?_, ?_⟩
      · unfold Program.built
        simp only [hi, hu, hzv, hie]
        rw [hlist]
        exact f1
      · have := VR.mkAgg f2
        simpa using this
    · cases hok
theorem pcells_sound {v : PV} {u : Value} (h : PR St w v u) (hc : (pcells v).all isCellP = true) : PRs St w (pcells v) u.cells.toList ∧ ∀ x ∈ u.cells.toList, x.oneCell' = true := by
  have one : ∀ (v : PV) (u : Value), PR St w v u → isCellP v = true → u.cells = #[u] ∧ u.oneCell' = true := by
    intro v u h hc
    cases v <;> simp only [PR] at h <;> try (simp [isCellP] at hc; done)
    · subst h; exact ⟨rfl, rfl⟩
    · subst h; exact ⟨rfl, rfl⟩
    · subst h; exact ⟨rfl, rfl⟩
    · obtain ⟨_, _, _, rfl, _⟩ := h; exact ⟨rfl, rfl⟩
    · obtain ⟨_, _, rfl, _⟩ := h; exact ⟨rfl, rfl⟩
    · obtain ⟨_, rfl, _⟩ := h; exact ⟨rfl, rfl⟩
    · subst h; exact ⟨rfl, rfl⟩
    · subst h; exact ⟨rfl, rfl⟩
  have all : ∀ (cs : List PV) (us : List Value), PRs St w cs us → cs.all isCellP = true → ∀ x ∈ us, x.oneCell' = true := by
    intro cs
    induction cs with
    | nil => intro us h _; simp only [PRs] at h; subst h; simp
    | cons c cs ih =>
      intro us h hc
      simp only [PRs] at h
      obtain ⟨x, xs, rfl, h1, h2⟩ := h
      simp only [List.all_cons, Bool.and_eq_true] at hc
      intro y hy
      simp only [List.mem_cons] at hy
      rcases hy with rfl | hy
      · exact (one _ _ h1 hc.1).2
      · exact ih xs h2 hc.2 y hy
  have single : pcells v = [v] → PRs St w (pcells v) u.cells.toList ∧ ∀ x ∈ u.cells.toList, x.oneCell' = true := by
    intro e
    rw [e] at hc ⊢
    simp at hc
    obtain ⟨h1, h2⟩ := one v u h hc
    rw [h1]
    refine ⟨by simp only [PRs]; exact ⟨u, [], rfl, h, rfl⟩, by simp [h2]⟩
  cases v <;> try exact single rfl
  rename_i cs
  simp only [pcells] at hc ⊢
  simp only [PR] at h
  obtain ⟨us, rfl, h⟩ := h
  exact ⟨by simpa [Value.cells] using h, by simpa [Value.cells] using all _ _ h hc⟩
theorem PRs.over {cs vs : List PV} {us xs : List Value} (h : PRs St w cs us) (k : PRs St w vs xs) (off : Nat) : PRs St w (over cs off vs) (over us off xs) := by
  unfold Gv.over
  rw [k.length]
  have h1 : PRs St w (cs.take off) (us.take off) := by simpa using h.drop_take 0 off
  have h2 : PRs St w (cs.drop (off + vs.length)) (us.drop (off + vs.length)) := by
    have := h.drop_take (off + vs.length) (cs.drop (off + vs.length)).length
    rw [List.take_length] at this
    rwa [show (cs.drop (off + vs.length)).length = (us.drop (off + vs.length)).length by simp [h.length], List.take_length] at this
  exact h1.append (k.append h2)
theorem over_mem {α : Type} {cs vs : List α} {off : Nat} {x : α} (h : x ∈ over cs off vs) : x ∈ cs ∨ x ∈ vs := by
  unfold Gv.over at h
  simp only [List.mem_append] at h
  rcases h with h | h | h
  · exact .inl (List.mem_of_mem_take h)
  · exact .inr h
  · exact .inl (List.mem_of_mem_drop h)
theorem layP_sound {ρ : Operand → Value} {sz : Nat} : ∀ (parts : List (Nat × Operand)) (z z' vs : List PV) (uz : Array Value),
    layP sz z (parts.map fun p => p.1 * sz) vs = some z' → PRs St w z uz.toList → PRs St w vs (parts.map fun x => ρ x.2) → (∀ x ∈ uz.toList, x.oneCell' = true) →
    ∃ uz' : Array Value, Instr.fill (fun i => some (i * sz, sz)) uz (parts.map fun x => (x.1, ρ x.2)) = some uz' ∧ PRs St w z' uz'.toList ∧ (∀ x ∈ uz'.toList, x.oneCell' = true) ∧ uz'.size = uz.size
  | [], z, z', vs, uz, h, hz, hv, ho => by
    simp only [List.map_nil] at hv
    cases vs with
    | cons _ _ => simp only [PRs] at hv; obtain ⟨_, _, h0, _⟩ := hv; cases h0
    | nil =>
      simp [layP] at h
      subst h
      exact ⟨uz, by simp [Instr.fill], hz, ho, rfl⟩
  | (i, x) :: parts, z, z', vs, uz, h, hz, hv, ho => by
    simp only [List.map_cons] at hv h
    cases vs with
    | nil => simp only [PRs] at hv; cases hv
    | cons v vs =>
      simp only [PRs] at hv
      obtain ⟨u, us, he, hv1, hv2⟩ := hv
      simp only [List.cons.injEq] at he
      obtain ⟨rfl, rfl⟩ := he
      simp only [layP] at h
      split at h
      · rename_i hc
        obtain ⟨h1, h2, h3⟩ := hc
        obtain ⟨k1, kone⟩ := pcells_sound hv1 h3
        have hsz : (ρ x).cells.size = sz := by have := k1.length; simp at this; omega
        have hzl : uz.size = z.length := by have := hz.length; simpa using this
        obtain ⟨uz1, f1, f2, f3⟩ := fill_step (place := fun i => some (i * sz, sz)) (rest := parts.map fun x => (x.1, ρ x.2)) (cells := uz) (i := i) rfl hsz (by omega)
        have hz1 : PRs St w (over z (i * sz) (pcells v)) uz1.toList := by rw [f2]; exact hz.over k1 _
        obtain ⟨uz', r1, r2, r3, r4⟩ := layP_sound parts _ z' vs uz1 h hz1 hv2 (fun y hy => by
          rw [f2] at hy
          rcases over_mem hy with hy | hy
          · exact ho y hy
          · exact kone y hy)
        exact ⟨uz', by simp only [List.map_cons]; rw [f1]; exact r1, r2, r3, r4.trans f3⟩
      · cases h
theorem rep_get {α : Type} (z : List α) (h0 : 0 < z.length) : ∀ (n i : Nat), i < n * z.length → (rep z n)[i]? = z[i % z.length]?
  | 0, i, h => by simp at h
  | n + 1, i, h => by
    simp only [rep]
    by_cases hi : i < z.length
    · rw [List.getElem?_append_left hi, Nat.mod_eq_of_lt hi]
    · have h' : i - z.length < n * z.length := by rw [Nat.add_mul, Nat.one_mul] at h; omega
      rw [List.getElem?_append_right (by omega), rep_get z h0 n _ h']
      congr 1
      rw [Nat.mod_eq_sub_mod (by omega : z.length ≤ i)]
theorem rep_length {α : Type} (z : List α) : ∀ n, (rep z n).length = n * z.length
  | 0 => by simp [rep]
  | n + 1 => by simp [rep, rep_length z n, Nat.add_mul]; omega
theorem made_one {uz : Array Value} {n : Nat} (h0 : 0 < uz.size) (h : ∀ x ∈ uz.toList, x.oneCell' = true) : ∀ x ∈ (madeCells uz n).toList, x.oneCell' = true := by
  intro x hx
  unfold madeCells at hx
  simp only [Array.toList_map, List.mem_map] at hx
  obtain ⟨i, _, rfl⟩ := hx
  have hm : i % uz.size < uz.size := Nat.mod_lt _ h0
  rw [getElem!_pos uz _ hm]
  exact h _ (by simp)
theorem rep_sound {z : List PV} {uz : Array Value} (h : PRs St w z uz.toList) (h0 : 0 < z.length) (n : Nat) : PRs St w (rep z n) (madeCells uz (n * z.length)).toList := by
  have hl : uz.size = z.length := by have := h.length; simpa using this
  refine PRs.of_get (by simp [size_madeCells, rep_length]) fun i v u hv hu => ?_
  have hi : i < n * z.length := by
    have := (List.getElem?_eq_some_iff.1 hv).1
    rwa [rep_length] at this
  rw [rep_get z h0 n i hi] at hv
  obtain ⟨u', h1, h2⟩ := h.get hv
  have hm : i % z.length < uz.size := by rw [hl]; exact Nat.mod_lt _ h0
  have : u = u' := by
    have e1 : (madeCells uz (n * z.length))[i]? = some (uz[i % uz.size]!) := by
      unfold madeCells
      simp [hi]
    rw [Array.getElem?_toList, e1] at hu
    simp at hu
    rw [hl] at hu
    rw [Array.getElem?_toList, Array.getElem?_eq_getElem hm] at h1
    simp at h1
    rw [getElem!_pos uz (i % z.length) hm] at hu
    rw [← hu, ← h1]
  rw [this]
  exact h2
theorem consts_one : ∀ {l : List Value} {xs : List AV}, constAs l = some xs → ∀ x ∈ l, x.oneCell' = true
  | [], _, _ => by simp
  | v :: l, xs, h => by
    simp only [constAs] at h
    split at h
    · rename_i y ys hy hys
      intro x hx
      simp only [List.mem_cons] at hx
      rcases hx with rfl | hx
      · unfold constA at hy
        split at hy <;> first | rfl | (cases hy; done)
      · exact consts_one hys x hx
    · cases h
theorem zeroP_info {t : TypeId} {z : List PV} (h : zeroP P t = some z) : ∃ i zv, P.info? t = some i ∧ i.zero = some zv ∧ PRs St w z zv.cells.toList ∧ ∀ x ∈ zv.cells.toList, x.oneCell' = true := by
  unfold zeroP at h
  split at h
  · rename_i za hza
    obtain ⟨i, zv, h1, h2, h3⟩ := zero_info hza
    exact ⟨i, zv, h1, h2, pureAs_spec (g := ⟨id, id, id, 0, 0, none, fun _ => none⟩) (m := []) za z _ h (consts_sound h3), consts_one h3⟩
  · cases h
end Gv
