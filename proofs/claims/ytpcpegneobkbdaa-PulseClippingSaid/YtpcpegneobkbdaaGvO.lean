/- Regions: operations one after another, in the order of the text or in any order that the region allows. -/
import Derived.Test.YtpcpegneobkbdaaGvN
namespace Gv
open Go Go.RowKit

variable {P : Program} {B0 : Nat} {St0 : Nat → Nat → Prop} {w0 : World} {call : Nat → List PV → Option RV}

def FR (B0 : Nat) (St0 : Nat → Nat → Prop) (w0 : World) (s : S) (a : Act) (w : World) : Prop :=
  a.defers = [] ∧ ∃ g St, MemOK B0 St0 w0 g St s.m w ∧ VRs g s.m St w s.t a.tmps.toList

theorem put_sound {g : G} {m : List Blk} {St : Nat → Nat → Prop} {w : World} {t : List AV} {a : Act} {d : Option Nat} {v : AV} {u : Value} (ht : VRs g m St w t a.tmps.toList) (hv : VR g m St w v u) :
    VRs g m St w (put t d v) (a.put d u).tmps.toList := by
  cases d with
  | none => exact ht
  | some d =>
    simp only [put, Act.put, Array.toList_setIfInBounds]
    exact ht.set hv

theorem put_defers {a : Act} {d : Option Nat} {u : Value} : (a.put d u).defers = a.defers := by cases d <;> rfl

theorem FR.drew {s : S} {a : Act} {w : World} (h : FR B0 St0 w0 s a w) : FR B0 St0 w0 s a w.drew := by
  obtain ⟨hd, g, St, h1, h2⟩ := h
  obtain ⟨k1, k2⟩ := h1.grow (St' := St) (w' := w.drew) (Below.refl _ _).drew (fun _ _ h => h) h1.stLt (fun _ _ h => .inl h)
  exact ⟨hd, g, St, k1, VRs.mono k2 (MExt.refl _ _) _ _ h2⟩

theorem grd_sound {ops : Array Oper} {o : Oper} {gd : Option (Nat × Bool)} {b : Bool} {g : G} {m : List Blk} {St : Nat → Nat → Prop} {w : World} {t : List AV} {a : Act} (hc : grdC ops o.guard = some gd) (ht : VRs g m St w t a.tmps.toList)
    (hg : grd t gd = some b) : Region.wanted o (yielded ops a.tmps) = b := by
  unfold Region.wanted
  cases hog : o.guard with
  | none =>
    rw [hog] at hc
    simp [grdC] at hc
    subst hc
    simp [grd] at hg
    simp [hg]
  | some p =>
    obtain ⟨j, want⟩ := p
    rw [hog] at hc
    simp only [grdC] at hc
    split at hc
    · rename_i oj hoj
      split at hc
      · rename_i d hd
        simp at hc
        subst hc
        simp only [grd] at hg
        split at hg
        · rename_i b' hb'
          obtain ⟨u, h1, h2⟩ := ht.get hb'
          have := h2.bool
          subst this
          simp at hg
          have h3 : a.tmps[d]? = some (.bool b') := by simpa using h1
          simp [yielded, hoj, hd, h3]
          rw [← hg]
        · rename_i hu
          obtain ⟨u, h1, h2⟩ := ht.get hu
          simp only [VR] at h2
          subst h2
          simp at hg
          have h3 : a.tmps[d]? = some undef := by simpa using h1
          simp [yielded, hoj, hd, h3, undef]
          rw [← hg]
        · cases hg
      · cases hc
    · cases hc

theorem opC_parts {ops : Array Oper} {av : List Nat} {o : Oper} {ao : AOp} (h : opC P ops av o = some ao) :
    ∃ k xs gd as, kindC P av o = some (k, xs) ∧ grdC ops o.guard = some gd ∧ argsC xs = some as ∧ ao = { dst := o.dst, grd := gd, args := as, k := k } := by
  unfold opC at h
  split at h
  · rename_i k xs gd hk hg
    split at h
    · rename_i as has
      simp at h
      exact ⟨k, xs, gd, as, hk, hg, has, h.symm⟩
    · cases h
  · cases h

theorem exOp_sound (hcall : CallOK P call) {ops : Array Oper} {av : List Nat} {o : Oper} {ao : AOp} {s s' : S} {a : Act} {w : World} {K : Act → World → Prop} {Q : Exit → Act → World → Prop} (hc : opC P ops av o = some ao) (he : exOp call ao s = some s')
    (h : FR B0 St0 w0 s a w) (hK : ∀ a' w', FR B0 St0 w0 s' a' w' → K a' w') :
    if Region.wanted o (yielded ops a.tmps) = true then o.wp P a w K Q else K (a.put o.dst undef) w := by
  obtain ⟨k, xs, gd, as, hk, hg, has, rfl⟩ := opC_parts hc
  obtain ⟨hd, g, St, h1, h2⟩ := h
  simp only [exOp] at he
  split at he
  · cases he
  · rename_i hgd
    simp at he
    subst he
    rw [grd_sound hg h2 hgd, if_neg (by simp)]
    exact hK _ _ ⟨by rw [put_defers]; exact hd, g, St, h1, put_sound h2 (by simp [VR])⟩
  · rename_i hgd
    rw [grd_sound hg h2 hgd, if_pos rfl]
    split at he
    · rename_i v m' hr
      simp at he
      subst he
      refine op_sound hcall h1 hk (args_sound h2 has) hr fun u w' hs => hK _ _ ?_
      obtain ⟨g', St', s1, s2, s3, s4⟩ := hs
      exact ⟨by rw [put_defers]; exact hd, g', St', s1, put_sound (VRs.mono s2 s3 _ _ h2) s4⟩
    · cases he

theorem list_sound (hcall : CallOK P call) {ops : Array Oper} {av : List Nat} {Q : Exit → Act → World → Prop} {s' : S} (hQ : ∀ a w, FR B0 St0 w0 s' a w → Q .normal a w) :
    ∀ (l : List Oper) (al : List AOp) (s : S) (a : Act) (w : World), opsC P ops av l = some al → exOps call al s = some s' → FR B0 St0 w0 s a w → wpList P ops Q l a w
  | [], al, s, a, w, hc, he, h => by
    simp [opsC] at hc
    subst hc
    simp [exOps] at he
    subst he
    exact hQ a w h
  | o :: l, al, s, a, w, hc, he, h => by
    simp only [opsC] at hc
    split at hc
    · rename_i x xs hx hxs
      simp at hc
      subst hc
      simp only [exOps] at he
      split at he
      · rename_i s1 hs1
        refine wpList_step fun K hK => ?_
        exact exOp_sound hcall hx hs1 h fun a' w' hf => hK a' w' (list_sound hcall hQ l xs s1 a' w' hxs he hf)
      · cases he
    · cases hc

/-! ### Operations that are apart can change places -/

theorem put_get {t : List AV} {d : Option Nat} {v : AV} {i : Nat} (h : ∀ e, d = some e → e ≠ i) : (put t d v)[i]? = t[i]? := by
  cases d with
  | none => rfl
  | some e =>
    simp only [put]
    rw [List.getElem?_set, if_neg (h e rfl)]

theorem get_put {t : List AV} {d : Option Nat} {v : AV} {x : Arg} (h : ∀ e, d = some e → x ≠ .tmp e) : Arg.get (put t d v) x = Arg.get t x := by
  cases x with
  | k _ => rfl
  | tmp i =>
    simp only [Arg.get, List.getD]
    rw [put_get (fun e he hi => h e he (by rw [hi]))]

theorem grd_put {t : List AV} {d : Option Nat} {v : AV} {gd : Option (Nat × Bool)} (h : ∀ e, d = some e → ∀ i b, gd = some (i, b) → e ≠ i) : grd (put t d v) gd = grd t gd := by
  cases gd with
  | none => rfl
  | some p =>
    obtain ⟨i, b⟩ := p
    simp only [grd]
    rw [put_get (fun e he => h e he i b rfl)]

theorem dstApart_spec {x y : AOp} (h : dstApart x y = true) : (∀ e, x.dst = some e → ∀ i b, y.grd = some (i, b) → e ≠ i) ∧ (∀ e, x.dst = some e → ∀ z ∈ y.args, z ≠ .tmp e) ∧ (∀ e, x.dst = some e → y.dst ≠ some e) := by
  unfold dstApart at h
  cases hx : x.dst with
  | none => simp
  | some d =>
    rw [hx] at h
    simp only [Bool.and_eq_true, Bool.not_eq_true', bne_iff_ne, ne_eq] at h
    obtain ⟨h1, h2⟩ := h
    have h1' : d ∉ readsOf y := by simpa using h1
    unfold readsOf at h1'
    simp only [List.mem_append, not_or] at h1'
    refine ⟨fun e he i b hg hei => ?_, fun e he z hz hze => ?_, fun e he => ?_⟩
    · simp at he; subst he; subst hei
      rw [hg] at h1'
      simp at h1'
    · simp at he; subst he; subst hze
      refine h1'.2 (List.mem_filterMap.2 ⟨_, hz, rfl⟩)
    · simp at he; subst he
      exact h2

theorem args_put {t : List AV} {d : Option Nat} {v : AV} {as : List Arg} (h : ∀ e, d = some e → ∀ z ∈ as, z ≠ .tmp e) : as.map (Arg.get (put t d v)) = as.map (Arg.get t) :=
  List.map_congr_left fun z hz => get_put fun e he => h e he z hz

theorem put_comm {t : List AV} {d e : Option Nat} {u v : AV} (h : ∀ x, d = some x → e ≠ some x) : put (put t d u) e v = put (put t e v) d u := by
  cases d with
  | none => rfl
  | some x =>
    cases e with
    | none => rfl
    | some y =>
      simp only [put]
      rw [List.set_comm]
      intro hxy
      exact h x rfl (by rw [hxy])

theorem look_set {av : List Nat} {m : List Blk} {d : Nat} {blk : Blk} (h : av.contains d = true) : lookB av (m.set d blk) = lookB av m := by
  funext b
  unfold lookB
  by_cases hb : av.contains b = true
  · rw [if_pos hb, if_pos hb]
  · rw [if_neg hb, if_neg hb]
    have : b ≠ d := fun e => hb (by rw [e]; exact h)
    rw [set_other this]

/-- Two operations of kinds that are apart, on memory alone. -/
theorem runK_comm {k1 k2 : K} {vs1 vs2 : List AV} {m m1 m2 : List Blk} {v1 v2 : AV} (h : kApart k1 k2 = true) (h1 : runK call k1 vs1 m = some (v1, m1)) (h2 : runK call k2 vs2 m1 = some (v2, m2)) :
    ∃ m1', runK call k2 vs2 m = some (v2, m1') ∧ runK call k1 vs1 m1' = some (v1, m2) := by
  have light1 : ∀ k, k1 = .l k → ∃ m1', runK call k2 vs2 m = some (v2, m1') ∧ runK call k1 vs1 m1' = some (v1, m2) := by
    rintro k rfl
    obtain ⟨r, rfl⟩ := runK_l h1
    exact ⟨m2, h2, by simp [runK, r]⟩
  have light2 : ∀ k, k2 = .l k → ∃ m1', runK call k2 vs2 m = some (v2, m1') ∧ runK call k1 vs1 m1' = some (v1, m2) := by
    rintro k rfl
    obtain ⟨r, rfl⟩ := runK_l h2
    exact ⟨m, by simp [runK, r], h1⟩
  cases k1 with
  | l k => exact light1 k rfl
  | ld av n ag =>
    cases k2 with
    | l k => exact light2 k rfl
    | ld av' n' ag' =>
      obtain ⟨r1, rfl⟩ := runK_ld h1
      obtain ⟨r2, rfl⟩ := runK_ld h2
      exact ⟨m2, h2, h1⟩
    | a d k =>
      simp only [kApart] at h
      obtain ⟨r1, rfl⟩ := runK_ld h1
      obtain ⟨hd, blk, r2, rfl⟩ := runK_a h2
      exact ⟨_, h2, by simp only [runK, look_set h, r1]; rfl⟩
    | s k => simp [kApart] at h
  | a d k =>
    cases k2 with
    | l k => exact light2 k rfl
    | ld av n ag =>
      simp only [kApart] at h
      obtain ⟨hd, blk, r1, rfl⟩ := runK_a h1
      obtain ⟨r2, rfl⟩ := runK_ld h2
      rw [look_set h] at r2
      exact ⟨m, by simp only [runK, r2]; rfl, h1⟩
    | a e k' =>
      simp only [kApart, bne_iff_ne, ne_eq] at h
      obtain ⟨hd, blk, r1, rfl⟩ := runK_a h1
      obtain ⟨he, blk', r2, rfl⟩ := runK_a h2
      rw [set_other (fun e => h e.symm)] at he
      refine ⟨m.set e blk', by simp [runK, he, r2], ?_⟩
      have hd' : (m.set e blk')[d]? = some .none := by rw [set_other h]; exact hd
      simp only [runK, hd', r1]
      simp only [Option.map_some, Option.some.injEq, Prod.mk.injEq, true_and]
      rw [List.set_comm]
      exact fun e => h e.symm
    | s k' => simp [kApart] at h
  | s k =>
    cases k2 with
    | l k => exact light2 k rfl
    | ld _ _ _ => simp [kApart] at h
    | a _ _ => simp [kApart] at h
    | s _ => simp [kApart] at h

theorem exOp_comm {x y : AOp} {s s1 s2 : S} (h : apart x y = true) (h1 : exOp call x s = some s1) (h2 : exOp call y s1 = some s2) : ∃ s1', exOp call y s = some s1' ∧ exOp call x s1' = some s2 := by
  unfold apart at h
  simp only [Bool.and_eq_true] at h
  obtain ⟨⟨hxy, hyx⟩, hk⟩ := h
  obtain ⟨x1, x2, x3⟩ := dstApart_spec hxy
  obtain ⟨y1, y2, y3⟩ := dstApart_spec hyx
  obtain ⟨t, m⟩ := s
  simp only [exOp] at h1
  split at h1
  · cases h1
  · rename_i hg1
    simp at h1
    subst h1
    simp only [exOp, grd_put x1, args_put x2] at h2
    split at h2
    · cases h2
    · rename_i hg2
      simp at h2
      subst h2
      refine ⟨⟨put t y.dst .undef, m⟩, by simp [exOp, hg2], ?_⟩
      simp only [exOp, grd_put y1, hg1]
      rw [put_comm x3]
    · rename_i hg2
      split at h2
      · rename_i v m' hr
        simp at h2
        subst h2
        refine ⟨⟨put t y.dst v, m'⟩, by simp [exOp, hg2, hr], ?_⟩
        simp only [exOp, grd_put y1, hg1]
        rw [put_comm x3]
      · cases h2
  · rename_i hg1
    split at h1
    · rename_i v m' hr
      simp at h1
      subst h1
      simp only [exOp, grd_put x1, args_put x2] at h2
      split at h2
      · cases h2
      · rename_i hg2
        simp at h2
        subst h2
        refine ⟨⟨put t y.dst .undef, m⟩, by simp [exOp, hg2], ?_⟩
        simp only [exOp, grd_put y1, args_put y2, hg1, hr]
        rw [put_comm x3]
      · rename_i hg2
        split at h2
        · rename_i v2 m2 hr2
          simp at h2
          subst h2
          obtain ⟨m1', r1, r2⟩ := runK_comm hk hr hr2
          refine ⟨⟨put t y.dst v2, m1'⟩, by simp [exOp, hg2, r1], ?_⟩
          simp only [exOp, grd_put y1, args_put y2, hg1, r2]
          rw [put_comm x3]
        · cases h2
    · cases h1

theorem exOps_append (l l' : List AOp) (s : S) : exOps call (l ++ l') s = match exOps call l s with
    | some s' => exOps call l' s'
    | none => none := by
  induction l generalizing s with
  | nil => rfl
  | cons o l ih =>
    simp only [List.cons_append, exOps]
    cases exOp call o s with
    | none => rfl
    | some s' => exact ih s'

/-- An operation that is apart from all before it can be the first. -/
theorem exOps_first {x : AOp} {post : List AOp} {s' : S} : ∀ (pre : List AOp) (s : S), (∀ y ∈ pre, apart y x = true) → exOps call (pre ++ x :: post) s = some s' → ∃ s1, exOp call x s = some s1 ∧ exOps call (pre ++ post) s1 = some s'
  | [], s, _, h => by
    simp only [List.nil_append, exOps] at h
    split at h
    · rename_i s1 hs1
      exact ⟨s1, hs1, h⟩
    · cases h
  | y :: pre, s, ha, h => by
    simp only [List.cons_append, exOps] at h
    split at h
    · rename_i s1 hs1
      obtain ⟨s2, k1, k2⟩ := exOps_first pre s1 (fun z hz => ha z (by simp [hz])) h
      obtain ⟨s1', r1, r2⟩ := exOp_comm (ha y (by simp)) hs1 k1
      exact ⟨s1', r1, by simp only [List.cons_append, exOps, r2]; exact k2⟩
    · cases h
end Gv
