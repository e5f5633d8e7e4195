import Derived.Test.YtfhgjanheaocaaaTK
import Derived.Test.YtfhgjanheaocaaaQL4

/- A path from any of its vortices on. -/
namespace Gv
open Go
set_option maxRecDepth 100000
theorem aft_mono_n {a b d : B6} (hd : driE d = 0) (h : InB a b) (ha : Nn a) (hb : Nn b) : ∀ n : Nat, InB (aftV a d n) (aftV b d n)
  | 0 => by
    have e1 : aftV a d ((0 : Nat) : Int) = a := aft_zero ha
    have e2 : aftV b d ((0 : Nat) : Int) = b := aft_zero hb
    rw [e1, e2]
    exact h
  | n + 1 => by
    have ih := aft_mono (d := d) (aft_mono_n hd h ha hb n)
    rw [aft_succ hd (by omega), aft_succ hd (by omega)] at ih
    exact_mod_cast ih
theorem badF_head {d w : B6} {z : Z3} {l : List Z3} {i : Nat} (h : badF d w (z :: l) i = none) : Hd w z ∧ badF d (aftV (boxV z) d 1) l (i + 1) = none := by
  unfold badF at h
  split at h
  · rename_i hz
    exact ⟨hz, h⟩
  · cases h
theorem badF_step {d : B6} : ∀ (l : List Z3) (w : B6) (i : Nat), badF d w l i = none → ∀ (j : Nat) (u v : Z3), l[j]? = some u → l[j + 1]? = some v → Hd (aftV (boxV u) d 1) v
  | [], _, _, _, j, u, v, hu, _ => by simp at hu
  | z :: l, w, i, h, j, u, v, hu, hv => by
    obtain ⟨_, h2⟩ := badF_head h
    cases j with
    | zero =>
      simp only [List.getElem?_cons_zero, Option.some.injEq] at hu
      subst hu
      rw [List.getElem?_cons_succ] at hv
      match l, hv, h2 with
      | [], hv, _ => simp at hv
      | y :: l, hv, h2 =>
        simp only [List.getElem?_cons_zero, Option.some.injEq] at hv
        subst hv
        exact (badF_head h2).1
    | succ j =>
      rw [List.getElem?_cons_succ] at hu hv
      exact badF_step l _ _ h2 j u v hu hv
theorem path_none {b d : B6} (hb : boxE b = 0) (hd : driE d = 0) {l : List Z3} (h0 : l.length ≠ 0) (h : (pathE b d l).2 = 0) : badF d b l 0 = none := by
  unfold pathE at h
  rw [if_neg (by simp [both, hb, hd]), if_neg h0] at h
  split at h
  · cases h
  · unfold pathV at h
    split at h
    · cases h
    · assumption
theorem path_from {d : B6} (hd : driE d = 0) {l : List Z3} {b : B6} (hn : badF d b l 0 = none) {w : B6} (hw : Nn w) {t : Nat} {u : Z3} (hu : l[t]? = some u) (h : Hd w u) : ∀ (k : Nat) (v : Z3), l[t + k]? = some v → Hd (aftV w d k) v
  | 0, v, hv => by
    have e1 : aftV w d ((0 : Nat) : Int) = w := aft_zero hw
    rw [e1]
    rw [Nat.add_zero, hu] at hv
    cases hv
    exact h
  | k + 1, v, hv => by
    have hlt : t + k < l.length := by
      have := (List.getElem?_eq_some_iff.1 hv).1
      omega
    obtain ⟨x, hx⟩ : ∃ x, l[t + k]? = some x := ⟨_, List.getElem?_eq_getElem hlt⟩
    have ih := path_from hd hn hw hu h k x hx
    have hs := badF_step l b 0 hn (t + k) x v hx (by rw [← hv]; rfl)
    have hm := aft_mono (d := d) ((inB_hd x _).2 ih)
    rw [aft_succ hd (by omega)] at hm
    have e : ((k + 1 : Nat) : Int) = (k : Int) + 1 := by omega
    rw [e]
    unfold Hd at hs ⊢
    unfold InB at hm
    omega
theorem bw_in {x d : B6} (hx : boxE x = 0) (hd : driE d = 0) (t : Nat) (ht : t ≤ 1000) {b : B6} {v : Z3} (hb : InB b (aftV x d t)) (hv : Hd b v) : (-10000000000 ≤ v.1 ∧ v.1 ≤ 10000000000) ∧ (-10000000000 ≤ v.2.1 ∧ v.2.1 ≤ 10000000000) ∧ (-10000000000 ≤ v.2.2 ∧ v.2.2 ≤ 10000000000) := by
  have hs := (aft_sm hx hd (t := (t : Int)) (by omega)).1
  unfold Sm at hs
  unfold InB at hb
  unfold Hd at hv
  omega
theorem met_facts {b w : B6} {v : Z3} (h1 : boxE b = 0) (h2 : boxE w = 0) (hb : Hd b v) (hw : Hd w v) : boxE (meetV b w) = 0 ∧ Hd (meetV b w) v ∧ InB (meetV b w) b := by
  have q1 := boxE_ok h1
  have q2 := boxE_ok h2
  have hm : Hd (meetV b w) v ∧ InB (meetV b w) b := by
    unfold Hd at hb hw
    unfold Hd InB meetV mxV mnV
    simp only
    refine ⟨⟨⟨?_, ?_⟩, ⟨?_, ?_⟩, ?_, ?_⟩, ?_, ?_, ?_, ?_, ?_, ?_⟩ <;> (repeat' split) <;> omega
  refine ⟨?_, hm⟩
  obtain ⟨a, i⟩ := hm
  generalize meetV b w = m at *
  unfold Hd at a
  unfold InB at i
  unfold boxE ord3
  rw [if_pos (by omega), if_pos (by omega)]
end Gv

/- The law of a vortex that is seen again and again. -/
namespace Gv
open Go
set_option maxRecDepth 100000
section
variable (x d : B6) (l : List Z3) (r e : Int) (c : C7)
theorem t70 (b : B6) (v : Z3) (t : Nat) (hd : driE d = 0) (he : 1 ≤ e ∧ e ≤ 8) (hb : t ≠ 0 → boxE b = 0) (b' : B6) (h0 : t = 0 → b' = b) (h1 : t ≠ 0 → b' = aftV b d e) :
    Llaw4_1000070 (Tlaw4_1000070a (t : Int) x.1 x.2.1 x.2.2.1 x.2.2.2.1 x.2.2.2.2.1 x.2.2.2.2.2 l.length (encT l) d.1 d.2.1 d.2.2.1 d.2.2.2.1 d.2.2.2.2.1 d.2.2.2.2.2 r e c.1 c.2.1 c.2.2.1 c.2.2.2.1 c.2.2.2.2.1 c.2.2.2.2.2.1 c.2.2.2.2.2.2 b.1 b.2.1 b.2.2.1 b.2.2.2.1 b.2.2.2.2.1 b.2.2.2.2.2 v.1 v.2.1 v.2.2) = some (Sum.inl ((t : Int), x.1, x.2.1, x.2.2.1, x.2.2.2.1, x.2.2.2.2.1, x.2.2.2.2.2, l.length, encT l, d.1, d.2.1, d.2.2.1, d.2.2.2.1, d.2.2.2.2.1, d.2.2.2.2.2, r, e, c.1, c.2.1, c.2.2.1, c.2.2.2.1, c.2.2.2.2.1, c.2.2.2.2.2.1, c.2.2.2.2.2.2, b'.1, b'.2.1, b'.2.2.1, b'.2.2.2.1, b'.2.2.2.2.1, b'.2.2.2.2.2, v.1, v.2.1, v.2.2)) := by
  refine Llaw4_1000070a_of (Rlaw4_1000070a_of _ _ _ _ _ _ _ _ _ _ _ _ _ _ _ _ _ _ _ _ _ _ _ _ _ _ _ _ _ _ _ _ _ ?_)
  unfold Blaw4_1000070a
  by_cases ht : t = 0
  · rw [bif_neg (by omega), h0 ht]
    rfl
  · have f : Fn env 17 (RSh.tup [(Prod.mk true [(CK.int .i64), (CK.int .i64), (CK.int .i64), (CK.int .i64), (CK.int .i64), (CK.int .i64)]), (Prod.mk false [(CK.int .i64)])]) [.agg [.int .i64 b.1, .int .i64 b.2.1, .int .i64 b.2.2.1, .int .i64 b.2.2.2.1, .int .i64 b.2.2.2.2.1, .int .i64 b.2.2.2.2.2], .agg [.int .i64 d.1, .int .i64 d.2.1, .int .i64 d.2.2.1, .int .i64 d.2.2.2.1, .int .i64 d.2.2.2.2.1, .int .i64 d.2.2.2.2.2], .int .i64 e] = _ := boxA_ok (hb ht) hd (t := e) (by omega)
    rw [bif_pos (by omega), f, bindO_val]
    dsimp only
    rw [bif_ne, if_pos rfl, h1 ht]
    rfl
theorem t55 (b w : B6) (v : Z3) (t : Nat) : Llaw4_1000055 (Tlaw4_1000055a (t : Int) x.1 x.2.1 x.2.2.1 x.2.2.2.1 x.2.2.2.2.1 x.2.2.2.2.2 l.length (encT l) d.1 d.2.1 d.2.2.1 d.2.2.2.1 d.2.2.2.2.1 d.2.2.2.2.2 r e c.1 c.2.1 c.2.2.1 c.2.2.2.1 c.2.2.2.2.1 c.2.2.2.2.2.1 c.2.2.2.2.2.2 b.1 b.2.1 b.2.2.1 b.2.2.2.1 b.2.2.2.2.1 b.2.2.2.2.2 v.1 v.2.1 v.2.2 w.1 w.2.1 w.2.2.1 w.2.2.2.1 w.2.2.2.2.1 w.2.2.2.2.2) = some (Sum.inl ()) ∨ (Llaw4_1000055 (Tlaw4_1000055a (t : Int) x.1 x.2.1 x.2.2.1 x.2.2.2.1 x.2.2.2.2.1 x.2.2.2.2.2 l.length (encT l) d.1 d.2.1 d.2.2.1 d.2.2.2.1 d.2.2.2.2.1 d.2.2.2.2.2 r e c.1 c.2.1 c.2.2.1 c.2.2.2.1 c.2.2.2.2.1 c.2.2.2.2.2.1 c.2.2.2.2.2.2 b.1 b.2.1 b.2.2.1 b.2.2.2.1 b.2.2.2.2.1 b.2.2.2.2.2 v.1 v.2.1 v.2.2 w.1 w.2.1 w.2.2.1 w.2.2.2.1 w.2.2.2.2.1 w.2.2.2.2.2) = some (Sum.inr ((t : Int), x.1, x.2.1, x.2.2.1, x.2.2.2.1, x.2.2.2.2.1, x.2.2.2.2.2, l.length, encT l, d.1, d.2.1, d.2.2.1, d.2.2.2.1, d.2.2.2.2.1, d.2.2.2.2.2, r, e, c.1, c.2.1, c.2.2.1, c.2.2.2.1, c.2.2.2.2.1, c.2.2.2.2.2.1, c.2.2.2.2.2.2, b.1, b.2.1, b.2.2.1, b.2.2.2.1, b.2.2.2.2.1, b.2.2.2.2.2, v.1, v.2.1, v.2.2, w.1, w.2.1, w.2.2.1, w.2.2.2.1, w.2.2.2.2.1, w.2.2.2.2.2)) ∧ boxE b = 0 ∧ boxE w = 0) := by
  have f1 : Fn env 18 (RSh.one (CK.int .i64)) [.agg [.int .i64 b.1, .int .i64 b.2.1, .int .i64 b.2.2.1, .int .i64 b.2.2.2.1, .int .i64 b.2.2.2.2.1, .int .i64 b.2.2.2.2.2]] = _ := rBoxE_is b
  have f2 : Fn env 18 (RSh.one (CK.int .i64)) [.agg [.int .i64 w.1, .int .i64 w.2.1, .int .i64 w.2.2.1, .int .i64 w.2.2.2.1, .int .i64 w.2.2.2.2.1, .int .i64 w.2.2.2.2.2]] = _ := rBoxE_is w
  by_cases h1 : boxE b = 0
  · by_cases h2 : boxE w = 0
    · right
      refine ⟨Llaw4_1000055b_of (Rlaw4_1000055a_of _ _ _ _ _ _ _ _ _ _ _ _ _ _ _ _ _ _ _ _ _ _ _ _ _ _ _ _ _ _ _ _ _ _ _ _ _ _ _ ?_), h1, h2⟩
      unfold Blaw4_1000055a
      rw [f1, bindO_val, bif_ne, if_pos h1, f2, bindO_val, bif_ne, if_pos h2]
      rfl
    · left
      refine Llaw4_1000055a_of (Rlaw4_1000055a_of _ _ _ _ _ _ _ _ _ _ _ _ _ _ _ _ _ _ _ _ _ _ _ _ _ _ _ _ _ _ _ _ _ _ _ _ _ _ _ ?_)
      unfold Blaw4_1000055a
      rw [f1, bindO_val, bif_ne, if_pos h1, f2, bindO_val, bif_ne, if_neg h2]
      rfl
  · left
    refine Llaw4_1000055a_of (Rlaw4_1000055a_of _ _ _ _ _ _ _ _ _ _ _ _ _ _ _ _ _ _ _ _ _ _ _ _ _ _ _ _ _ _ _ _ _ _ _ _ _ _ _ ?_)
    unfold Blaw4_1000055a
    rw [f1, bindO_val, bif_ne, if_neg h1]
    rfl
theorem t44 (b m w : B6) (v : Z3) (t : Nat) (hv : Hd m v) (hm : boxE m = 0) : Llaw4_1000044 (Tlaw4_1000044a (t : Int) 0 0 x.1 x.2.1 x.2.2.1 x.2.2.2.1 x.2.2.2.2.1 x.2.2.2.2.2 l.length (encT l) d.1 d.2.1 d.2.2.1 d.2.2.2.1 d.2.2.2.2.1 d.2.2.2.2.2 r e c.1 c.2.1 c.2.2.1 c.2.2.2.1 c.2.2.2.2.1 c.2.2.2.2.2.1 c.2.2.2.2.2.2 b.1 b.2.1 b.2.2.1 b.2.2.2.1 b.2.2.2.2.1 b.2.2.2.2.2 v.1 v.2.1 v.2.2 m.1 m.2.1 m.2.2.1 m.2.2.2.1 m.2.2.2.2.1 m.2.2.2.2.2 w.1 w.2.1 w.2.2.1 w.2.2.2.1 w.2.2.2.2.1 w.2.2.2.2.2) = some (Sum.inr ((t : Int), x.1, x.2.1, x.2.2.1, x.2.2.2.1, x.2.2.2.2.1, x.2.2.2.2.2, l.length, encT l, d.1, d.2.1, d.2.2.1, d.2.2.2.1, d.2.2.2.2.1, d.2.2.2.2.2, r, e, c.1, c.2.1, c.2.2.1, c.2.2.2.1, c.2.2.2.2.1, c.2.2.2.2.2.1, c.2.2.2.2.2.2, b.1, b.2.1, b.2.2.1, b.2.2.2.1, b.2.2.2.2.1, b.2.2.2.2.2, m.1, m.2.1, m.2.2.1, m.2.2.2.1, m.2.2.2.2.1, m.2.2.2.2.2, w.1, w.2.1, w.2.2.1, w.2.2.2.1, w.2.2.2.2.1, w.2.2.2.2.2)) := by
  have f1 : Fn env 20 (RSh.one CK.bool) [.agg [.int .i64 m.1, .int .i64 m.2.1, .int .i64 m.2.2.1, .int .i64 m.2.2.2.1, .int .i64 m.2.2.2.2.1, .int .i64 m.2.2.2.2.2], .agg [.int .i64 v.1, .int .i64 v.2.1, .int .i64 v.2.2]] = _ := rHold_is m v
  have f2 : Fn env 18 (RSh.one (CK.int .i64)) [.agg [.int .i64 m.1, .int .i64 m.2.1, .int .i64 m.2.2.1, .int .i64 m.2.2.2.1, .int .i64 m.2.2.2.2.1, .int .i64 m.2.2.2.2.2]] = _ := rBoxE_is m
  refine Llaw4_1000044b_of (Rlaw4_1000044a_of _ _ _ _ _ _ _ _ _ _ _ _ _ _ _ _ _ _ _ _ _ _ _ _ _ _ _ _ _ _ _ _ _ _ _ _ _ _ _ _ _ _ _ _ _ _ _ ?_)
  unfold Blaw4_1000044a
  rw [bif_ne, if_pos rfl, bif_ne, if_pos rfl, f1, bindO_val, decide_eq_true hv, cond_true, f2, bindO_val, bif_ne, if_pos hm]
  rfl
theorem t37 (b m w : B6) (t : Nat) (hg : Good (meetV m w)) (he : meetV m w = m) : Llaw4_1000037 (Tlaw4_1000037a (t : Int) x.1 x.2.1 x.2.2.1 x.2.2.2.1 x.2.2.2.2.1 x.2.2.2.2.2 l.length (encT l) d.1 d.2.1 d.2.2.1 d.2.2.2.1 d.2.2.2.2.1 d.2.2.2.2.2 r e c.1 c.2.1 c.2.2.1 c.2.2.2.1 c.2.2.2.2.1 c.2.2.2.2.2.1 c.2.2.2.2.2.2 b.1 b.2.1 b.2.2.1 b.2.2.2.1 b.2.2.2.2.1 b.2.2.2.2.2 m.1 m.2.1 m.2.2.1 m.2.2.2.1 m.2.2.2.2.1 m.2.2.2.2.2 w.1 w.2.1 w.2.2.1 w.2.2.2.1 w.2.2.2.2.1 w.2.2.2.2.2) = some (Sum.inr ((t : Int), x.1, x.2.1, x.2.2.1, x.2.2.2.1, x.2.2.2.2.1, x.2.2.2.2.2, l.length, encT l, d.1, d.2.1, d.2.2.1, d.2.2.2.1, d.2.2.2.2.1, d.2.2.2.2.2, r, e, c.1, c.2.1, c.2.2.1, c.2.2.2.1, c.2.2.2.2.1, c.2.2.2.2.2.1, c.2.2.2.2.2.2, b.1, b.2.1, b.2.2.1, b.2.2.2.1, b.2.2.2.2.1, b.2.2.2.2.2, m.1, m.2.1, m.2.2.1, m.2.2.2.1, m.2.2.2.2.1, m.2.2.2.2.2)) := by
  have f1 : Fn env 21 (RSh.tup [(Prod.mk true [(CK.int .i64), (CK.int .i64), (CK.int .i64), (CK.int .i64), (CK.int .i64), (CK.int .i64)]), (Prod.mk false [CK.bool])]) [.agg [.int .i64 m.1, .int .i64 m.2.1, .int .i64 m.2.2.1, .int .i64 m.2.2.2.1, .int .i64 m.2.2.2.2.1, .int .i64 m.2.2.2.2.2], .agg [.int .i64 w.1, .int .i64 w.2.1, .int .i64 w.2.2.1, .int .i64 w.2.2.2.1, .int .i64 w.2.2.2.2.1, .int .i64 w.2.2.2.2.2]] = _ := rMeet_is m w
  have e1 : meetB m w = m := by
    unfold meetB
    rw [if_pos hg, he]
  rw [decide_eq_true hg, e1] at f1
  refine Llaw4_1000037b_of (Rlaw4_1000037a_of _ _ _ _ _ _ _ _ _ _ _ _ _ _ _ _ _ _ _ _ _ _ _ _ _ _ _ _ _ _ _ _ _ _ _ _ _ _ _ _ _ _ ?_)
  unfold Blaw4_1000037a
  rw [f1, bindO_val]
  unfold app7
  dsimp only
  rw [cond_true]
  simp only [beq_self_eq_true, Bool.and_self, Bool.not_true, cond_false]
  rfl
theorem t09 (n : Int) (m : B6) (t k : Nat) (v : Z3) (hl : l.length ≤ 16) (hv : l[t + k]? = some v) (hno : n = 2 → ¬ Hd (regR c) v) : Llaw4_1000009 (Tlaw4_1000009a (t : Int) n (k : Int) x.1 x.2.1 x.2.2.1 x.2.2.2.1 x.2.2.2.2.1 x.2.2.2.2.2 l.length (encT l) d.1 d.2.1 d.2.2.1 d.2.2.2.1 d.2.2.2.2.1 d.2.2.2.2.2 r e c.1 c.2.1 c.2.2.1 c.2.2.2.1 c.2.2.2.2.1 c.2.2.2.2.2.1 c.2.2.2.2.2.2 m.1 m.2.1 m.2.2.1 m.2.2.2.1 m.2.2.2.2.1 m.2.2.2.2.2) = some (Sum.inr ((t : Int), n, (k : Int), x.1, x.2.1, x.2.2.1, x.2.2.2.1, x.2.2.2.2.1, x.2.2.2.2.2, l.length, encT l, d.1, d.2.1, d.2.2.1, d.2.2.2.1, d.2.2.2.2.1, d.2.2.2.2.2, r, e, c.1, c.2.1, c.2.2.1, c.2.2.2.1, c.2.2.2.2.1, c.2.2.2.2.2.1, c.2.2.2.2.2.2, m.1, m.2.1, m.2.2.1, m.2.2.2.1, m.2.2.2.2.1, m.2.2.2.2.2)) := by
  have hlt : t + k < l.length := (List.getElem?_eq_some_iff.1 hv).1
  have ew : w64 ((t : Int) + (k : Int)) = ((t + k : Nat) : Int) := by rw [w64_in (by omega)]; omega
  refine Llaw4_1000009b_of (Rlaw4_1000009a_of _ _ _ _ _ _ _ _ _ _ _ _ _ _ _ _ _ _ _ _ _ _ _ _ _ _ _ _ _ _ _ _ ?_)
  unfold Blaw4_1000009a
  by_cases h2 : n = 2
  · have f1 : Fn env 23 (RSh.agg [(CK.int .i64), (CK.int .i64), (CK.int .i64), (CK.int .i64), (CK.int .i64), (CK.int .i64)]) [.agg [.int .i64 c.1, .int .i64 c.2.1, .int .i64 c.2.2.1, .int .i64 c.2.2.2.1, .int .i64 c.2.2.2.2.1, .int .i64 c.2.2.2.2.2.1, .int .i64 c.2.2.2.2.2.2]] = _ := rReg_is c
    have f2 : Fn env 20 (RSh.one CK.bool) [.agg [.int .i64 (regR c).1, .int .i64 (regR c).2.1, .int .i64 (regR c).2.2.1, .int .i64 (regR c).2.2.2.1, .int .i64 (regR c).2.2.2.2.1, .int .i64 (regR c).2.2.2.2.2], .agg [.int .i64 v.1, .int .i64 v.2.1, .int .i64 v.2.2]] = _ := rHold_is (regR c) v
    have g0 := encT_0 l (t + k)
    have g1 := encT_1 l (t + k)
    have g2 := encT_2 l (t + k)
    rw [hv] at g0 g1 g2
    simp only [Option.map_some] at g0 g1 g2
    rw [bif_eq, if_pos h2, f1, bindO_val, ew, bif_pos (by omega), Int.toNat_natCast, g0, intC_int, bindO_val, g1, intC_int, bindO_val, g2, intC_int, bindO_val, f2, bindO_val, decide_eq_false (hno h2), cond_false]
    rfl
  · rw [bif_eq, if_neg h2]
    rfl
theorem t2 (n : Int) (m : B6) (t : Nat) (hl : l.length ≤ 16) (ht : t ≤ 16) (hto : c.2.2.2.2.2.2 ≤ 16) (hno : n = 2 → ∀ (k : Nat) (v : Z3), c.2.2.2.2.2.1 ≤ k → (k : Int) ≤ c.2.2.2.2.2.2 → l[t + k]? = some v → ¬ Hd (regR c) v) : ∀ (q k : Nat), (k : Int) + q = c.2.2.2.2.2.2 + 1 → c.2.2.2.2.2.1 ≤ k →
    Rlaw4_2 (Tlaw4_2a (t : Int) n (k : Int) x.1 x.2.1 x.2.2.1 x.2.2.2.1 x.2.2.2.2.1 x.2.2.2.2.2 l.length (encT l) d.1 d.2.1 d.2.2.1 d.2.2.2.1 d.2.2.2.2.1 d.2.2.2.2.2 r e c.1 c.2.1 c.2.2.1 c.2.2.2.1 c.2.2.2.2.1 c.2.2.2.2.2.1 c.2.2.2.2.2.2 m.1 m.2.1 m.2.2.1 m.2.2.2.1 m.2.2.2.2.1 m.2.2.2.2.2) = exO (Xlaw4_2a ((t : Int), x.1, x.2.1, x.2.2.1, x.2.2.2.1, x.2.2.2.2.1, x.2.2.2.2.2, l.length, encT l, d.1, d.2.1, d.2.2.1, d.2.2.2.1, d.2.2.2.2.1, d.2.2.2.2.2, r, e, c.1, c.2.1, c.2.2.1, c.2.2.2.1, c.2.2.2.2.1, c.2.2.2.2.2.1, c.2.2.2.2.2.2, m.1, m.2.1, m.2.2.1, m.2.2.2.1, m.2.2.2.2.1, m.2.2.2.2.2))
  | 0, k, h, hk => by
    have h13 : Llaw4_1000013 (Tlaw4_1000013a (t : Int) n (k : Int) x.1 x.2.1 x.2.2.1 x.2.2.2.1 x.2.2.2.2.1 x.2.2.2.2.2 l.length (encT l) d.1 d.2.1 d.2.2.1 d.2.2.2.1 d.2.2.2.2.1 d.2.2.2.2.2 r e c.1 c.2.1 c.2.2.1 c.2.2.2.1 c.2.2.2.2.1 c.2.2.2.2.2.1 c.2.2.2.2.2.2 m.1 m.2.1 m.2.2.1 m.2.2.2.1 m.2.2.2.2.1 m.2.2.2.2.2) = _ := Llaw4_1000013c_of (Rlaw4_1000013a_of _ _ _ _ _ _ _ _ _ _ _ _ _ _ _ _ _ _ _ _ _ _ _ _ _ _ _ _ _ _ _ _ (by
      unfold Blaw4_1000013a
      rw [bif_neg (by omega)]
      rfl))
    refine Rlaw4_2a_of _ _ _ _ _ _ _ _ _ _ _ _ _ _ _ _ _ _ _ _ _ _ _ _ _ _ _ _ _ _ _ _ ?_
    unfold Blaw4_2a
    rw [h13, bindO_val, Sum.elim_inr, Sum.elim_inr]
    rfl
  | q + 1, k, h, hk => by
    have ew : w64 ((t : Int) + (k : Int)) = ((t + k : Nat) : Int) := by rw [w64_in (by omega)]; omega
    by_cases hlt : t + k < l.length
    · have ih := t2 n m t hl ht hto hno q (k + 1) (by omega) (by omega)
      obtain ⟨v, hv⟩ : ∃ v, l[t + k]? = some v := ⟨_, List.getElem?_eq_getElem hlt⟩
      have h13 : Llaw4_1000013 (Tlaw4_1000013a (t : Int) n (k : Int) x.1 x.2.1 x.2.2.1 x.2.2.2.1 x.2.2.2.2.1 x.2.2.2.2.2 l.length (encT l) d.1 d.2.1 d.2.2.1 d.2.2.2.1 d.2.2.2.2.1 d.2.2.2.2.2 r e c.1 c.2.1 c.2.2.1 c.2.2.2.1 c.2.2.2.2.1 c.2.2.2.2.2.1 c.2.2.2.2.2.2 m.1 m.2.1 m.2.2.1 m.2.2.2.1 m.2.2.2.2.1 m.2.2.2.2.2) = _ := Llaw4_1000013a_of (Rlaw4_1000013a_of _ _ _ _ _ _ _ _ _ _ _ _ _ _ _ _ _ _ _ _ _ _ _ _ _ _ _ _ _ _ _ _ (by
        unfold Blaw4_1000013a
        rw [bif_pos (by omega), ew, bif_pos (by omega)]
        rfl))
      have h9 := t09 x d l r e c n m t k v hl hv fun h2 => hno h2 k v hk (by omega) hv
      refine Rlaw4_2a_of _ _ _ _ _ _ _ _ _ _ _ _ _ _ _ _ _ _ _ _ _ _ _ _ _ _ _ _ _ _ _ _ ?_
      unfold Blaw4_2a
      rw [h13, bindO_val, Sum.elim_inl]
      dsimp only
      rw [h9, bindO_val, Sum.elim_inr]
      dsimp only
      rw [w64_in (by omega)]
      exact ih
    · have h13 : Llaw4_1000013 (Tlaw4_1000013a (t : Int) n (k : Int) x.1 x.2.1 x.2.2.1 x.2.2.2.1 x.2.2.2.2.1 x.2.2.2.2.2 l.length (encT l) d.1 d.2.1 d.2.2.1 d.2.2.2.1 d.2.2.2.2.1 d.2.2.2.2.2 r e c.1 c.2.1 c.2.2.1 c.2.2.2.1 c.2.2.2.2.1 c.2.2.2.2.2.1 c.2.2.2.2.2.2 m.1 m.2.1 m.2.2.1 m.2.2.2.1 m.2.2.2.2.1 m.2.2.2.2.2) = _ := Llaw4_1000013b_of (Rlaw4_1000013a_of _ _ _ _ _ _ _ _ _ _ _ _ _ _ _ _ _ _ _ _ _ _ _ _ _ _ _ _ _ _ _ _ (by
        unfold Blaw4_1000013a
        rw [bif_pos (by omega), ew, bif_neg (by omega)]
        rfl))
      refine Rlaw4_2a_of _ _ _ _ _ _ _ _ _ _ _ _ _ _ _ _ _ _ _ _ _ _ _ _ _ _ _ _ _ _ _ _ ?_
      unfold Blaw4_2a
      rw [h13, bindO_val, Sum.elim_inr, Sum.elim_inl]
      rfl
def InvE (x d : B6) (l : List Z3) (e : Int) (t : Nat) (b : B6) : Prop := (t = 0 ∧ b = x) ∨ ∃ (s : Nat) (u : Z3), (t : Int) = s + e ∧ boxE b = 0 ∧ l[s]? = some u ∧ Hd b u ∧ InB b (aftV x d s)
variable (hx : boxE x = 0) (hd : driE d = 0) (hc : corV c = 0) (hr : 0 ≤ r ∧ r ≤ 20) (he : 1 ≤ e ∧ e ≤ 8) (hl : l.length ≤ 16) (hto : c.2.2.2.2.2.2 ≤ 16) (hn : badF d x l 0 = none)
include hx hd hc hr he hl hto hn
theorem t75 (t : Nat) (ht : t < l.length) (b : B6) (hI : InvE x d l e t b) :
    Llaw4_1000075 (Tlaw4_1000075a (t : Int) x.1 x.2.1 x.2.2.1 x.2.2.2.1 x.2.2.2.2.1 x.2.2.2.2.2 l.length (encT l) d.1 d.2.1 d.2.2.1 d.2.2.2.1 d.2.2.2.2.1 d.2.2.2.2.2 r e c.1 c.2.1 c.2.2.1 c.2.2.2.1 c.2.2.2.2.1 c.2.2.2.2.2.1 c.2.2.2.2.2.2 b.1 b.2.1 b.2.2.1 b.2.2.2.1 b.2.2.2.2.1 b.2.2.2.2.2) = some (Sum.inl true) ∨ ∃ (m : B6) (v : Z3), Llaw4_1000075 (Tlaw4_1000075a (t : Int) x.1 x.2.1 x.2.2.1 x.2.2.2.1 x.2.2.2.2.1 x.2.2.2.2.2 l.length (encT l) d.1 d.2.1 d.2.2.1 d.2.2.2.1 d.2.2.2.2.1 d.2.2.2.2.2 r e c.1 c.2.1 c.2.2.1 c.2.2.2.1 c.2.2.2.2.1 c.2.2.2.2.2.1 c.2.2.2.2.2.2 b.1 b.2.1 b.2.2.1 b.2.2.2.1 b.2.2.2.2.1 b.2.2.2.2.2) = some (Sum.inr ((t : Int), x.1, x.2.1, x.2.2.1, x.2.2.2.1, x.2.2.2.2.1, x.2.2.2.2.2, l.length, encT l, d.1, d.2.1, d.2.2.1, d.2.2.2.1, d.2.2.2.2.1, d.2.2.2.2.2, r, e, c.1, c.2.1, c.2.2.1, c.2.2.2.1, c.2.2.2.2.1, c.2.2.2.2.2.1, c.2.2.2.2.2.2, m.1, m.2.1, m.2.2.1, m.2.2.2.1, m.2.2.2.2.1, m.2.2.2.2.2)) ∧ boxE m = 0 ∧ l[t]? = some v ∧ Hd m v ∧ InB m (aftV x d t) := by
  obtain ⟨v, hv⟩ : ∃ v, l[t]? = some v := ⟨_, List.getElem?_eq_getElem ht⟩
  have g0 := encT_0 l t
  have g1 := encT_1 l t
  have g2 := encT_2 l t
  rw [hv] at g0 g1 g2
  simp only [Option.map_some] at g0 g1 g2
  have nx := (box_sm hx).2
  obtain ⟨b', hb0, hb1, hbE, hbv, hbi⟩ : ∃ b' : B6, (t = 0 → b' = b) ∧ (t ≠ 0 → b' = aftV b d e) ∧ (t ≠ 0 → boxE b = 0) ∧ Hd b' v ∧ InB b' (aftV x d t) := by
    rcases hI with ⟨h0, rfl⟩ | ⟨s, u, hs, hbE, hu, hbu, hbi⟩
    · refine ⟨b, fun _ => rfl, fun h => absurd h0 h, fun h => absurd h0 h, ?_, ?_⟩
      · subst h0
        have := path_from (d := d) hd hn nx (t := 0) (u := v) hv (by
          match l, hv, hn with
          | z :: l, hv, hn =>
            simp only [List.getElem?_cons_zero, Option.some.injEq] at hv
            subst hv
            exact (badF_head hn).1) 0 v hv
        rwa [show aftV b d ((0 : Nat) : Int) = b from aft_zero nx] at this
      · subst h0
        rw [show aftV b d ((0 : Nat) : Int) = b from aft_zero nx]
        unfold InB
        omega
    · obtain ⟨k, hk⟩ : ∃ k : Nat, e = (k : Int) := ⟨e.toNat, by omega⟩
      have nb := (box_sm hbE).2
      have htk : t = s + k := by omega
      refine ⟨aftV b d e, fun h => by omega, fun _ => rfl, fun _ => hbE, ?_, ?_⟩
      · rw [hk]
        exact path_from hd hn nb hu hbu k v (by rw [← htk]; exact hv)
      · have h1 := aft_mono_n hd hbi nb (aft_sm hx hd (t := (s : Int)) (by
          have := (List.getElem?_eq_some_iff.1 hu).1
          omega)).2 k
        rw [aft_aft hx hd (by omega) k] at h1
        rw [hk, show (t : Int) = (s : Int) + (k : Int) by omega]
        exact h1
  have h70 := t70 x d l r e c b v t hd he hbE b' hb0 hb1
  have hbd := bw_in hx hd t (by omega) hbi hbv
  have w1 : w64 (v.1 - r) = v.1 - r := w64_in (by omega)
  have w2 : w64 (v.1 + r) = v.1 + r := w64_in (by omega)
  have w3 : w64 (v.2.1 - r) = v.2.1 - r := w64_in (by omega)
  have w4 : w64 (v.2.1 + r) = v.2.1 + r := w64_in (by omega)
  have w5 : w64 (v.2.2 - r) = v.2.2 - r := w64_in (by omega)
  have w6 : w64 (v.2.2 + r) = v.2.2 + r := w64_in (by omega)
  have h55 := t55 x d l r e c b' (v.1 - r, v.1 + r, (if v.2.1 - r > 0 then v.2.1 - r else 0), v.2.1 + r, (if v.2.2 - r > 0 then v.2.2 - r else 0), v.2.2 + r) v t
  simp only at h55
  rcases h55 with h55 | ⟨h55, e1, e2⟩
  · left
    refine Llaw4_1000075a_of (Rlaw4_1000075a_of _ _ _ _ _ _ _ _ _ _ _ _ _ _ _ _ _ _ _ _ _ _ _ _ _ _ _ _ _ _ ?_)
    unfold Blaw4_1000075a
    rw [bif_pos (by omega), Int.toNat_natCast, g0, intC_int, bindO_val, g1, intC_int, bindO_val, g2, intC_int, bindO_val, h70, bindO_val, Sum.elim_inl]
    dsimp only
    rw [w1, w2, w3, w4, w5, w6, h55, bindO_val, Sum.elim_inl]
    rfl
  · right
    have hsv : Hd (v.1 - r, v.1 + r, (if v.2.1 - r > 0 then v.2.1 - r else 0), v.2.1 + r, (if v.2.2 - r > 0 then v.2.2 - r else 0), v.2.2 + r) v := by
      have q := boxE_ok e1
      unfold Hd at hbv ⊢
      simp only
      refine ⟨⟨by omega, by omega⟩, ⟨?_, by omega⟩, ?_, by omega⟩
      · split <;> omega
      · split <;> omega
    generalize hw : ((v.1 - r, v.1 + r, (if v.2.1 - r > 0 then v.2.1 - r else 0), v.2.1 + r, (if v.2.2 - r > 0 then v.2.2 - r else 0), v.2.2 + r) : B6) = w at *
    have c1 : v.1 - r = w.1 := by rw [← hw]
    have c2 : v.1 + r = w.2.1 := by rw [← hw]
    have c3 : (if v.2.1 - r > 0 then v.2.1 - r else 0) = w.2.2.1 := by rw [← hw]
    have c4 : v.2.1 + r = w.2.2.2.1 := by rw [← hw]
    have c5 : (if v.2.2 - r > 0 then v.2.2 - r else 0) = w.2.2.2.2.1 := by rw [← hw]
    have c6 : v.2.2 + r = w.2.2.2.2.2 := by rw [← hw]
    rw [c1, c2, c3, c4, c5, c6] at h55
    have hg : Good (meetV b' w) := hd_meet hbv hsv
    obtain ⟨m1, m2, m3⟩ := met_facts e1 e2 hbv hsv
    have hmi : InB (meetV b' w) (aftV x d t) := by
      unfold InB at m3 hbi ⊢
      omega
    have hgm : Good (meetV b' w) := hg
    obtain ⟨k1, k2⟩ := (in_meet hgm).2 hmi
    have f19 : Fn env 19 (RSh.tup [(Prod.mk true [(CK.int .i64), (CK.int .i64), (CK.int .i64), (CK.int .i64), (CK.int .i64), (CK.int .i64)]), (Prod.mk false [(CK.int .i64)])]) [.agg [.int .i64 b'.1, .int .i64 b'.2.1, .int .i64 b'.2.2.1, .int .i64 b'.2.2.2.1, .int .i64 b'.2.2.2.2.1, .int .i64 b'.2.2.2.2.2], .agg [.int .i64 w.1, .int .i64 w.2.1, .int .i64 w.2.2.1, .int .i64 w.2.2.2.1, .int .i64 w.2.2.2.2.1, .int .i64 w.2.2.2.2.2]] = _ := meetO_is b' w
    have eR : meetR b' w = (meetV b' w, 0) := by
      unfold meetR
      rw [if_neg (by simp [both, e1, e2]), if_pos hg]
    rw [eR] at f19
    have f17 : Fn env 17 (RSh.tup [(Prod.mk true [(CK.int .i64), (CK.int .i64), (CK.int .i64), (CK.int .i64), (CK.int .i64), (CK.int .i64)]), (Prod.mk false [(CK.int .i64)])]) [.agg [.int .i64 x.1, .int .i64 x.2.1, .int .i64 x.2.2.1, .int .i64 x.2.2.2.1, .int .i64 x.2.2.2.2.1, .int .i64 x.2.2.2.2.2], .agg [.int .i64 d.1, .int .i64 d.2.1, .int .i64 d.2.2.1, .int .i64 d.2.2.2.1, .int .i64 d.2.2.2.2.1, .int .i64 d.2.2.2.2.2], .int .i64 (t : Int)] = _ := boxA_ok hx hd (t := (t : Int)) (by omega)
    have h44 := t44 x d l r e c b' (meetV b' w) (aftV x d t) v t m2 m1
    have h37 := t37 x d l r e c b' (meetV b' w) (aftV x d t) t k1 k2
    have f22 : Fn env 22 (RSh.tup [(Prod.mk false [(CK.int .i64)]), (Prod.mk false [(CK.int .i64)])]) [.agg [.int .i64 (meetV b' w).1, .int .i64 (meetV b' w).2.1, .int .i64 (meetV b' w).2.2.1, .int .i64 (meetV b' w).2.2.2.1, .int .i64 (meetV b' w).2.2.2.2.1, .int .i64 (meetV b' w).2.2.2.2.2], .agg [.int .i64 d.1, .int .i64 d.2.1, .int .i64 d.2.2.1, .int .i64 d.2.2.2.1, .int .i64 d.2.2.2.2.1, .int .i64 d.2.2.2.2.2], .agg [.int .i64 c.1, .int .i64 c.2.1, .int .i64 c.2.2.1, .int .i64 c.2.2.2.1, .int .i64 c.2.2.2.2.1, .int .i64 c.2.2.2.2.2.1, .int .i64 c.2.2.2.2.2.2]] = _ := isFr_is (meetV b' w) d c
    have ez : freV (meetV b' w) d c = 0 := by
      unfold freV
      simp [first3, m1, hd, hc]
    rw [if_pos ez] at f22
    have hco := corV_ok hc
    have nm := (box_sm m1).2
    have h2 := t2 x d l r e c (freeV (meetV b' w) d c (regV c)) (meetV b' w) t hl (by omega) hto (fun h2 k u hk1 hk2 hu hreg => by
      have hq := (freeV_two m1 hd hc).1 h2 (k : Int) hk1 hk2
      have hin := path_from hd hn nm hv m2 k u hu
      refine hq ?_
      unfold metAt
      rw [← reg_meet m1 hd (by omega) c]
      exact hd_meet hin hreg) (c.2.2.2.2.2.2 + 1 - c.2.2.2.2.2.1).toNat c.2.2.2.2.2.1.toNat (by omega) (by omega)
    have q : ((c.2.2.2.2.2.1.toNat : Nat) : Int) = c.2.2.2.2.2.1 := by omega
    rw [q] at h2
    have h2 := Llaw4_2a_of h2
    refine ⟨meetV b' w, v, Llaw4_1000075b_of (Rlaw4_1000075a_of _ _ _ _ _ _ _ _ _ _ _ _ _ _ _ _ _ _ _ _ _ _ _ _ _ _ _ _ _ _ ?_), m1, hv, m2, hmi⟩
    unfold Blaw4_1000075a
    rw [bif_pos (by omega), Int.toNat_natCast, g0, intC_int, bindO_val, g1, intC_int, bindO_val, g2, intC_int, bindO_val, h70, bindO_val, Sum.elim_inl]
    dsimp only
    rw [w1, w2, w3, w4, w5, w6, c1, c2, c3, c4, c5, c6, h55, bindO_val, Sum.elim_inr]
    dsimp only
    rw [f19, bindO_val]
    unfold app7
    dsimp only
    rw [f17, bindO_val]
    dsimp only
    rw [h44, bindO_val, Sum.elim_inr]
    dsimp only
    rw [h37, bindO_val, Sum.elim_inr]
    dsimp only
    rw [f22, bindO_val]
    dsimp only
    rw [bif_ne, if_pos rfl, h2, bindO_val, Sum.elim_inl]
    rfl
theorem t0 : ∀ (q t : Nat) (b : B6), l.length ≤ t + q → t ≤ 24 → InvE x d l e t b → (∃ y, Rlaw4_0 (Tlaw4_0a (t : Int) x.1 x.2.1 x.2.2.1 x.2.2.2.1 x.2.2.2.2.1 x.2.2.2.2.2 l.length (encT l) d.1 d.2.1 d.2.2.1 d.2.2.2.1 d.2.2.2.2.1 d.2.2.2.2.2 r e c.1 c.2.1 c.2.2.1 c.2.2.2.1 c.2.2.2.2.1 c.2.2.2.2.2.1 c.2.2.2.2.2.2 b.1 b.2.1 b.2.2.1 b.2.2.2.1 b.2.2.2.2.1 b.2.2.2.2.2) = exO (Xlaw4_0a y)) ∨ Rlaw4_0 (Tlaw4_0a (t : Int) x.1 x.2.1 x.2.2.1 x.2.2.2.1 x.2.2.2.2.1 x.2.2.2.2.2 l.length (encT l) d.1 d.2.1 d.2.2.1 d.2.2.2.1 d.2.2.2.2.1 d.2.2.2.2.2 r e c.1 c.2.1 c.2.2.1 c.2.2.2.1 c.2.2.2.2.1 c.2.2.2.2.2.1 c.2.2.2.2.2.2 b.1 b.2.1 b.2.2.1 b.2.2.2.1 b.2.2.2.2.1 b.2.2.2.2.2) = exO (Xlaw4_0b true)
  | 0, t, b, h, _, _ => .inl ⟨_, Rlaw4_0a_of _ _ _ _ _ _ _ _ _ _ _ _ _ _ _ _ _ _ _ _ _ _ _ _ _ _ _ _ _ _ (by
      unfold Blaw4_0a
      rw [bif_neg (by omega)]
      rfl)⟩
  | q + 1, t, b, h, h24, hI => by
    by_cases ht : t < l.length
    · rcases t75 x d l r e c hx hd hc hr he hl hto hn t ht b hI with h75 | ⟨m, v, h75, m1, m2, m3, m4⟩
      · refine .inr (Rlaw4_0a_of _ _ _ _ _ _ _ _ _ _ _ _ _ _ _ _ _ _ _ _ _ _ _ _ _ _ _ _ _ _ ?_)
        unfold Blaw4_0a
        rw [bif_pos (by omega), h75, bindO_val, Sum.elim_inl]
        rfl
      · obtain ⟨k, hk⟩ : ∃ k : Nat, e = (k : Int) := ⟨e.toNat, by omega⟩
        have ih := t0 q (t + k) m (by omega) (by omega) (.inr ⟨t, v, by omega, m1, m2, m3, m4⟩)
        have ew : w64 ((t : Int) + e) = ((t + k : Nat) : Int) := by rw [w64_in (by omega)]; omega
        rcases ih with ⟨y, hy⟩ | hy
        · refine .inl ⟨y, Rlaw4_0a_of _ _ _ _ _ _ _ _ _ _ _ _ _ _ _ _ _ _ _ _ _ _ _ _ _ _ _ _ _ _ ?_⟩
          unfold Blaw4_0a
          rw [bif_pos (by omega), h75, bindO_val, Sum.elim_inr]
          dsimp only
          rw [ew]
          exact hy
        · refine .inr (Rlaw4_0a_of _ _ _ _ _ _ _ _ _ _ _ _ _ _ _ _ _ _ _ _ _ _ _ _ _ _ _ _ _ _ ?_)
          unfold Blaw4_0a
          rw [bif_pos (by omega), h75, bindO_val, Sum.elim_inr]
          dsimp only
          rw [ew]
          exact hy
    · exact .inl ⟨_, Rlaw4_0a_of _ _ _ _ _ _ _ _ _ _ _ _ _ _ _ _ _ _ _ _ _ _ _ _ _ _ _ _ _ _ (by
        unfold Blaw4_0a
        rw [bif_neg (by omega)]
        rfl)⟩
end
end Gv
