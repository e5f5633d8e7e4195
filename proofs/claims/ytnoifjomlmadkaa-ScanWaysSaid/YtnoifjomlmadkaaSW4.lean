/- ScanWays: whatever the head and the directions, the law answers true. -/
import Derived.Test.YtnoifjomlmadkaaSW5
import Derived.Test.YtnoifjomlmadkaaSM6
namespace Gv
open Go
set_option maxRecDepth 100000

theorem elN_comm (a b : ZZ) : elN a b = elN b a := by unfold elN; omega
theorem find_any {l : List ZZ} {p : ZZ → Bool} : (l.find? p).isNone = !l.any p := by
  induction l with
  | nil => rfl
  | cons x l ih =>
    rw [List.find?_cons, List.any_cons]
    cases p x
    · rw [Bool.false_or]; exact ih
    · rfl

section
variable (h : Hd) (hl8 : h.l.length ≤ 8) (hok : (headIE h).2 = 0) {a b : ZZ} (ha : Vd a) (hb : Vd b)
include hl8 hok ha hb
theorem wy73 : LL3_ScanWays_1000073 (TL3_ScanWays_1000073a h.x h.y h.r1 h.a1 h.r2 h.a2 h.l.length (encS h.l) a.1 a.2 b.1 b.2) =
    some (.inr (h.x, h.y, h.r1, h.a1, h.r2, h.a2, h.l.length, encS h.l, a.1, a.2, b.1, b.2)) := by
  refine LL3_ScanWays_1000073b_of (RL3_ScanWays_1000073a_of _ _ _ _ _ _ _ _ _ _ _ _ ?_)
  unfold BL3_ScanWays_1000073a
  simp only [few_is h, headErr_is h (by omega), hok, refDirection_is, dirE_in ha.1 ha.2, dirE_in hb.1 hb.2, bindO_val, bne_self_eq_false, cond_false]
  rw [bif_pos (by omega)]
  rfl
omit hl8 hok in
theorem wy62 : LL3_ScanWays_1000062 (TL3_ScanWays_1000062a (ds a b + 1) (encG (wayL a b)) 0 (ds b a + 1) (encG (wayL b a)) 0 h.x h.y h.r1 h.a1 h.r2 h.a2 h.l.length (encS h.l) a.1 a.2 b.1 b.2) =
    some (.inr (ds a b + 1, encG (wayL a b), h.x, h.y, h.r1, h.a1, h.r2, h.a2, h.l.length, encS h.l, a.1, a.2, b.1, b.2)) := by
  have hd := ds_le ha hb
  have hc : ds b a = ds a b := ds_comm
  have g0 : (encG (wayL a b))[0]? = some (.int .i64 a.1) := by
    have := encG_0 (wayL a b) 0
    rw [wayL_get (Nat.zero_le _)] at this
    exact this
  have g1 : (encG (wayL a b))[1]? = some (.int .i64 a.2) := by
    have := encG_1 (wayL a b) 0
    rw [wayL_get (Nat.zero_le _)] at this
    exact this
  have e1 : w64 (((ds a b + 1 : Nat) : Int) - 1) = ((ds a b : Nat) : Int) := by rw [w64_in (by omega)]; omega
  refine LL3_ScanWays_1000062b_of (RL3_ScanWays_1000062a_of _ _ _ _ _ _ _ _ _ _ _ _ _ _ _ _ _ _ ?_)
  unfold BL3_ScanWays_1000062a
  rw [hc, e1]
  simp only [bne_self_eq_false, cond_false, Int.toNat_natCast, encG_0, encG_1, wayL_get (Nat.le_refl (ds a b)), stpN_last ha hb, Option.map_some, g0, g1, intC_int, bindO_val]
  rw [bif_eq, if_neg (by omega), bif_neg (by omega), bif_pos (by omega), bif_pos (by omega)]
  simp only [beq_self_eq_true, Bool.and_self, Bool.not_true, cond_false]
  rfl
theorem wy43 (t : Nat) (ht : t ≤ 300) (dk : Bool) (i : Nat) (hi : i ≤ ds a b) :
    LL3_ScanWays_1000043 (TL3_ScanWays_1000043a (ds a b + 1) (encG (wayL a b)) (t : Int) dk (i : Int) h.x h.y h.r1 h.a1 h.r2 h.a2 h.l.length (encS h.l) a.1 a.2 b.1 b.2) =
      some (.inr (ds a b + 1, encG (wayL a b), (((if i = 0 then t else if i ≤ tnN a.1 b.1 then t + 1 else t : Nat)) : Int), dk && !anyR h (stpN b i a).1 (stpN b i a).2, (i : Int), h.x, h.y, h.r1, h.a1, h.r2, h.a2, h.l.length, encS h.l, a.1, a.2, b.1, b.2)) := by
  have hd := ds_le ha hb
  have hl2 : h.l.length < 4294967296 := by omega
  have hv := (stpN_ok ha hb i hi).1
  have hr := isReserved_is h (stpN b i a).1 (stpN b i a).2 hl2
  rw [hok, dirE_in hv.1 hv.2, show both (0 : Int) 0 = 0 from rfl, if_pos rfl] at hr
  have c1 : decide ((0 : Int) ≤ (i : Int) ∧ (i : Int) < ((ds a b + 1 : Nat) : Int)) = true := decide_eq_true ⟨by omega, by omega⟩
  refine LL3_ScanWays_1000043b_of (RL3_ScanWays_1000043a_of _ _ _ _ _ _ _ _ _ _ _ _ _ _ _ _ _ ?_)
  unfold BL3_ScanWays_1000043a
  simp only [c1, cond_true, Int.toNat_natCast, encG_0, encG_1, encG_00, encG_01, wayL_get hi, Option.map_some, intC_int, refDirection_is, dirE_in hv.1 hv.2, copyHead_is h hl8, hr, bindO_val, bne_self_eq_false, cond_false]
  cases i with
  | zero =>
    simp only [show (((0 : Nat) : Int) == 0) = true from rfl, cond_true, if_true]
    cases anyR h (stpN b 0 a).1 (stpN b 0 a).2 <;> cases dk <;> rfl
  | succ j =>
    have hvj := (stpN_ok ha hb j (by omega)).1
    have e1 : w64 (((j + 1 : Nat) : Int) - 1) = (j : Int) := by rw [w64_in (by omega)]; omega
    have c2 : decide ((0 : Int) ≤ (j : Int) ∧ (j : Int) < ((ds a b + 1 : Nat) : Int)) = true := decide_eq_true ⟨by omega, by omega⟩
    have n0 : (((j + 1 : Nat) : Int) == 0) = false := by
      rw [beq_eq_false_iff_ne]
      omega
    have hs : stpN b (j + 1) a = stp (stpN b j a) b := stpN_succ b j a
    have hn : (if j + 1 = 0 then t else if j + 1 ≤ tnN a.1 b.1 then t + 1 else t) = if j + 1 ≤ tnN a.1 b.1 then t + 1 else t := if_neg (by omega)
    rw [hn]
    have wd : w64 ((stpN b (j + 1) a).1 - (stpN b j a).1) = (stpN b (j + 1) a).1 - (stpN b j a).1 := w64_in (by have := hv.1; have := hvj.1; omega)
    have we : w64 ((stpN b (j + 1) a).2 - (stpN b j a).2) = (stpN b (j + 1) a).2 - (stpN b j a).2 := w64_in (by have := hv.2; have := hvj.2; omega)
    have hm := mod_any ((stpN b (j + 1) a).1 - (stpN b j a).1) (by have := hv.1; have := hvj.1; omega)
    simp only [n0, cond_false, e1, c2, cond_true, Int.toNat_natCast, encG_00, encG_01, wayL_get (show j ≤ ds a b by omega), Option.map_some, intC_int, bindO_val, wd, we, hm]
    by_cases hj : j + 1 ≤ tnN a.1 b.1
    · obtain ⟨k1, k2⟩ := stpN_az ha hb j (by omega)
      obtain ⟨k3, k4⟩ := stpN_az ha hb (j + 1) hj
      have hz : (stpN b (j + 1) a).2 - (stpN b j a).2 = 0 := by omega
      have hne : (stpN b j a).1 ≠ b.1 := by
        intro e
        have := (tn_zero hvj.1 hb.1).2 e
        omega
      have hy : ((stpN b (j + 1) a).1 - (stpN b j a).1) % 360 = 1 ∨ ((stpN b (j + 1) a).1 - (stpN b j a).1) % 360 = 359 := by
        have h1 := hvj.1
        have h2 := hb.1
        rw [hs]
        unfold stp
        split
        · right; simp only; omega
        · split
          · left; simp only; omega
          · rename_i g1 g2
            exfalso
            unfold up0 at g1 g2
            omega
      have e2 : w64 ((t : Int) + 1) = ((t + 1 : Nat) : Int) := by rw [w64_in (by omega)]; omega
      rw [if_pos hj, hz, e2]
      rcases hy with hy | hy
      · rw [hy]
        cases anyR h (stpN b (j + 1) a).1 (stpN b (j + 1) a).2 <;> cases dk <;> rfl
      · rw [hy]
        cases anyR h (stpN b (j + 1) a).1 (stpN b (j + 1) a).2 <;> cases dk <;> rfl
    · obtain ⟨r, hrj⟩ : ∃ r, j = tnN a.1 b.1 + r := ⟨j - tnN a.1 b.1, by omega⟩
      have hde := ds_eq a b
      obtain ⟨k1, _, _⟩ := el_step ha hb (i := r) (by omega)
      rw [show tnN a.1 b.1 + (r + 1) = j + 1 by omega, ← hrj] at k1
      have hz : ((stpN b (j + 1) a).1 - (stpN b j a).1) % 360 = 0 := by rw [k1]; simp
      have hy : (stpN b (j + 1) a).2 - (stpN b j a).2 = 1 ∨ (stpN b (j + 1) a).2 - (stpN b j a).2 = -1 := by
        rw [k1]
        simp only
        split
        · left; omega
        · right; omega
      rw [if_neg hj, hz]
      rcases hy with hy | hy
      · rw [hy]
        cases anyR h (stpN b (j + 1) a).1 (stpN b (j + 1) a).2 <;> cases dk <;> rfl
      · rw [hy]
        cases anyR h (stpN b (j + 1) a).1 (stpN b (j + 1) a).2 <;> cases dk <;> rfl
def dkN (h : Hd) (a b : ZZ) (i : Nat) : Bool := !((wayL a b).take i).any fun d => anyR h d.1 d.2
theorem wy0 : ∀ i, i ≤ ds a b + 1 → RL3_ScanWays_0 (TL3_ScanWays_0a (ds a b + 1) (encG (wayL a b)) ((min (i - 1) (tnN a.1 b.1) : Nat) : Int) (dkN h a b i) (i : Int) h.x h.y h.r1 h.a1 h.r2 h.a2 h.l.length (encS h.l) a.1 a.2 b.1 b.2) =
    exO (XLL3_ScanWays_0.fn (.inl ((tnN a.1 b.1 : Int), darkB h a b, h.x, h.y, h.r1, h.a1, h.r2, h.a2, h.l.length, encS h.l, a.1, a.2, b.1, b.2))) := by
  have hd := ds_le ha hb
  have ht := tn_le (p := a.1) (q := b.1)
  have hde := ds_eq a b
  refine up_ind _ ?_ ?_
  · refine RL3_ScanWays_0a_of _ _ _ _ _ _ _ _ _ _ _ _ _ _ _ _ _ ?_
    unfold BL3_ScanWays_0a
    rw [bif_neg (by omega), show min (ds a b + 1 - 1) (tnN a.1 b.1) = tnN a.1 b.1 by omega]
    have e : dkN h a b (ds a b + 1) = darkB h a b := by
      unfold dkN darkB fst1
      rw [find_any, List.take_of_length_le (by rw [wayL_len]; omega)]
    rw [e]
    rfl
  · intro i hi ih
    refine RL3_ScanWays_0a_of _ _ _ _ _ _ _ _ _ _ _ _ _ _ _ _ _ ?_
    unfold BL3_ScanWays_0a
    rw [bif_pos (by omega)]
    simp only [wy43 h hl8 hok ha hb (min (i - 1) (tnN a.1 b.1)) (by omega) (dkN h a b i) i (by omega), bindO_val, Sum.elim_inr]
    have e1 : (if i = 0 then min (i - 1) (tnN a.1 b.1) else if i ≤ tnN a.1 b.1 then min (i - 1) (tnN a.1 b.1) + 1 else min (i - 1) (tnN a.1 b.1)) = min (i + 1 - 1) (tnN a.1 b.1) := by
      split
      · omega
      · split <;> omega
    have e2 : (dkN h a b i && !anyR h (stpN b i a).1 (stpN b i a).2) = dkN h a b (i + 1) := by
      unfold dkN
      rw [List.take_add_one, wayL_get (by omega), List.any_append]
      simp
    rw [e1, e2, w64_in (by omega)]
    exact ih
end

theorem waysLaw (h : Hd) (a b : ZZ) : FL3_ScanWays [encH h, encD a, encD b] = some true := by
  refine FL3_ScanWays_of _ _ _ _ _ _ _ _ _ _ _ _ ?_
  unfold tL3_ScanWays
  simp only [awake_is, bindO_val, cond_true]
  by_cases hg : h.l.length ≤ 8 ∧ (headIE h).2 = 0 ∧ dirE a.1 a.2 = 0 ∧ dirE b.1 b.2 = 0
  · obtain ⟨hl8, hok, h1, h2⟩ := hg
    have ha : Vd a := dirE_v h1
    have hb : Vd b := dirE_v h2
    have hl2 : h.l.length < 4294967296 := by omega
    have hw1 := wayOf_is a b
    have hw2 := wayOf_is b a
    rw [h1, h2, show both (0 : Int) 0 = 0 from rfl, if_pos rfl] at hw1 hw2
    have hx := LL3_ScanWays_0a_of (wy0 h hl8 hok ha hb 0 (Nat.zero_le _))
    have hx : LL3_ScanWays_0 (TL3_ScanWays_0a (ds a b + 1) (encG (wayL a b)) 0 true 0 h.x h.y h.r1 h.a1 h.r2 h.a2 h.l.length (encS h.l) a.1 a.2 b.1 b.2) = _ := hx
    have m0 : mvE h a b = 0 := by unfold mvE first3; rw [hok, h1, h2]; rfl
    have m1 : mvE h b a = 0 := by unfold mvE first3; rw [hok, h1, h2]; rfl
    obtain ⟨T1, T2, b1, b2, f1, f2, g1, _⟩ := moves_are (hdD_of hok) ha hb
    obtain ⟨U1, U2, _, _, k1, k2, l1, _⟩ := moves_are (hdD_of hok) hb ha
    rw [tn_comm, f1] at k1
    rw [elN_comm, f2] at k2
    have e1 : T1 = U1 := by
      simp only [Option.some.injEq] at k1
      omega
    have e2 : T2 = U2 := by
      simp only [Option.some.injEq] at k2
      omega
    subst e1
    subst e2
    have t1 := moveTicks_is h hl2 a b _ fun _ => g1
    have t2 := moveTicks_is h hl2 b a _ fun _ => l1
    rw [if_pos m0] at t1
    rw [if_pos m1] at t2
    have hdk := isDark_is h hl2 a b
    rw [if_pos m0] at hdk
    have ht := tn_le (p := a.1) (q := b.1)
    simp only [wy73 h hl8 hok ha hb, hw1, hw2, wy62 h ha hb, hx, copyHead_is h hl8, t1, t2, hdk, bindO_val, Sum.elim_inr, Sum.elim_inl, beq_self_eq_true, cond_true]
    rw [w64_in (by omega)]
    cases darkB h a b
    · simp only [cond_false]
      rw [bif_pos (by omega)]
    · simp only [cond_true]
      rw [bif_pos (by omega)]
  · have hz : LL3_ScanWays_1000073 (TL3_ScanWays_1000073a h.x h.y h.r1 h.a1 h.r2 h.a2 h.l.length (encS h.l) a.1 a.2 b.1 b.2) = some (.inl ()) := by
      refine LL3_ScanWays_1000073a_of (y := ()) (RL3_ScanWays_1000073a_of _ _ _ _ _ _ _ _ _ _ _ _ ?_)
      unfold BL3_ScanWays_1000073a
      simp only [few_is h, refDirection_is, bindO_val]
      by_cases g1 : h.l.length ≤ 8
      · rw [bif_pos (by omega)]
        simp only [headErr_is h (by omega), bindO_val, bif_ne]
        by_cases g2 : (headIE h).2 = 0
        · rw [if_pos g2]
          by_cases g3 : dirE a.1 a.2 = 0
          · rw [if_pos g3]
            by_cases g4 : dirE b.1 b.2 = 0
            · exact absurd ⟨g1, g2, g3, g4⟩ hg
            · rw [if_neg g4]; rfl
          · rw [if_neg g3]; rfl
        · rw [if_neg g2]; rfl
      · rw [bif_neg (by omega)]; rfl
    rw [hz]
    rfl
end Gv
