/- Corridors: the reference, and the earliest tick. -/
import Derived.Test.YtpbpkbckgifhdaaK4
namespace Gv
open Go
set_option maxRecDepth 100000
def eq6 (a b : B6) : Bool := (a.1 == b.1) && ((a.2.1 == b.2.1) && ((a.2.2.1 == b.2.2.1) && ((a.2.2.2.1 == b.2.2.2.1) && ((a.2.2.2.2.1 == b.2.2.2.2.1) && ((a.2.2.2.2.2 == b.2.2.2.2.2) && true)))))
theorem eq6_iff (a b : B6) : eq6 a b = true ↔ a = b := by
  obtain ⟨a1, a2, a3, a4, a5, a6⟩ := a
  obtain ⟨b1, b2, b3, b4, b5, b6⟩ := b
  simp [eq6]
theorem see_tick {b d : B6} (hb : boxE b = 0) (hd : driE d = 0) {t : Int} (ht : 0 ≤ t) (c : C7) :
    FrMeet [enc6 (aftV b d t), enc6 (regR c)] = some (app7 (meetB (aftV b d t) (regV c)) (decide (Good (meetV (aftV b d t) (regV c))))) ∧
      (Good (meetV (aftV b d t) (regV c)) → eq6 (meetB (aftV b d t) (regV c)) (aftV b d t) = decide (InB (aftV b d t) (regV c))) := by
  have h := rMeet_is (aftV b d t) (regR c)
  unfold meetB at h
  rw [reg_meet hb hd ht c] at h
  refine ⟨h, fun hg => ?_⟩
  unfold meetB
  rw [if_pos hg]
  have h2 := in_meet (r := regV c) (aft_good hb hd ht).1
  by_cases hi : InB (aftV b d t) (regV c)
  · rw [decide_eq_true hi, (eq6_iff _ _).2 (h2.2 hi).2]
  · rw [decide_eq_false hi]
    cases he : eq6 (meetV (aftV b d t) (regV c)) (aftV b d t) with
    | false => rfl
    | true => exact absurd (h2.1 ⟨hg, (eq6_iff _ _).1 he⟩) hi
theorem in_good {b d : B6} (hb : boxE b = 0) (hd : driE d = 0) {t : Int} (ht : 0 ≤ t) {r : B6} (h : InB (aftV b d t) r) : Good (meetV (aftV b d t) r) := ((in_meet (aft_good hb hd ht).1).2 h).1
theorem rFree_loop {b d : B6} {c : C7} (hb : boxE b = 0) (hd : driE d = 0) (hc : corV c = 0) : ∀ (k : Nat) (t a : Int), 0 ≤ t → t + k = c.2.2.2.2.2.2 + 1 →
    match freeG b d (regV c) k t a with
    | none => RrFree_0 (TrFree_0b a t d.1 d.2.1 d.2.2.1 d.2.2.2.1 d.2.2.2.2.1 d.2.2.2.2.2 c.1 c.2.1 c.2.2.1 c.2.2.2.1 c.2.2.2.2.1 c.2.2.2.2.2.1 c.2.2.2.2.2.2 (aftV b d t).1 (aftV b d t).2.1 (aftV b d t).2.2.1 (aftV b d t).2.2.2.1 (aftV b d t).2.2.2.2.1 (aftV b d t).2.2.2.2.2) = exO (XrFree_0a ())
    | some x => RrFree_0 (TrFree_0b a t d.1 d.2.1 d.2.2.1 d.2.2.2.1 d.2.2.2.2.1 d.2.2.2.2.2 c.1 c.2.1 c.2.2.1 c.2.2.2.1 c.2.2.2.2.1 c.2.2.2.2.2.1 c.2.2.2.2.2.2 (aftV b d t).1 (aftV b d t).2.1 (aftV b d t).2.2.1 (aftV b d t).2.2.2.1 (aftV b d t).2.2.2.2.1 (aftV b d t).2.2.2.2.2) = exO (XrFree_0b (x, d.1, d.2.1, d.2.2.1, d.2.2.2.1, d.2.2.2.2.1, d.2.2.2.2.2, c.1, c.2.1, c.2.2.1, c.2.2.2.1, c.2.2.2.2.1, c.2.2.2.2.2.1, c.2.2.2.2.2.2, (aftV b d (c.2.2.2.2.2.2 + 1)).1, (aftV b d (c.2.2.2.2.2.2 + 1)).2.1, (aftV b d (c.2.2.2.2.2.2 + 1)).2.2.1, (aftV b d (c.2.2.2.2.2.2 + 1)).2.2.2.1, (aftV b d (c.2.2.2.2.2.2 + 1)).2.2.2.2.1, (aftV b d (c.2.2.2.2.2.2 + 1)).2.2.2.2.2))
  | 0, t, a, h0, hk => by
    show RrFree_0 _ = _
    have e : t = c.2.2.2.2.2.2 + 1 := by omega
    refine RrFree_0b_of _ _ _ _ _ _ _ _ _ _ _ _ _ _ _ _ _ _ _ _ _ ?_
    unfold BrFree_0b
    rw [bif_neg (by omega), e]
    rfl
  | k + 1, t, a, h0, hk => by
    have hco := corV_ok hc
    have hR : FrReg [encO c] = _ := rReg_is c
    obtain ⟨hM, hE⟩ := see_tick hb hd h0 c
    have hN := rNext_is (b := aftV b d t) (d := d) (aft_sm hb hd (by omega)).1 hd
    rw [aft_succ hd h0] at hN
    simp only [enc6, encO] at hR hM hN
    have step : ∀ y, ¬ InB (aftV b d t) (regV c) → RrFree_0 (TrFree_0b (if Good (meetV (aftV b d t) (regV c)) then 1 else a) (t + 1) d.1 d.2.1 d.2.2.1 d.2.2.2.1 d.2.2.2.2.1 d.2.2.2.2.2 c.1 c.2.1 c.2.2.1 c.2.2.2.1 c.2.2.2.2.1 c.2.2.2.2.2.1 c.2.2.2.2.2.2 (aftV b d (t + 1)).1 (aftV b d (t + 1)).2.1 (aftV b d (t + 1)).2.2.1 (aftV b d (t + 1)).2.2.2.1 (aftV b d (t + 1)).2.2.2.2.1 (aftV b d (t + 1)).2.2.2.2.2) = some y → RrFree_0 (TrFree_0b a t d.1 d.2.1 d.2.2.1 d.2.2.2.1 d.2.2.2.2.1 d.2.2.2.2.2 c.1 c.2.1 c.2.2.1 c.2.2.2.1 c.2.2.2.2.1 c.2.2.2.2.2.1 c.2.2.2.2.2.2 (aftV b d t).1 (aftV b d t).2.1 (aftV b d t).2.2.1 (aftV b d t).2.2.2.1 (aftV b d t).2.2.2.2.1 (aftV b d t).2.2.2.2.2) = some y := fun y hi hy => by
      refine RrFree_0b_of _ _ _ _ _ _ _ _ _ _ _ _ _ _ _ _ _ _ _ _ _ ?_
      unfold BrFree_0b
      rw [bif_pos (by omega)]
      simp only [hR, hM, hN, bindO_val, app7]
      rw [w64_in (by omega)]
      by_cases hg : Good (meetV (aftV b d t) (regV c))
      · rw [if_pos hg] at hy
        have he := hE hg
        unfold eq6 at he
        simp only [he, hg, hi, decide_true, decide_false, cond_true, cond_false]
        exact hy
      · rw [if_neg hg] at hy
        simp only [hg, decide_false, cond_false]
        exact hy
    unfold freeG
    by_cases hi : InB (aftV b d t) (regV c)
    · rw [if_pos hi]
      have hg := in_good hb hd h0 hi
      refine RrFree_0b_of _ _ _ _ _ _ _ _ _ _ _ _ _ _ _ _ _ _ _ _ _ ?_
      unfold BrFree_0b
      rw [bif_pos (by omega)]
      have he := hE hg
      unfold eq6 at he
      simp only [hR, hM, bindO_val, app7, he, hg, hi, decide_true, cond_true]
      rfl
    · rw [if_neg hi]
      have ih := rFree_loop hb hd hc k (t + 1) (if Good (meetV (aftV b d t) (regV c)) then 1 else a) (by omega) (by omega)
      split at ih <;> exact step _ hi ih
theorem rFree_is {b d : B6} {c : C7} (hb : boxE b = 0) (hd : driE d = 0) (hc : corV c = 0) : FrFree [enc6 b, enc6 d, encO c] = some (freeV b d c (regV c)) := by
  refine FrFree_of _ _ _ _ _ _ _ _ _ _ _ _ _ _ _ _ _ _ _ ?_
  unfold trFree
  have hco := corV_ok hc
  have hA := rAft_is hb hd (t := c.2.2.2.2.2.1) (by omega)
  simp only [enc6] at hA
  simp only [hA, bindO_val]
  obtain ⟨k, hk⟩ : ∃ k : Nat, (c.2.2.2.2.2.2 + 1 - c.2.2.2.2.2.1).toNat = k + 1 := ⟨(c.2.2.2.2.2.2 - c.2.2.2.2.2.1).toNat, by omega⟩
  have hR : FrReg [encO c] = _ := rReg_is c
  obtain ⟨hM, hE⟩ := see_tick hb hd (t := c.2.2.2.2.2.1) (by omega) c
  have hN := rNext_is (b := aftV b d (c.2.2.2.2.2.1)) (d := d) (aft_sm hb hd (by omega)).1 hd
  rw [aft_succ hd (by omega)] at hN
  simp only [enc6, encO] at hR hM hN
  unfold freeV
  rw [hk]
  unfold freeG
  by_cases hi : InB (aftV b d (c.2.2.2.2.2.1)) (regV c)
  · rw [if_pos hi]
    have hg := in_good hb hd (show 0 ≤ c.2.2.2.2.2.1 by omega) hi
    have he := hE hg
    unfold eq6 at he
    have h1 : RrFree_0 (TrFree_0a (c.2.2.2.2.2.1) b.1 b.2.1 b.2.2.1 b.2.2.2.1 b.2.2.2.2.1 b.2.2.2.2.2 d.1 d.2.1 d.2.2.1 d.2.2.2.1 d.2.2.2.2.1 d.2.2.2.2.2 c.1 c.2.1 c.2.2.1 c.2.2.2.1 c.2.2.2.2.1 c.2.2.2.2.2.1 c.2.2.2.2.2.2 (aftV b d (c.2.2.2.2.2.1)).1 (aftV b d (c.2.2.2.2.2.1)).2.1 (aftV b d (c.2.2.2.2.2.1)).2.2.1 (aftV b d (c.2.2.2.2.2.1)).2.2.2.1 (aftV b d (c.2.2.2.2.2.1)).2.2.2.2.1 (aftV b d (c.2.2.2.2.2.1)).2.2.2.2.2) = exO (XrFree_0a ()) := by
      refine RrFree_0a_of _ _ _ _ _ _ _ _ _ _ _ _ _ _ _ _ _ _ _ _ _ _ _ _ _ _ ?_
      unfold BrFree_0a
      rw [bif_pos (by omega)]
      simp only [hR, hM, bindO_val, app7, he, hg, hi, decide_true, cond_true]
      rfl
    rw [LrFree_0a_of h1]
    rfl
  · rw [if_neg hi]
    have step : ∀ y, RrFree_0 (TrFree_0b (if Good (meetV (aftV b d (c.2.2.2.2.2.1)) (regV c)) then 1 else 2) (c.2.2.2.2.2.1 + 1) d.1 d.2.1 d.2.2.1 d.2.2.2.1 d.2.2.2.2.1 d.2.2.2.2.2 c.1 c.2.1 c.2.2.1 c.2.2.2.1 c.2.2.2.2.1 c.2.2.2.2.2.1 c.2.2.2.2.2.2 (aftV b d (c.2.2.2.2.2.1 + 1)).1 (aftV b d (c.2.2.2.2.2.1 + 1)).2.1 (aftV b d (c.2.2.2.2.2.1 + 1)).2.2.1 (aftV b d (c.2.2.2.2.2.1 + 1)).2.2.2.1 (aftV b d (c.2.2.2.2.2.1 + 1)).2.2.2.2.1 (aftV b d (c.2.2.2.2.2.1 + 1)).2.2.2.2.2) = some y → RrFree_0 (TrFree_0a (c.2.2.2.2.2.1) b.1 b.2.1 b.2.2.1 b.2.2.2.1 b.2.2.2.2.1 b.2.2.2.2.2 d.1 d.2.1 d.2.2.1 d.2.2.2.1 d.2.2.2.2.1 d.2.2.2.2.2 c.1 c.2.1 c.2.2.1 c.2.2.2.1 c.2.2.2.2.1 c.2.2.2.2.2.1 c.2.2.2.2.2.2 (aftV b d (c.2.2.2.2.2.1)).1 (aftV b d (c.2.2.2.2.2.1)).2.1 (aftV b d (c.2.2.2.2.2.1)).2.2.1 (aftV b d (c.2.2.2.2.2.1)).2.2.2.1 (aftV b d (c.2.2.2.2.2.1)).2.2.2.2.1 (aftV b d (c.2.2.2.2.2.1)).2.2.2.2.2) = some y := fun y hy => by
      refine RrFree_0a_of _ _ _ _ _ _ _ _ _ _ _ _ _ _ _ _ _ _ _ _ _ _ _ _ _ _ ?_
      unfold BrFree_0a
      rw [bif_pos (by omega)]
      simp only [hR, hM, hN, bindO_val, app7]
      rw [w64_in (by omega)]
      by_cases hg : Good (meetV (aftV b d (c.2.2.2.2.2.1)) (regV c))
      · rw [if_pos hg] at hy
        have he := hE hg
        unfold eq6 at he
        simp only [he, hg, hi, decide_true, decide_false, cond_true, cond_false]
        exact hy
      · rw [if_neg hg] at hy
        simp only [hg, decide_false, cond_false]
        exact hy
    have ih := rFree_loop hb hd hc k (c.2.2.2.2.2.1 + 1) (if Good (meetV (aftV b d (c.2.2.2.2.2.1)) (regV c)) then 1 else 2) (by omega) (by omega)
    split at ih
    · rename_i hg
      rw [LrFree_0a_of (step _ ih), hg]
      rfl
    · rename_i x hg
      rw [LrFree_0b_of (step _ ih), hg]
      rfl
def metAt (b d : B6) (c : C7) (t : Int) : Prop := Good (meetV (aftV b d t) (regV c))
instance (b d : B6) (c : C7) (t : Int) : Decidable (metAt b d c t) := by unfold metAt; infer_instance
def earlP (b d : B6) (c : C7) : Nat → Int
  | 0 => c.2.2.2.2.2.1
  | n + 1 => if metAt b d c (c.2.2.2.2.2.1 + n) then c.2.2.2.2.2.1 + n + 1 else earlP b d c n
def earlV (b d : B6) (c : C7) : Int × Int := if metAt b d c (c.2.2.2.2.2.2) then (0, 12) else (earlP b d c (c.2.2.2.2.2.2 - c.2.2.2.2.2.1).toNat, 0)
theorem earl_loop {b d : B6} {c : C7} (hb : boxE b = 0) (hd : driE d = 0) (hc : corV c = 0) : ∀ (n : Nat), c.2.2.2.2.2.1 + n ≤ c.2.2.2.2.2.2 →
    Rearl_0 (Tearl_0a (c.2.2.2.2.2.1 + n - 1) b.1 b.2.1 b.2.2.1 b.2.2.2.1 b.2.2.2.2.1 b.2.2.2.2.2 d.1 d.2.1 d.2.2.1 d.2.2.2.1 d.2.2.2.2.1 d.2.2.2.2.2 c.1 c.2.1 c.2.2.1 c.2.2.2.1 c.2.2.2.2.1 c.2.2.2.2.2.1 c.2.2.2.2.2.2 (regV c).1 (regV c).2.1 (regV c).2.2.1 (regV c).2.2.2.1 (regV c).2.2.2.2.1 (regV c).2.2.2.2.2) = exO (Xearl_0a (earlP b d c n, 0)) ∨ (Rearl_0 (Tearl_0a (c.2.2.2.2.2.1 + n - 1) b.1 b.2.1 b.2.2.1 b.2.2.2.1 b.2.2.2.2.1 b.2.2.2.2.2 d.1 d.2.1 d.2.2.1 d.2.2.2.1 d.2.2.2.2.1 d.2.2.2.2.2 c.1 c.2.1 c.2.2.1 c.2.2.2.1 c.2.2.2.2.1 c.2.2.2.2.2.1 c.2.2.2.2.2.2 (regV c).1 (regV c).2.1 (regV c).2.2.1 (regV c).2.2.2.1 (regV c).2.2.2.2.1 (regV c).2.2.2.2.2) = exO (Xearl_0b (b.1, b.2.1, b.2.2.1, b.2.2.2.1, b.2.2.2.2.1, b.2.2.2.2.2, d.1, d.2.1, d.2.2.1, d.2.2.2.1, d.2.2.2.2.1, d.2.2.2.2.2, c.1, c.2.1, c.2.2.1, c.2.2.2.1, c.2.2.2.2.1, c.2.2.2.2.2.1, c.2.2.2.2.2.2, (regV c).1, (regV c).2.1, (regV c).2.2.1, (regV c).2.2.2.1, (regV c).2.2.2.2.1, (regV c).2.2.2.2.2)) ∧ earlP b d c n = c.2.2.2.2.2.1)
  | 0, hn => by
    right
    refine ⟨?_, rfl⟩
    refine Rearl_0a_of _ _ _ _ _ _ _ _ _ _ _ _ _ _ _ _ _ _ _ _ _ _ _ _ _ _ ?_
    unfold Bearl_0a
    rw [bif_neg (by omega)]
    rfl
  | n + 1, hn => by
    have hco := corV_ok hc
    have e0 : c.2.2.2.2.2.1 + ((n + 1 : Nat) : Int) - 1 = c.2.2.2.2.2.1 + n := by omega
    rw [e0]
    have hA := bAft_is (b := b) (d := d) (t := c.2.2.2.2.2.1 + n) (box_sm hb).1 hd (by omega)
    have hM := meet_is (aftV b d (c.2.2.2.2.2.1 + n)) (regV c)
    have hE := isEm_is (meetV (aftV b d (c.2.2.2.2.2.1 + n)) (regV c))
    simp only [enc6] at hA hM hE
    unfold earlP
    by_cases hg : metAt b d c (c.2.2.2.2.2.1 + n)
    · left
      rw [if_pos hg]
      refine Rearl_0a_of _ _ _ _ _ _ _ _ _ _ _ _ _ _ _ _ _ _ _ _ _ _ _ _ _ _ ?_
      unfold Bearl_0a
      rw [bif_pos (by omega)]
      have hg' : Good (meetV (aftV b d (c.2.2.2.2.2.1 + n)) (regV c)) := hg
      have hne : ((c.2.2.2.2.2.1 + (n : Int)) == c.2.2.2.2.2.2) = false := by rw [beq_eq_false_iff_ne]; omega
      simp only [hA, hM, hE, bindO_val, hg', not_true, decide_false, cond_false, hne]
      rw [w64_in (by omega)]
      rfl
    · rw [if_neg hg]
      have hg' : ¬ Good (meetV (aftV b d (c.2.2.2.2.2.1 + n)) (regV c)) := hg
      have step : ∀ y, Rearl_0 (Tearl_0a (c.2.2.2.2.2.1 + n - 1) b.1 b.2.1 b.2.2.1 b.2.2.2.1 b.2.2.2.2.1 b.2.2.2.2.2 d.1 d.2.1 d.2.2.1 d.2.2.2.1 d.2.2.2.2.1 d.2.2.2.2.2 c.1 c.2.1 c.2.2.1 c.2.2.2.1 c.2.2.2.2.1 c.2.2.2.2.2.1 c.2.2.2.2.2.2 (regV c).1 (regV c).2.1 (regV c).2.2.1 (regV c).2.2.2.1 (regV c).2.2.2.2.1 (regV c).2.2.2.2.2) = some y → Rearl_0 (Tearl_0a (c.2.2.2.2.2.1 + n) b.1 b.2.1 b.2.2.1 b.2.2.2.1 b.2.2.2.2.1 b.2.2.2.2.2 d.1 d.2.1 d.2.2.1 d.2.2.2.1 d.2.2.2.2.1 d.2.2.2.2.2 c.1 c.2.1 c.2.2.1 c.2.2.2.1 c.2.2.2.2.1 c.2.2.2.2.2.1 c.2.2.2.2.2.2 (regV c).1 (regV c).2.1 (regV c).2.2.1 (regV c).2.2.2.1 (regV c).2.2.2.2.1 (regV c).2.2.2.2.2) = some y := fun y hy => by
        refine Rearl_0a_of _ _ _ _ _ _ _ _ _ _ _ _ _ _ _ _ _ _ _ _ _ _ _ _ _ _ ?_
        unfold Bearl_0a
        rw [bif_pos (by omega)]
        simp only [hA, hM, hE, bindO_val, hg', not_false_eq_true, decide_true, cond_true]
        rw [w64_in (by omega)]
        exact hy
      exact (earl_loop hb hd hc n (by omega)).imp (step _) fun h => ⟨step _ h.1, h.2⟩
theorem earl_is (b d : B6) (c : C7) : Fearl [enc6 b, enc6 d, encO c] = some (if freV b d c = 0 then earlV b d c else (0, freV b d c)) := by
  refine Fearl_of _ _ _ _ _ _ _ _ _ _ _ _ _ _ _ _ _ _ _ ?_
  unfold tearl
  have h1 : FfreE [enc6 b, enc6 d, encO c] = _ := freE_is b d c
  have h2 : FregO [encO c] = _ := regO_is c
  simp only [enc6, encO] at h1 h2
  simp only [h1, h2, bindO_val, bif_ne]
  by_cases hz : freV b d c = 0
  · obtain ⟨hb, hd, hc⟩ := freV_ok hz
    have hco := corV_ok hc
    rw [if_pos hz]
    simp only [hz, if_true]
    have hA := bAft_is (b := b) (d := d) (t := c.2.2.2.2.2.2) (box_sm hb).1 hd (by omega)
    have hM := meet_is (aftV b d (c.2.2.2.2.2.2)) (regV c)
    have hE := isEm_is (meetV (aftV b d (c.2.2.2.2.2.2)) (regV c))
    simp only [enc6] at hA hM hE
    unfold earlV
    by_cases hg : metAt b d c (c.2.2.2.2.2.2)
    · rw [if_pos hg]
      have hg' : Good (meetV (aftV b d (c.2.2.2.2.2.2)) (regV c)) := hg
      have hr : Rearl_0 (Tearl_0a (c.2.2.2.2.2.2) b.1 b.2.1 b.2.2.1 b.2.2.2.1 b.2.2.2.2.1 b.2.2.2.2.2 d.1 d.2.1 d.2.2.1 d.2.2.2.1 d.2.2.2.2.1 d.2.2.2.2.2 c.1 c.2.1 c.2.2.1 c.2.2.2.1 c.2.2.2.2.1 c.2.2.2.2.2.1 c.2.2.2.2.2.2 (regV c).1 (regV c).2.1 (regV c).2.2.1 (regV c).2.2.2.1 (regV c).2.2.2.2.1 (regV c).2.2.2.2.2) = exO (Xearl_0a (0, 12)) := by
        refine Rearl_0a_of _ _ _ _ _ _ _ _ _ _ _ _ _ _ _ _ _ _ _ _ _ _ _ _ _ _ ?_
        unfold Bearl_0a
        rw [bif_pos (by omega)]
        simp only [hA, hM, hE, bindO_val, hg', not_true, decide_false, cond_false, beq_self_eq_true, cond_true]
        rfl
      rw [Learl_0a_of hr]
      rfl
    · rw [if_neg hg]
      have hg' : ¬ Good (meetV (aftV b d (c.2.2.2.2.2.2)) (regV c)) := hg
      have step : ∀ y, Rearl_0 (Tearl_0a (c.2.2.2.2.2.2 - 1) b.1 b.2.1 b.2.2.1 b.2.2.2.1 b.2.2.2.2.1 b.2.2.2.2.2 d.1 d.2.1 d.2.2.1 d.2.2.2.1 d.2.2.2.2.1 d.2.2.2.2.2 c.1 c.2.1 c.2.2.1 c.2.2.2.1 c.2.2.2.2.1 c.2.2.2.2.2.1 c.2.2.2.2.2.2 (regV c).1 (regV c).2.1 (regV c).2.2.1 (regV c).2.2.2.1 (regV c).2.2.2.2.1 (regV c).2.2.2.2.2) = some y → Rearl_0 (Tearl_0a (c.2.2.2.2.2.2) b.1 b.2.1 b.2.2.1 b.2.2.2.1 b.2.2.2.2.1 b.2.2.2.2.2 d.1 d.2.1 d.2.2.1 d.2.2.2.1 d.2.2.2.2.1 d.2.2.2.2.2 c.1 c.2.1 c.2.2.1 c.2.2.2.1 c.2.2.2.2.1 c.2.2.2.2.2.1 c.2.2.2.2.2.2 (regV c).1 (regV c).2.1 (regV c).2.2.1 (regV c).2.2.2.1 (regV c).2.2.2.2.1 (regV c).2.2.2.2.2) = some y := fun y hy => by
        refine Rearl_0a_of _ _ _ _ _ _ _ _ _ _ _ _ _ _ _ _ _ _ _ _ _ _ _ _ _ _ ?_
        unfold Bearl_0a
        rw [bif_pos (by omega)]
        simp only [hA, hM, hE, bindO_val, hg', not_false_eq_true, decide_true, cond_true]
        rw [w64_in (by omega)]
        exact hy
      have hl := earl_loop hb hd hc (c.2.2.2.2.2.2 - c.2.2.2.2.2.1).toNat (by omega)
      have e0 : c.2.2.2.2.2.1 + (((c.2.2.2.2.2.2 - c.2.2.2.2.2.1).toNat : Nat) : Int) - 1 = c.2.2.2.2.2.2 - 1 := by omega
      rw [e0] at hl
      rcases hl with hl | ⟨hl, he⟩
      · rw [Learl_0a_of (step _ hl)]
        rfl
      · rw [Learl_0b_of (step _ hl), he]
        rfl
  · rw [if_neg hz]
    simp only [hz, if_false]
def earlS (b d : B6) (c : C7) : Nat → Int × Bool
  | 0 => (0, false)
  | n + 1 => if metAt b d c (c.2.2.2.2.2.1 + n) then ((earlS b d c n).1, false) else if (earlS b d c n).2 then earlS b d c n else (c.2.2.2.2.2.1 + n, true)
theorem earlS_P (b d : B6) (c : C7) : ∀ n : Nat, ((earlS b d c n).2 = true → (earlS b d c n).1 = earlP b d c n) ∧ ((earlS b d c n).2 = false → earlP b d c n = c.2.2.2.2.2.1 + n)
  | 0 => ⟨fun h => by simp [earlS] at h, fun _ => by simp [earlP]⟩
  | n + 1 => by
    obtain ⟨h1, h2⟩ := earlS_P b d c n
    unfold earlS earlP
    by_cases hm : metAt b d c (c.2.2.2.2.2.1 + n)
    · rw [if_pos hm, if_pos hm]
      exact ⟨fun h => by simp at h, fun _ => by omega⟩
    · rw [if_neg hm, if_neg hm]
      cases hs : (earlS b d c n).2 with
      | true => exact ⟨fun _ => by simpa using h1 hs, fun h => by simp [hs] at h⟩
      | false => exact ⟨fun _ => by simpa using (h2 hs).symm, fun h => by simp at h⟩
theorem rEarl_loop {b d : B6} {c : C7} (hb : boxE b = 0) (hd : driE d = 0) (hc : corV c = 0) : ∀ (k n : Nat), c.2.2.2.2.2.1 + n + k = c.2.2.2.2.2.2 + 1 →
    RrEarl_0 (TrEarl_0b (earlS b d c n).1 (earlS b d c n).2 (c.2.2.2.2.2.1 + n) d.1 d.2.1 d.2.2.1 d.2.2.2.1 d.2.2.2.2.1 d.2.2.2.2.2 c.1 c.2.1 c.2.2.1 c.2.2.2.1 c.2.2.2.2.1 c.2.2.2.2.2.1 c.2.2.2.2.2.2 (aftV b d (c.2.2.2.2.2.1 + n)).1 (aftV b d (c.2.2.2.2.2.1 + n)).2.1 (aftV b d (c.2.2.2.2.2.1 + n)).2.2.1 (aftV b d (c.2.2.2.2.2.1 + n)).2.2.2.1 (aftV b d (c.2.2.2.2.2.1 + n)).2.2.2.2.1 (aftV b d (c.2.2.2.2.2.1 + n)).2.2.2.2.2) = exO (XrEarl_0a ((earlS b d c (n + k)).1, (earlS b d c (n + k)).2, d.1, d.2.1, d.2.2.1, d.2.2.2.1, d.2.2.2.2.1, d.2.2.2.2.2, c.1, c.2.1, c.2.2.1, c.2.2.2.1, c.2.2.2.2.1, c.2.2.2.2.2.1, c.2.2.2.2.2.2, (aftV b d (c.2.2.2.2.2.2 + 1)).1, (aftV b d (c.2.2.2.2.2.2 + 1)).2.1, (aftV b d (c.2.2.2.2.2.2 + 1)).2.2.1, (aftV b d (c.2.2.2.2.2.2 + 1)).2.2.2.1, (aftV b d (c.2.2.2.2.2.2 + 1)).2.2.2.2.1, (aftV b d (c.2.2.2.2.2.2 + 1)).2.2.2.2.2))
  | 0, n, hk => by
    have e : c.2.2.2.2.2.1 + (n : Int) = c.2.2.2.2.2.2 + 1 := by omega
    refine RrEarl_0b_of _ _ _ _ _ _ _ _ _ _ _ _ _ _ _ _ _ _ _ _ _ _ ?_
    unfold BrEarl_0b
    rw [bif_neg (by omega), e]
    rfl
  | k + 1, n, hk => by
    have hco := corV_ok hc
    have hR : FrReg [encO c] = _ := rReg_is c
    obtain ⟨hM, _⟩ := see_tick hb hd (t := c.2.2.2.2.2.1 + n) (by omega) c
    have hN := rNext_is (b := aftV b d (c.2.2.2.2.2.1 + n)) (d := d) (aft_sm hb hd (by omega)).1 hd
    rw [aft_succ hd (by omega)] at hN
    simp only [enc6, encO] at hR hM hN
    have ih := rEarl_loop hb hd hc k (n + 1) (by omega)
    rw [show n + (k + 1) = n + 1 + k by omega]
    have e1 : c.2.2.2.2.2.1 + ((n + 1 : Nat) : Int) = c.2.2.2.2.2.1 + n + 1 := by omega
    rw [e1] at ih
    refine RrEarl_0b_of _ _ _ _ _ _ _ _ _ _ _ _ _ _ _ _ _ _ _ _ _ _ ?_
    unfold BrEarl_0b
    rw [bif_pos (by omega)]
    simp only [hR, hM, hN, bindO_val, app7]
    rw [w64_in (by omega)]
    conv at ih => lhs; unfold earlS
    by_cases hm : metAt b d c (c.2.2.2.2.2.1 + n)
    · have hg : Good (meetV (aftV b d (c.2.2.2.2.2.1 + n)) (regV c)) := hm
      rw [if_pos hm] at ih
      simp only [hg, decide_true, cond_true]
      exact ih
    · have hg : ¬ Good (meetV (aftV b d (c.2.2.2.2.2.1 + n)) (regV c)) := hm
      rw [if_neg hm] at ih
      simp only [hg, decide_false, cond_false]
      cases hs : (earlS b d c n).2 with
      | true =>
        rw [hs] at ih
        simp only [if_true] at ih
        simp only [cond_true]
        rw [hs] at ih
        exact ih
      | false =>
        rw [hs] at ih
        simp only [Bool.false_eq_true, if_false] at ih
        simp only [cond_false]
        exact ih
theorem rEarl_is {b d : B6} {c : C7} (hb : boxE b = 0) (hd : driE d = 0) (hc : corV c = 0) : FrEarl [enc6 b, enc6 d, encO c] = some (if (earlV b d c).2 = 0 then (earlV b d c).1 else 0, decide ((earlV b d c).2 = 0)) := by
  refine FrEarl_of _ _ _ _ _ _ _ _ _ _ _ _ _ _ _ _ _ _ _ ?_
  unfold trEarl
  have hco := corV_ok hc
  have hA := rAft_is hb hd (t := c.2.2.2.2.2.1) (by omega)
  simp only [enc6] at hA
  simp only [hA, bindO_val]
  obtain ⟨k, hk⟩ : ∃ k : Nat, (c.2.2.2.2.2.2 - c.2.2.2.2.2.1).toNat = k := ⟨_, rfl⟩
  have hR : FrReg [encO c] = _ := rReg_is c
  obtain ⟨hM, _⟩ := see_tick hb hd (t := c.2.2.2.2.2.1) (by omega) c
  have hN := rNext_is (b := aftV b d (c.2.2.2.2.2.1)) (d := d) (aft_sm hb hd (by omega)).1 hd
  rw [aft_succ hd (by omega)] at hN
  simp only [enc6, encO] at hR hM hN
  have ih := rEarl_loop hb hd hc k 1 (by omega)
  have e1 : c.2.2.2.2.2.1 + ((1 : Nat) : Int) = c.2.2.2.2.2.1 + 1 := rfl
  rw [e1] at ih
  have hS1 : earlS b d c 1 = if metAt b d c (c.2.2.2.2.2.1) then (0, false) else (c.2.2.2.2.2.1, true) := by
    have e2 : c.2.2.2.2.2.1 + ((0 : Nat) : Int) = c.2.2.2.2.2.1 := by omega
    unfold earlS
    rw [e2]
    rfl
  have hr : RrEarl_0 (TrEarl_0a (c.2.2.2.2.2.1) b.1 b.2.1 b.2.2.1 b.2.2.2.1 b.2.2.2.2.1 b.2.2.2.2.2 d.1 d.2.1 d.2.2.1 d.2.2.2.1 d.2.2.2.2.1 d.2.2.2.2.2 c.1 c.2.1 c.2.2.1 c.2.2.2.1 c.2.2.2.2.1 c.2.2.2.2.2.1 c.2.2.2.2.2.2 (aftV b d (c.2.2.2.2.2.1)).1 (aftV b d (c.2.2.2.2.2.1)).2.1 (aftV b d (c.2.2.2.2.2.1)).2.2.1 (aftV b d (c.2.2.2.2.2.1)).2.2.2.1 (aftV b d (c.2.2.2.2.2.1)).2.2.2.2.1 (aftV b d (c.2.2.2.2.2.1)).2.2.2.2.2) = exO (XrEarl_0a ((earlS b d c (1 + k)).1, (earlS b d c (1 + k)).2, d.1, d.2.1, d.2.2.1, d.2.2.2.1, d.2.2.2.2.1, d.2.2.2.2.2, c.1, c.2.1, c.2.2.1, c.2.2.2.1, c.2.2.2.2.1, c.2.2.2.2.2.1, c.2.2.2.2.2.2, (aftV b d (c.2.2.2.2.2.2 + 1)).1, (aftV b d (c.2.2.2.2.2.2 + 1)).2.1, (aftV b d (c.2.2.2.2.2.2 + 1)).2.2.1, (aftV b d (c.2.2.2.2.2.2 + 1)).2.2.2.1, (aftV b d (c.2.2.2.2.2.2 + 1)).2.2.2.2.1, (aftV b d (c.2.2.2.2.2.2 + 1)).2.2.2.2.2)) := by
    refine RrEarl_0a_of _ _ _ _ _ _ _ _ _ _ _ _ _ _ _ _ _ _ _ _ _ _ _ _ _ _ ?_
    unfold BrEarl_0a
    rw [bif_pos (by omega)]
    simp only [hR, hM, hN, bindO_val, app7]
    rw [w64_in (by omega)]
    conv at ih => lhs; rw [hS1]
    by_cases hm : metAt b d c (c.2.2.2.2.2.1)
    · have hg : Good (meetV (aftV b d (c.2.2.2.2.2.1)) (regV c)) := hm
      rw [if_pos hm] at ih
      simp only [hg, decide_true, cond_true]
      exact ih
    · have hg : ¬ Good (meetV (aftV b d (c.2.2.2.2.2.1)) (regV c)) := hm
      rw [if_neg hm] at ih
      simp only [hg, decide_false, cond_false]
      exact ih
  rw [LrEarl_0a_of hr]
  simp only [bindO_val]
  have e3 : c.2.2.2.2.2.1 + ((k : Nat) : Int) = c.2.2.2.2.2.2 := by omega
  have hfin : earlS b d c (1 + k) = if metAt b d c (c.2.2.2.2.2.2) then ((earlS b d c k).1, false) else if (earlS b d c k).2 then earlS b d c k else (c.2.2.2.2.2.1 + k, true) := by
    rw [Nat.add_comm]
    conv => lhs; unfold earlS
    rw [e3]
  obtain ⟨p1, p2⟩ := earlS_P b d c k
  rw [hfin]
  unfold earlV
  rw [hk]
  by_cases hm : metAt b d c (c.2.2.2.2.2.2)
  · rw [if_pos hm, if_pos hm]
    rfl
  · rw [if_neg hm, if_neg hm]
    cases hs : (earlS b d c k).2 with
    | true =>
      simp only [if_true, hs, cond_true, p1 hs]
      rfl
    | false =>
      simp only [Bool.false_eq_true, if_false, cond_true, if_true, p2 hs]
      rfl
end Gv
