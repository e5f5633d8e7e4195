import Derived.Test.YtfhgjanheaocaaaK2

/- What two boxes have in common. -/
namespace Gv
open Go
set_option maxRecDepth 100000
def mxV (x y : Int) : Int := if y > x then y else x
def mnV (x y : Int) : Int := if y < x then y else x
def meetV (a b : B6) : B6 := (mxV a.1 b.1, mnV a.2.1 b.2.1, mxV a.2.2.1 b.2.2.1, mnV a.2.2.2.1 b.2.2.2.1, mxV a.2.2.2.2.1 b.2.2.2.2.1, mnV a.2.2.2.2.2 b.2.2.2.2.2)
def Good (b : B6) : Prop := b.1 ≤ b.2.1 ∧ b.2.2.1 ≤ b.2.2.2.1 ∧ b.2.2.2.2.1 ≤ b.2.2.2.2.2
instance (b : B6) : Decidable (Good b) := by unfold Good; infer_instance
def zero6 : B6 := (0, 0, 0, 0, 0, 0)
def app7 {α : Type} (b : B6) (x : α) : Int × Int × Int × Int × Int × Int × α := (b.1, b.2.1, b.2.2.1, b.2.2.2.1, b.2.2.2.2.1, b.2.2.2.2.2, x)
theorem meet_is (a b : B6) : Fmeet [enc6 a, enc6 b] = some (meetV a b) := Fmeet_of _ _ _ _ _ _ _ _ _ _ _ _ rfl
theorem isEm_is (b : B6) : FisEm [enc6 b] = some (decide (¬ Good b)) := by
  refine FisEm_of _ _ _ _ _ _ ?_
  unfold tisEm
  have h := orC_is b.1 b.2.1 b.2.2.1 b.2.2.2.1 b.2.2.2.2.1 b.2.2.2.2.2
  simp only [h, bindO_val, first_ord]
  unfold ord3
  by_cases hg : Good b
  · have hg' := hg
    unfold Good at hg'
    rw [if_pos hg']; simp [hg]
  · have hg' := hg
    unfold Good at hg'
    rw [if_neg hg']; simp [hg]
def meetR (a b : B6) : B6 × Int := if both (boxE a) (boxE b) ≠ 0 then (zero6, both (boxE a) (boxE b)) else if Good (meetV a b) then (meetV a b, 0) else (zero6, 13)
theorem meetO_is (a b : B6) : FmeetO [enc6 a, enc6 b] = some (app7 (meetR a b).1 (meetR a b).2) := by
  refine FmeetO_of _ _ _ _ _ _ _ _ _ _ _ _ ?_
  unfold tmeetO
  have h1 : FcBox [enc6 a] = _ := cBox_is a
  have h2 : FcBox [enc6 b] = _ := cBox_is b
  have h3 := fE2_is (boxE a) (boxE b)
  have h4 := meet_is a b
  have h5 : FisEm [enc6 (meetV a b)] = _ := isEm_is (meetV a b)
  simp only [enc6] at h1 h2 h4 h5
  simp only [h1, h2, h3, h4, h5, bindO_val]
  unfold meetR
  by_cases hz : both (boxE a) (boxE b) = 0
  · rw [if_neg (by simpa using hz), hz]
    by_cases hg : Good (meetV a b)
    · rw [if_pos hg]; simp [hg, app7]
    · rw [if_neg hg]; simp [hg, app7, zero6]
  · rw [if_pos hz]
    have hb : (both (boxE a) (boxE b) != 0) = true := by simpa using hz
    rw [hb]
    rfl
theorem rmt_is (a b c d : Int) : Frmt [.agg [.int .i64 a, .int .i64 b], .agg [.int .i64 c, .int .i64 d]] = some (mxV a c, mnV b d, decide (mxV a c ≤ mnV b d)) := by
  refine Frmt_of _ _ _ _ ?_
  unfold trmt
  unfold mxV mnV
  by_cases h : (if c > a then c else a) ≤ (if d < b then d else b)
  · rw [bif_pos h]; simp [h]
  · rw [bif_neg h]; simp [h]
def meetB (a b : B6) : B6 := if Good (meetV a b) then meetV a b else zero6
theorem rMeet_is (a b : B6) : FrMeet [enc6 a, enc6 b] = some (app7 (meetB a b) (decide (Good (meetV a b)))) := by
  refine FrMeet_of _ _ _ _ _ _ _ _ _ _ _ _ ?_
  unfold trMeet
  simp only [rmt_is, bindO_val]
  unfold meetB app7
  by_cases h1 : mxV a.1 b.1 ≤ mnV a.2.1 b.2.1 <;> by_cases h2 : mxV a.2.2.1 b.2.2.1 ≤ mnV a.2.2.2.1 b.2.2.2.1 <;> by_cases h3 : mxV a.2.2.2.2.1 b.2.2.2.2.1 ≤ mnV a.2.2.2.2.2 b.2.2.2.2.2 <;>
    simp [h1, h2, h3, Good, meetV, zero6]
end Gv

/- Corridors: whether they are free, from which tick on. -/
namespace Gv
open Go
set_option maxRecDepth 100000
abbrev C7 := Int × Int × Int × Int × Int × Int × Int
def encO (c : C7) : PV := .agg [.int .i64 c.1, .int .i64 c.2.1, .int .i64 c.2.2.1, .int .i64 c.2.2.2.1, .int .i64 c.2.2.2.2.1, .int .i64 c.2.2.2.2.2.1, .int .i64 c.2.2.2.2.2.2]
def regV (c : C7) : B6 := (c.1, c.2.1, c.2.2.1, c.2.2.2.1, c.2.2.2.2.1, 10000)
def regR (c : C7) : B6 := (c.1, c.2.1, c.2.2.1, c.2.2.2.1, c.2.2.2.2.1, 1099511627776)
theorem regO_is (c : C7) : FregO [encO c] = some (regV c) := FregO_of _ _ _ _ _ _ _ rfl
theorem rReg_is (c : C7) : FrReg [encO c] = some (regR c) := FrReg_of _ _ _ _ _ _ _ rfl
def corV (c : C7) : Int := if ((-1000000 ≤ c.1 ∧ c.1 ≤ 1000000) ∧ (-1000000 ≤ c.2.1 ∧ c.2.1 ≤ 1000000)) ∧ ((-1000000 ≤ c.2.2.1 ∧ c.2.2.1 ≤ 1000000) ∧ (-1000000 ≤ c.2.2.2.1 ∧ c.2.2.2.1 ≤ 1000000)) ∧ (0 ≤ c.2.2.2.2.1 ∧ c.2.2.2.2.1 ≤ 10000) ∧ (0 ≤ c.2.2.2.2.2.1 ∧ c.2.2.2.2.2.1 ≤ 1000) ∧ (0 ≤ c.2.2.2.2.2.2 ∧ c.2.2.2.2.2.2 ≤ 1000) then ord3 c.1 c.2.1 c.2.2.1 c.2.2.2.1 c.2.2.2.2.2.1 c.2.2.2.2.2.2 else 2
theorem corE_is (c : C7) : FcorE [encO c] = some (corV c) := by
  refine FcorE_of _ _ _ _ _ _ _ ?_
  unfold tcorE
  simp only [enB_is, enA_is, rE_is, orC_is, fE4_is, bindO_val, first_ord, rangeE_if]
  unfold endsE both first4 corV
  by_cases h1 : (-1000000 ≤ c.1 ∧ c.1 ≤ 1000000) ∧ (-1000000 ≤ c.2.1 ∧ c.2.1 ≤ 1000000)
  · by_cases h2 : (-1000000 ≤ c.2.2.1 ∧ c.2.2.1 ≤ 1000000) ∧ (-1000000 ≤ c.2.2.2.1 ∧ c.2.2.2.1 ≤ 1000000)
    · by_cases h3 : 0 ≤ c.2.2.2.2.1 ∧ c.2.2.2.2.1 ≤ 10000
      · by_cases h4 : 0 ≤ c.2.2.2.2.2.1 ∧ c.2.2.2.2.2.1 ≤ 1000
        · by_cases h5 : 0 ≤ c.2.2.2.2.2.2 ∧ c.2.2.2.2.2.2 ≤ 1000
          · simp [h1, h2, h3, h4, h5]
          · simp [h1, h2, h3, h4, h5]
        · simp [h1, h2, h3, h4]
      · simp [h1, h2, h3]
    · simp [h1, h2]
  · simp [h1]
theorem rCorE_is (c : C7) : FrCorE [encO c] = some (corV c) := by
  refine FrCorE_of _ _ _ _ _ _ _ ?_
  unfold trCorE corV
  simp only [rW2_is, bWi_is, rTicE_is, bindO_val, bif_ne, rangeE_if]
  simp only [ord_tree]
  simp only [bif_dec]
  by_cases h1 : (-1000000 ≤ c.1 ∧ c.1 ≤ 1000000) ∧ (-1000000 ≤ c.2.1 ∧ c.2.1 ≤ 1000000)
  · by_cases h2 : (-1000000 ≤ c.2.2.1 ∧ c.2.2.1 ≤ 1000000) ∧ (-1000000 ≤ c.2.2.2.1 ∧ c.2.2.2.1 ≤ 1000000)
    · by_cases h3 : 0 ≤ c.2.2.2.2.1 ∧ c.2.2.2.2.1 ≤ 10000
      · by_cases h4 : 0 ≤ c.2.2.2.2.2.1 ∧ c.2.2.2.2.2.1 ≤ 1000
        · by_cases h5 : 0 ≤ c.2.2.2.2.2.2 ∧ c.2.2.2.2.2.2 ≤ 1000
          · simp [h1, h2, h3, h4, h5]
          · simp [h1, h2, h3, h4, h5]
        · simp [h1, h2, h3, h4]
      · simp [h1, h2, h3]
    · simp [h1, h2]
  · simp [h1]
def freV (b d : B6) (c : C7) : Int := first3 (boxE b) (driE d) (corV c)
theorem freE_is (b d : B6) (c : C7) : FfreE [enc6 b, enc6 d, encO c] = some (freV b d c) := by
  refine FfreE_of _ _ _ _ _ _ _ _ _ _ _ _ _ _ _ _ _ _ _ ?_
  unfold tfreE
  have h1 : FcBox [enc6 b] = _ := cBox_is b
  have h2 : FdriE [enc6 d] = _ := driE_is d
  have h3 : FcorE [encO c] = _ := corE_is c
  simp only [enc6, encO] at h1 h2 h3
  simp only [h1, h2, h3, bindO_val, fE3_is]
  rfl
theorem freV_ok {b d : B6} {c : C7} (h : freV b d c = 0) : boxE b = 0 ∧ driE d = 0 ∧ corV c = 0 := by
  unfold freV first3 at h
  split at h
  · contradiction
  · rename_i h1
    split at h
    · contradiction
    · rename_i h2
      exact ⟨by simpa using h1, by simpa using h2, h⟩
theorem corV_ok {c : C7} (h : corV c = 0) : 0 ≤ c.2.2.2.2.2.1 ∧ c.2.2.2.2.2.1 ≤ c.2.2.2.2.2.2 ∧ c.2.2.2.2.2.2 ≤ 1000 ∧ 0 ≤ c.2.2.2.2.1 ∧ c.2.2.2.2.1 ≤ 10000 ∧ c.1 ≤ c.2.1 ∧ c.2.2.1 ≤ c.2.2.2.1 := by
  unfold corV at h
  split at h
  · rename_i hc
    unfold ord3 at h
    split at h
    · rename_i ho
      omega
    · cases h
  · cases h
def freeG (b d r : B6) : Nat → Int → Int → Option Int
  | 0, _, a => some a
  | k + 1, t, a => if InB (aftV b d t) r then none else freeG b d r k (t + 1) (if Good (meetV (aftV b d t) r) then 1 else a)
theorem isFr_loop {b d : B6} {c : C7} (hb : boxE b = 0) (hd : driE d = 0) (hc : corV c = 0) : ∀ (k : Nat) (t a : Int), 0 ≤ t → t + k = c.2.2.2.2.2.2 + 1 →
    match freeG b d (regV c) k t a with
    | none => RisFr_0 (TisFr_0a a t b.1 b.2.1 b.2.2.1 b.2.2.2.1 b.2.2.2.2.1 b.2.2.2.2.2 d.1 d.2.1 d.2.2.1 d.2.2.2.1 d.2.2.2.2.1 d.2.2.2.2.2 c.1 c.2.1 c.2.2.1 c.2.2.2.1 c.2.2.2.2.1 c.2.2.2.2.2.1 c.2.2.2.2.2.2 (regV c).1 (regV c).2.1 (regV c).2.2.1 (regV c).2.2.2.1 (regV c).2.2.2.2.1 (regV c).2.2.2.2.2) = exO (XisFr_0a ())
    | some x => RisFr_0 (TisFr_0a a t b.1 b.2.1 b.2.2.1 b.2.2.2.1 b.2.2.2.2.1 b.2.2.2.2.2 d.1 d.2.1 d.2.2.1 d.2.2.2.1 d.2.2.2.2.1 d.2.2.2.2.2 c.1 c.2.1 c.2.2.1 c.2.2.2.1 c.2.2.2.2.1 c.2.2.2.2.2.1 c.2.2.2.2.2.2 (regV c).1 (regV c).2.1 (regV c).2.2.1 (regV c).2.2.2.1 (regV c).2.2.2.2.1 (regV c).2.2.2.2.2) = exO (XisFr_0b (x, b.1, b.2.1, b.2.2.1, b.2.2.2.1, b.2.2.2.2.1, b.2.2.2.2.2, d.1, d.2.1, d.2.2.1, d.2.2.2.1, d.2.2.2.2.1, d.2.2.2.2.2, c.1, c.2.1, c.2.2.1, c.2.2.2.1, c.2.2.2.2.1, c.2.2.2.2.2.1, c.2.2.2.2.2.2, (regV c).1, (regV c).2.1, (regV c).2.2.1, (regV c).2.2.2.1, (regV c).2.2.2.2.1, (regV c).2.2.2.2.2))
  | 0, t, a, h0, hk => by
    show RisFr_0 _ = _
    refine RisFr_0a_of _ _ _ _ _ _ _ _ _ _ _ _ _ _ _ _ _ _ _ _ _ _ _ _ _ _ _ ?_
    unfold BisFr_0a
    rw [bif_neg (by omega)]
    rfl
  | k + 1, t, a, h0, hk => by
    have hco := corV_ok hc
    have hA := bAft_is (b := b) (d := d) (t := t) (box_sm hb).1 hd (by omega)
    have hW := isW_is (aftV b d t) (regV c)
    have hM := meet_is (aftV b d t) (regV c)
    have hE := isEm_is (meetV (aftV b d t) (regV c))
    simp only [enc6] at hA hW hM hE
    unfold freeG
    by_cases hi : InB (aftV b d t) (regV c)
    · rw [if_pos hi]
      refine RisFr_0a_of _ _ _ _ _ _ _ _ _ _ _ _ _ _ _ _ _ _ _ _ _ _ _ _ _ _ _ ?_
      unfold BisFr_0a
      rw [bif_pos (by omega)]
      have e : inBb (aftV b d t) (regV c) = true := by simp [inBb, hi]
      simp only [hA, hW, bindO_val, e, cond_true]
      rfl
    · rw [if_neg hi]
      have e : inBb (aftV b d t) (regV c) = false := by simp [inBb, hi]
      have ih := isFr_loop hb hd hc k (t + 1) (if Good (meetV (aftV b d t) (regV c)) then 1 else a) (by omega) (by omega)
      have step : ∀ y, RisFr_0 (TisFr_0a (if Good (meetV (aftV b d t) (regV c)) then 1 else a) (t + 1) b.1 b.2.1 b.2.2.1 b.2.2.2.1 b.2.2.2.2.1 b.2.2.2.2.2 d.1 d.2.1 d.2.2.1 d.2.2.2.1 d.2.2.2.2.1 d.2.2.2.2.2 c.1 c.2.1 c.2.2.1 c.2.2.2.1 c.2.2.2.2.1 c.2.2.2.2.2.1 c.2.2.2.2.2.2 (regV c).1 (regV c).2.1 (regV c).2.2.1 (regV c).2.2.2.1 (regV c).2.2.2.2.1 (regV c).2.2.2.2.2) = some y → RisFr_0 (TisFr_0a a t b.1 b.2.1 b.2.2.1 b.2.2.2.1 b.2.2.2.2.1 b.2.2.2.2.2 d.1 d.2.1 d.2.2.1 d.2.2.2.1 d.2.2.2.2.1 d.2.2.2.2.2 c.1 c.2.1 c.2.2.1 c.2.2.2.1 c.2.2.2.2.1 c.2.2.2.2.2.1 c.2.2.2.2.2.2 (regV c).1 (regV c).2.1 (regV c).2.2.1 (regV c).2.2.2.1 (regV c).2.2.2.2.1 (regV c).2.2.2.2.2) = some y := fun y hy => by
        refine RisFr_0a_of _ _ _ _ _ _ _ _ _ _ _ _ _ _ _ _ _ _ _ _ _ _ _ _ _ _ _ ?_
        unfold BisFr_0a
        rw [bif_pos (by omega)]
        simp only [hA, hW, hM, hE, bindO_val, e, cond_false]
        rw [w64_in (by omega)]
        by_cases hg : Good (meetV (aftV b d t) (regV c))
        · rw [if_pos hg] at hy
          simp only [hg, not_true, decide_false, cond_false]
          exact hy
        · rw [if_neg hg] at hy
          simp only [hg, not_false_eq_true, decide_true, cond_true]
          exact hy
      split at ih <;> exact step _ ih
def freeV (b d : B6) (c : C7) (r : B6) : Int := (freeG b d r (c.2.2.2.2.2.2 + 1 - c.2.2.2.2.2.1).toNat c.2.2.2.2.2.1 2).getD 0
theorem isFr_is (b d : B6) (c : C7) : FisFr [enc6 b, enc6 d, encO c] = some (if freV b d c = 0 then (freeV b d c (regV c), 0) else (0, freV b d c)) := by
  refine FisFr_of _ _ _ _ _ _ _ _ _ _ _ _ _ _ _ _ _ _ _ ?_
  unfold tisFr
  have h1 : FfreE [enc6 b, enc6 d, encO c] = _ := freE_is b d c
  have h2 : FregO [encO c] = _ := regO_is c
  simp only [enc6, encO] at h1 h2
  simp only [h1, h2, bindO_val, bif_ne]
  by_cases hz : freV b d c = 0
  · obtain ⟨hb, hd, hc⟩ := freV_ok hz
    have hco := corV_ok hc
    rw [if_pos hz]
    simp only [hz, if_true]
    have hl := isFr_loop hb hd hc (c.2.2.2.2.2.2 + 1 - c.2.2.2.2.2.1).toNat c.2.2.2.2.2.1 2 (by omega) (by omega)
    unfold freeV
    split at hl
    · rename_i hg
      rw [LisFr_0a_of hl, hg]
      rfl
    · rename_i x hg
      rw [LisFr_0b_of hl, hg]
      rfl
  · rw [if_neg hz]
    simp only [hz, if_false]
theorem aft_good {b d : B6} (hb : boxE b = 0) (hd : driE d = 0) {t : Int} (ht : 0 ≤ t) : Good (aftV b d t) ∧ (aftV b d t).2.2.2.2.2 ≤ 10000 := by
  have h1 := boxE_ok hb
  have h2 := driE_ok hd
  have m1 := Int.mul_le_mul_of_nonneg_left (show d.1 ≤ d.2.1 by omega) ht
  have m2 := Int.mul_le_mul_of_nonneg_left (show d.2.2.1 ≤ d.2.2.2.1 by omega) ht
  have m3 := Int.mul_le_mul_of_nonneg_left (show d.2.2.2.2.1 ≤ d.2.2.2.2.2 by omega) ht
  have m4 := Int.mul_nonneg ht (show 0 ≤ d.2.2.2.2.1 by omega)
  unfold Good aftV pos
  simp only
  refine ⟨⟨by omega, ?_, ?_⟩, ?_⟩ <;> (repeat' split) <;> omega
theorem reg_meet {b d : B6} (hb : boxE b = 0) (hd : driE d = 0) {t : Int} (ht : 0 ≤ t) (c : C7) : meetV (aftV b d t) (regR c) = meetV (aftV b d t) (regV c) := by
  have h := (aft_good hb hd ht).2
  unfold meetV regR regV mnV
  simp only
  rw [if_neg (show ¬ ((1099511627776 : Int) < (aftV b d t).2.2.2.2.2) by omega), if_neg (show ¬ ((10000 : Int) < (aftV b d t).2.2.2.2.2) by omega)]
theorem in_meet {x r : B6} (hx : Good x) : (Good (meetV x r) ∧ meetV x r = x) ↔ InB x r := by
  obtain ⟨x1, x2, x3, x4, x5, x6⟩ := x
  obtain ⟨r1, r2, r3, r4, r5, r6⟩ := r
  unfold Good at *
  unfold meetV InB mxV mnV
  simp only [Prod.mk.injEq] at *
  constructor
  · rintro ⟨_, h⟩
    refine ⟨?_, ?_, ?_, ?_, ?_, ?_⟩
    all_goals (obtain ⟨h1, h2, h3, h4, h5, h6⟩ := h)
    · split at h1 <;> omega
    · split at h2 <;> omega
    · split at h3 <;> omega
    · split at h4 <;> omega
    · split at h5 <;> omega
    · split at h6 <;> omega
  · intro h
    rw [if_neg (by omega), if_neg (by omega), if_neg (by omega), if_neg (by omega), if_neg (by omega), if_neg (by omega)]
    exact ⟨hx, rfl, rfl, rfl, rfl, rfl, rfl⟩
end Gv

/- Corridors: the reference, and the earliest tick. -/
namespace Gv
open Go
set_option maxRecDepth 100000
theorem in_good {b d : B6} (hb : boxE b = 0) (hd : driE d = 0) {t : Int} (ht : 0 ≤ t) {r : B6} (h : InB (aftV b d t) r) : Good (meetV (aftV b d t) r) := ((in_meet (aft_good hb hd ht).1).2 h).1
def metAt (b d : B6) (c : C7) (t : Int) : Prop := Good (meetV (aftV b d t) (regV c))
instance (b d : B6) (c : C7) (t : Int) : Decidable (metAt b d c t) := by unfold metAt; infer_instance
end Gv

/- Paths and corridors in plain terms (put together again from the claim of WakeCrossed). -/
namespace Gv
open Go
set_option maxRecDepth 100000
theorem freeG_none {b d r : B6} : ∀ (k : Nat) (t a : Int), freeG b d r k t a = none → ∃ s : Int, t ≤ s ∧ s < t + k ∧ InB (aftV b d s) r
  | 0, t, a, h => by simp [freeG] at h
  | k + 1, t, a, h => by
    unfold freeG at h
    split at h
    · rename_i hi
      exact ⟨t, by omega, by omega, hi⟩
    · obtain ⟨s, h1, h2, h3⟩ := freeG_none k _ _ h
      exact ⟨s, by omega, by omega, h3⟩
theorem freeG_some {b d r : B6} : ∀ (k : Nat) (t a x : Int), freeG b d r k t a = some x → (∀ s : Int, t ≤ s → s < t + k → ¬ InB (aftV b d s) r) ∧ (x = a ∨ x = 1) ∧ (x ≠ 1 → ∀ s : Int, t ≤ s → s < t + k → ¬ Good (meetV (aftV b d s) r)) ∧ ((∀ s : Int, t ≤ s → s < t + k → ¬ Good (meetV (aftV b d s) r)) → x = a)
  | 0, t, a, x, h => by
    simp [freeG] at h
    subst h
    exact ⟨fun s h1 h2 => by omega, .inl rfl, fun _ s h1 h2 => by omega, fun _ => rfl⟩
  | k + 1, t, a, x, h => by
    unfold freeG at h
    split at h
    · cases h
    · rename_i hi
      obtain ⟨h1, h2, h3, h4⟩ := freeG_some k _ _ _ h
      by_cases hg : Good (meetV (aftV b d t) r)
      · rw [if_pos hg] at h2 h4
        refine ⟨fun s q1 q2 => ?_, .inr (h2.elim id id), fun hx => absurd (h2.elim id id) hx, fun hn => absurd hg (hn t (by omega) (by omega))⟩
        by_cases e : s = t
        · subst e; exact hi
        · exact h1 s (by omega) (by omega)
      · rw [if_neg hg] at h2 h4
        refine ⟨fun s q1 q2 => ?_, h2, fun hx s q1 q2 => ?_, fun hn => h4 fun s q1 q2 => hn s (by omega) (by omega)⟩
        · by_cases e : s = t
          · subst e; exact hi
          · exact h1 s (by omega) (by omega)
        · by_cases e : s = t
          · subst e; exact hg
          · exact h3 hx s (by omega) (by omega)
theorem freeV_two {b d : B6} {c : C7} (hb : boxE b = 0) (hd : driE d = 0) (hc : corV c = 0) : freeV b d c (regV c) = 2 ↔ ∀ s : Int, c.2.2.2.2.2.1 ≤ s → s ≤ c.2.2.2.2.2.2 → ¬ metAt b d c s := by
  have hco := corV_ok hc
  unfold freeV
  cases hg : freeG b d (regV c) (c.2.2.2.2.2.2 + 1 - c.2.2.2.2.2.1).toNat c.2.2.2.2.2.1 2 with
  | none =>
    obtain ⟨s, h1, h2, h3⟩ := freeG_none _ _ _ hg
    refine ⟨fun h => by simp at h, fun h => absurd (in_good hb hd (by omega) h3) (h s h1 (by omega))⟩
  | some x =>
    obtain ⟨h1, h2, h3, h4⟩ := freeG_some _ _ _ _ hg
    refine ⟨fun h s q1 q2 => ?_, fun h => h4 fun s q1 q2 => h s q1 (by omega)⟩
    have hx : x = 2 := h
    exact h3 (by omega) s q1 (by omega)
theorem pos_mono {x y : Int} (h : x ≤ y) : pos x ≤ pos y := by unfold pos; split <;> split <;> omega
theorem aft_mono {a b d : B6} (h : InB a b) : InB (aftV a d 1) (aftV b d 1) := by
  unfold InB at *
  unfold aftV
  simp only [Int.one_mul]
  exact ⟨by omega, by omega, pos_mono (by omega), pos_mono (by omega), pos_mono (by omega), pos_mono (by omega)⟩
end Gv

/- What boxes are after some ticks. -/
namespace Gv
open Go
set_option maxRecDepth 100000
theorem aft_aft {b d : B6} (hb : boxE b = 0) (hd : driE d = 0) {s : Int} (hs : 0 ≤ s) : ∀ t : Nat, aftV (aftV b d s) d t = aftV b d (s + t)
  | 0 => by
    have hn : Nn (aftV b d s) := by
      unfold Nn aftV pos
      simp only
      refine ⟨?_, ?_, ?_, ?_⟩ <;> split <;> omega
    have := aft_zero (d := d) hn
    rw [show s + ((0 : Nat) : Int) = s by omega]
    exact this
  | t + 1 => by
    have := aft_succ (b := aftV b d s) hd (t := (t : Int)) (by omega)
    rw [show ((t + 1 : Nat) : Int) = (t : Int) + 1 by omega, ← this, aft_aft hb hd hs t, aft_succ hd (by omega), Int.add_assoc]
theorem boxA_ok {b d : B6} (hb : boxE b = 0) (hd : driE d = 0) {t : Int} (ht : 0 ≤ t ∧ t ≤ 1000) : FboxA [enc6 b, enc6 d, .int .i64 t] = some ((aftV b d t).1, (aftV b d t).2.1, (aftV b d t).2.2.1, (aftV b d t).2.2.2.1, (aftV b d t).2.2.2.2.1, (aftV b d t).2.2.2.2.2, 0) := by
  rw [boxA_is, if_pos (by simp [first3, hb, hd, rangeE_if, ht])]
theorem copV_is (l : List Z3) (hl : l.length ≤ 1000) : FrCopV [.list l.length (encT l)] = some (l.length, encT l) := by
  refine FrCopV_of _ _ ?_
  unfold trCopV
  by_cases h0 : l.length = 0
  · rw [bif_pos h0]
    have : l = [] := List.length_eq_zero_iff.1 h0
    subst this
    rfl
  · rw [bif_neg h0, bif_pos (encT_len l), bif_pos ⟨rfl, by unfold big; omega⟩, bif_pos rfl]
    simp
theorem hd_meet {x r : B6} {v : Z3} (h1 : Hd x v) (h2 : Hd r v) : Good (meetV x r) := by
  obtain ⟨x1, x2, x3, x4, x5, x6⟩ := x
  obtain ⟨r1, r2, r3, r4, r5, r6⟩ := r
  unfold Hd at h1 h2
  unfold Good meetV mxV mnV
  simp only at *
  refine ⟨?_, ?_, ?_⟩ <;> (repeat' split) <;> omega
end Gv
