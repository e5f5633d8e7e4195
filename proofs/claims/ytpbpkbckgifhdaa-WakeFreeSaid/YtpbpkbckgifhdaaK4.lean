/- Corridors: whether they are free, from which tick on. -/
import Derived.Test.YtpbpkbckgifhdaaK3
namespace Gv
open Go
set_option maxRecDepth 100000
abbrev C7 := Int × Int × Int × Int × Int × Int × Int
def encO (c : C7) : PV := .agg [.int .i64 c.1, .int .i64 c.2.1, .int .i64 c.2.2.1, .int .i64 c.2.2.2.1, .int .i64 c.2.2.2.2.1, .int .i64 c.2.2.2.2.2.1, .int .i64 c.2.2.2.2.2.2]
def regV (c : C7) : B6 := (c.1, c.2.1, c.2.2.1, c.2.2.2.1, c.2.2.2.2.1, 10000)
def regR (c : C7) : B6 := (c.1, c.2.1, c.2.2.1, c.2.2.2.1, c.2.2.2.2.1, 1099511627776)
theorem regO_is (c : C7) : FregO [encO c] = some (regV c) := FregO_of _ _ _ _ _ _ _ rfl
theorem rReg_is (c : C7) : FrReg [encO c] = some (regR c) := FrReg_of _ _ _ _ _ _ _ rfl
def corV (c : C7) : Int := if ((-1000000 ≤ c.1 ∧ c.1 ≤ 1000000) ∧ (-1000000 ≤ c.2.1 ∧ c.2.1 ≤ 1000000)) ∧ ((-1000000 ≤ c.2.2.1 ∧ c.2.2.1 ≤ 1000000) ∧ (-1000000 ≤ c.2.2.2.1 ∧ c.2.2.2.1 ≤ 1000000)) ∧ (0 ≤ c.2.2.2.2.1 ∧ c.2.2.2.2.1 ≤ 10000) ∧ (0 ≤ c.2.2.2.2.2.1 ∧ c.2.2.2.2.2.1 ≤ 1000) ∧ (0 ≤ c.2.2.2.2.2.2 ∧ c.2.2.2.2.2.2 ≤ 1000) then ord3 c.1 c.2.1 c.2.2.1 c.2.2.2.1 c.2.2.2.2.2.1 c.2.2.2.2.2.2 else 2
theorem corE_is (c : C7) : FcorE [encO c] = some (corV c) := by
  refine FcorE_of _ _ _ _ _ _ _ ?_
  unfold tcorE
  simp only [enB_is, enA_is, rE_is, orC_is, fE4_is, bindO_val, first_ord, rangeE_if]
  unfold endsE both first4 corV
  by_cases h1 : (-1000000 ≤ c.1 ∧ c.1 ≤ 1000000) ∧ (-1000000 ≤ c.2.1 ∧ c.2.1 ≤ 1000000)
  · by_cases h2 : (-1000000 ≤ c.2.2.1 ∧ c.2.2.1 ≤ 1000000) ∧ (-1000000 ≤ c.2.2.2.1 ∧ c.2.2.2.1 ≤ 1000000)
    · by_cases h3 : 0 ≤ c.2.2.2.2.1 ∧ c.2.2.2.2.1 ≤ 10000
      · by_cases h4 : 0 ≤ c.2.2.2.2.2.1 ∧ c.2.2.2.2.2.1 ≤ 1000
        · by_cases h5 : 0 ≤ c.2.2.2.2.2.2 ∧ c.2.2.2.2.2.2 ≤ 1000
          · simp [h1, h2, h3, h4, h5]
          · simp [h1, h2, h3, h4, h5]
        · simp [h1, h2, h3, h4]
      · simp [h1, h2, h3]
    · simp [h1, h2]
  · simp [h1]
theorem rCorE_is (c : C7) : FrCorE [encO c] = some (corV c) := by
  refine FrCorE_of _ _ _ _ _ _ _ ?_
  unfold trCorE corV
  simp only [rW2_is, bWi_is, rTicE_is, bindO_val, bif_ne, rangeE_if]
  simp only [ord_tree]
  simp only [bif_dec]
  by_cases h1 : (-1000000 ≤ c.1 ∧ c.1 ≤ 1000000) ∧ (-1000000 ≤ c.2.1 ∧ c.2.1 ≤ 1000000)
  · by_cases h2 : (-1000000 ≤ c.2.2.1 ∧ c.2.2.1 ≤ 1000000) ∧ (-1000000 ≤ c.2.2.2.1 ∧ c.2.2.2.1 ≤ 1000000)
    · by_cases h3 : 0 ≤ c.2.2.2.2.1 ∧ c.2.2.2.2.1 ≤ 10000
      · by_cases h4 : 0 ≤ c.2.2.2.2.2.1 ∧ c.2.2.2.2.2.1 ≤ 1000
        · by_cases h5 : 0 ≤ c.2.2.2.2.2.2 ∧ c.2.2.2.2.2.2 ≤ 1000
          · simp [h1, h2, h3, h4, h5]
          · simp [h1, h2, h3, h4, h5]
        · simp [h1, h2, h3, h4]
      · simp [h1, h2, h3]
    · simp [h1, h2]
  · simp [h1]
def freV (b d : B6) (c : C7) : Int := first3 (boxE b) (driE d) (corV c)
theorem freE_is (b d : B6) (c : C7) : FfreE [enc6 b, enc6 d, encO c] = some (freV b d c) := by
  refine FfreE_of _ _ _ _ _ _ _ _ _ _ _ _ _ _ _ _ _ _ _ ?_
  unfold tfreE
  have h1 : FcBox [enc6 b] = _ := cBox_is b
  have h2 : FdriE [enc6 d] = _ := driE_is d
  have h3 : FcorE [encO c] = _ := corE_is c
  simp only [enc6, encO] at h1 h2 h3
  simp only [h1, h2, h3, bindO_val, fE3_is]
  rfl
theorem rFreE_is (b d : B6) (c : C7) : FrFreE [enc6 b, enc6 d, encO c] = some (freV b d c) := by
  refine FrFreE_of _ _ _ _ _ _ _ _ _ _ _ _ _ _ _ _ _ _ _ ?_
  unfold trFreE
  have h1 : FrMovE [enc6 b, enc6 d] = _ := rMovE_is b d
  have h3 : FrCorE [encO c] = _ := rCorE_is c
  simp only [enc6, encO] at h1 h3
  simp only [h1, h3, bindO_val, bif_ne]
  unfold freV first3 both
  by_cases h : boxE b = 0 <;> by_cases h' : driE d = 0 <;> simp [h, h']
theorem freV_ok {b d : B6} {c : C7} (h : freV b d c = 0) : boxE b = 0 ∧ driE d = 0 ∧ corV c = 0 := by
  unfold freV first3 at h
  split at h
  · contradiction
  · rename_i h1
    split at h
    · contradiction
    · rename_i h2
      exact ⟨by simpa using h1, by simpa using h2, h⟩
theorem corV_ok {c : C7} (h : corV c = 0) : 0 ≤ c.2.2.2.2.2.1 ∧ c.2.2.2.2.2.1 ≤ c.2.2.2.2.2.2 ∧ c.2.2.2.2.2.2 ≤ 1000 ∧ 0 ≤ c.2.2.2.2.1 ∧ c.2.2.2.2.1 ≤ 10000 ∧ c.1 ≤ c.2.1 ∧ c.2.2.1 ≤ c.2.2.2.1 := by
  unfold corV at h
  split at h
  · rename_i hc
    unfold ord3 at h
    split at h
    · rename_i ho
      omega
    · cases h
  · cases h
def freeG (b d r : B6) : Nat → Int → Int → Option Int
  | 0, _, a => some a
  | k + 1, t, a => if InB (aftV b d t) r then none else freeG b d r k (t + 1) (if Good (meetV (aftV b d t) r) then 1 else a)
theorem isFr_loop {b d : B6} {c : C7} (hb : boxE b = 0) (hd : driE d = 0) (hc : corV c = 0) : ∀ (k : Nat) (t a : Int), 0 ≤ t → t + k = c.2.2.2.2.2.2 + 1 →
    match freeG b d (regV c) k t a with
    | none => RisFr_0 (TisFr_0a a t b.1 b.2.1 b.2.2.1 b.2.2.2.1 b.2.2.2.2.1 b.2.2.2.2.2 d.1 d.2.1 d.2.2.1 d.2.2.2.1 d.2.2.2.2.1 d.2.2.2.2.2 c.1 c.2.1 c.2.2.1 c.2.2.2.1 c.2.2.2.2.1 c.2.2.2.2.2.1 c.2.2.2.2.2.2 (regV c).1 (regV c).2.1 (regV c).2.2.1 (regV c).2.2.2.1 (regV c).2.2.2.2.1 (regV c).2.2.2.2.2) = exO (XisFr_0a ())
    | some x => RisFr_0 (TisFr_0a a t b.1 b.2.1 b.2.2.1 b.2.2.2.1 b.2.2.2.2.1 b.2.2.2.2.2 d.1 d.2.1 d.2.2.1 d.2.2.2.1 d.2.2.2.2.1 d.2.2.2.2.2 c.1 c.2.1 c.2.2.1 c.2.2.2.1 c.2.2.2.2.1 c.2.2.2.2.2.1 c.2.2.2.2.2.2 (regV c).1 (regV c).2.1 (regV c).2.2.1 (regV c).2.2.2.1 (regV c).2.2.2.2.1 (regV c).2.2.2.2.2) = exO (XisFr_0b (x, b.1, b.2.1, b.2.2.1, b.2.2.2.1, b.2.2.2.2.1, b.2.2.2.2.2, d.1, d.2.1, d.2.2.1, d.2.2.2.1, d.2.2.2.2.1, d.2.2.2.2.2, c.1, c.2.1, c.2.2.1, c.2.2.2.1, c.2.2.2.2.1, c.2.2.2.2.2.1, c.2.2.2.2.2.2, (regV c).1, (regV c).2.1, (regV c).2.2.1, (regV c).2.2.2.1, (regV c).2.2.2.2.1, (regV c).2.2.2.2.2))
  | 0, t, a, h0, hk => by
    show RisFr_0 _ = _
    refine RisFr_0a_of _ _ _ _ _ _ _ _ _ _ _ _ _ _ _ _ _ _ _ _ _ _ _ _ _ _ _ ?_
    unfold BisFr_0a
    rw [bif_neg (by omega)]
    rfl
  | k + 1, t, a, h0, hk => by
    have hco := corV_ok hc
    have hA := bAft_is (b := b) (d := d) (t := t) (box_sm hb).1 hd (by omega)
    have hW := isW_is (aftV b d t) (regV c)
    have hM := meet_is (aftV b d t) (regV c)
    have hE := isEm_is (meetV (aftV b d t) (regV c))
    simp only [enc6] at hA hW hM hE
    unfold freeG
    by_cases hi : InB (aftV b d t) (regV c)
    · rw [if_pos hi]
      refine RisFr_0a_of _ _ _ _ _ _ _ _ _ _ _ _ _ _ _ _ _ _ _ _ _ _ _ _ _ _ _ ?_
      unfold BisFr_0a
      rw [bif_pos (by omega)]
      have e : inBb (aftV b d t) (regV c) = true := by simp [inBb, hi]
      simp only [hA, hW, bindO_val, e, cond_true]
      rfl
    · rw [if_neg hi]
      have e : inBb (aftV b d t) (regV c) = false := by simp [inBb, hi]
      have ih := isFr_loop hb hd hc k (t + 1) (if Good (meetV (aftV b d t) (regV c)) then 1 else a) (by omega) (by omega)
      have step : ∀ y, RisFr_0 (TisFr_0a (if Good (meetV (aftV b d t) (regV c)) then 1 else a) (t + 1) b.1 b.2.1 b.2.2.1 b.2.2.2.1 b.2.2.2.2.1 b.2.2.2.2.2 d.1 d.2.1 d.2.2.1 d.2.2.2.1 d.2.2.2.2.1 d.2.2.2.2.2 c.1 c.2.1 c.2.2.1 c.2.2.2.1 c.2.2.2.2.1 c.2.2.2.2.2.1 c.2.2.2.2.2.2 (regV c).1 (regV c).2.1 (regV c).2.2.1 (regV c).2.2.2.1 (regV c).2.2.2.2.1 (regV c).2.2.2.2.2) = some y → RisFr_0 (TisFr_0a a t b.1 b.2.1 b.2.2.1 b.2.2.2.1 b.2.2.2.2.1 b.2.2.2.2.2 d.1 d.2.1 d.2.2.1 d.2.2.2.1 d.2.2.2.2.1 d.2.2.2.2.2 c.1 c.2.1 c.2.2.1 c.2.2.2.1 c.2.2.2.2.1 c.2.2.2.2.2.1 c.2.2.2.2.2.2 (regV c).1 (regV c).2.1 (regV c).2.2.1 (regV c).2.2.2.1 (regV c).2.2.2.2.1 (regV c).2.2.2.2.2) = some y := fun y hy => by
        refine RisFr_0a_of _ _ _ _ _ _ _ _ _ _ _ _ _ _ _ _ _ _ _ _ _ _ _ _ _ _ _ ?_
        unfold BisFr_0a
        rw [bif_pos (by omega)]
        simp only [hA, hW, hM, hE, bindO_val, e, cond_false]
        rw [w64_in (by omega)]
        by_cases hg : Good (meetV (aftV b d t) (regV c))
        · rw [if_pos hg] at hy
          simp only [hg, not_true, decide_false, cond_false]
          exact hy
        · rw [if_neg hg] at hy
          simp only [hg, not_false_eq_true, decide_true, cond_true]
          exact hy
      split at ih <;> exact step _ ih
def freeV (b d : B6) (c : C7) (r : B6) : Int := (freeG b d r (c.2.2.2.2.2.2 + 1 - c.2.2.2.2.2.1).toNat c.2.2.2.2.2.1 2).getD 0
theorem isFr_is (b d : B6) (c : C7) : FisFr [enc6 b, enc6 d, encO c] = some (if freV b d c = 0 then (freeV b d c (regV c), 0) else (0, freV b d c)) := by
  refine FisFr_of _ _ _ _ _ _ _ _ _ _ _ _ _ _ _ _ _ _ _ ?_
  unfold tisFr
  have h1 : FfreE [enc6 b, enc6 d, encO c] = _ := freE_is b d c
  have h2 : FregO [encO c] = _ := regO_is c
  simp only [enc6, encO] at h1 h2
  simp only [h1, h2, bindO_val, bif_ne]
  by_cases hz : freV b d c = 0
  · obtain ⟨hb, hd, hc⟩ := freV_ok hz
    have hco := corV_ok hc
    rw [if_pos hz]
    simp only [hz, if_true]
    have hl := isFr_loop hb hd hc (c.2.2.2.2.2.2 + 1 - c.2.2.2.2.2.1).toNat c.2.2.2.2.2.1 2 (by omega) (by omega)
    unfold freeV
    split at hl
    · rename_i hg
      rw [LisFr_0a_of hl, hg]
      rfl
    · rename_i x hg
      rw [LisFr_0b_of hl, hg]
      rfl
  · rw [if_neg hz]
    simp only [hz, if_false]
theorem aft_good {b d : B6} (hb : boxE b = 0) (hd : driE d = 0) {t : Int} (ht : 0 ≤ t) : Good (aftV b d t) ∧ (aftV b d t).2.2.2.2.2 ≤ 10000 := by
  have h1 := boxE_ok hb
  have h2 := driE_ok hd
  have m1 := Int.mul_le_mul_of_nonneg_left (show d.1 ≤ d.2.1 by omega) ht
  have m2 := Int.mul_le_mul_of_nonneg_left (show d.2.2.1 ≤ d.2.2.2.1 by omega) ht
  have m3 := Int.mul_le_mul_of_nonneg_left (show d.2.2.2.2.1 ≤ d.2.2.2.2.2 by omega) ht
  have m4 := Int.mul_nonneg ht (show 0 ≤ d.2.2.2.2.1 by omega)
  unfold Good aftV pos
  simp only
  refine ⟨⟨by omega, ?_, ?_⟩, ?_⟩ <;> (repeat' split) <;> omega
theorem reg_meet {b d : B6} (hb : boxE b = 0) (hd : driE d = 0) {t : Int} (ht : 0 ≤ t) (c : C7) : meetV (aftV b d t) (regR c) = meetV (aftV b d t) (regV c) := by
  have h := (aft_good hb hd ht).2
  unfold meetV regR regV mnV
  simp only
  rw [if_neg (show ¬ ((1099511627776 : Int) < (aftV b d t).2.2.2.2.2) by omega), if_neg (show ¬ ((10000 : Int) < (aftV b d t).2.2.2.2.2) by omega)]
theorem in_meet {x r : B6} (hx : Good x) : (Good (meetV x r) ∧ meetV x r = x) ↔ InB x r := by
  obtain ⟨x1, x2, x3, x4, x5, x6⟩ := x
  obtain ⟨r1, r2, r3, r4, r5, r6⟩ := r
  unfold Good at *
  unfold meetV InB mxV mnV
  simp only [Prod.mk.injEq] at *
  constructor
  · rintro ⟨_, h⟩
    refine ⟨?_, ?_, ?_, ?_, ?_, ?_⟩
    all_goals (obtain ⟨h1, h2, h3, h4, h5, h6⟩ := h)
    · split at h1 <;> omega
    · split at h2 <;> omega
    · split at h3 <;> omega
    · split at h4 <;> omega
    · split at h5 <;> omega
    · split at h6 <;> omega
  · intro h
    rw [if_neg (by omega), if_neg (by omega), if_neg (by omega), if_neg (by omega), if_neg (by omega), if_neg (by omega)]
    exact ⟨hx, rfl, rfl, rfl, rfl, rfl, rfl⟩
end Gv
