import Derived.Test.YtpbpkbckgifhdaaK2

/- What two boxes have in common. -/
namespace Gv
open Go
set_option maxRecDepth 100000
def mxV (x y : Int) : Int := if y > x then y else x
def mnV (x y : Int) : Int := if y < x then y else x
def meetV (a b : B6) : B6 := (mxV a.1 b.1, mnV a.2.1 b.2.1, mxV a.2.2.1 b.2.2.1, mnV a.2.2.2.1 b.2.2.2.1, mxV a.2.2.2.2.1 b.2.2.2.2.1, mnV a.2.2.2.2.2 b.2.2.2.2.2)
def Good (b : B6) : Prop := b.1 ≤ b.2.1 ∧ b.2.2.1 ≤ b.2.2.2.1 ∧ b.2.2.2.2.1 ≤ b.2.2.2.2.2
instance (b : B6) : Decidable (Good b) := by unfold Good; infer_instance
theorem meet_is (a b : B6) : Fmeet [enc6 a, enc6 b] = some (meetV a b) := Fmeet_of _ _ _ _ _ _ _ _ _ _ _ _ rfl
theorem isEm_is (b : B6) : FisEm [enc6 b] = some (decide (¬ Good b)) := by
  refine FisEm_of _ _ _ _ _ _ ?_
  unfold tisEm
  have h := orC_is b.1 b.2.1 b.2.2.1 b.2.2.2.1 b.2.2.2.2.1 b.2.2.2.2.2
  simp only [h, bindO_val, first_ord]
  unfold ord3
  by_cases hg : Good b
  · have hg' := hg
    unfold Good at hg'
    rw [if_pos hg']; simp [hg]
  · have hg' := hg
    unfold Good at hg'
    rw [if_neg hg']; simp [hg]
end Gv

/- Corridors: whether they are free, from which tick on. -/
namespace Gv
open Go
set_option maxRecDepth 100000
abbrev C7 := Int × Int × Int × Int × Int × Int × Int
def encO (c : C7) : PV := .agg [.int .i64 c.1, .int .i64 c.2.1, .int .i64 c.2.2.1, .int .i64 c.2.2.2.1, .int .i64 c.2.2.2.2.1, .int .i64 c.2.2.2.2.2.1, .int .i64 c.2.2.2.2.2.2]
def regV (c : C7) : B6 := (c.1, c.2.1, c.2.2.1, c.2.2.2.1, c.2.2.2.2.1, 10000)
def regR (c : C7) : B6 := (c.1, c.2.1, c.2.2.1, c.2.2.2.1, c.2.2.2.2.1, 1099511627776)
theorem regO_is (c : C7) : FregO [encO c] = some (regV c) := FregO_of _ _ _ _ _ _ _ rfl
theorem rReg_is (c : C7) : FrReg [encO c] = some (regR c) := FrReg_of _ _ _ _ _ _ _ rfl
def corV (c : C7) : Int := if ((-1000000 ≤ c.1 ∧ c.1 ≤ 1000000) ∧ (-1000000 ≤ c.2.1 ∧ c.2.1 ≤ 1000000)) ∧ ((-1000000 ≤ c.2.2.1 ∧ c.2.2.1 ≤ 1000000) ∧ (-1000000 ≤ c.2.2.2.1 ∧ c.2.2.2.1 ≤ 1000000)) ∧ (0 ≤ c.2.2.2.2.1 ∧ c.2.2.2.2.1 ≤ 10000) ∧ (0 ≤ c.2.2.2.2.2.1 ∧ c.2.2.2.2.2.1 ≤ 1000) ∧ (0 ≤ c.2.2.2.2.2.2 ∧ c.2.2.2.2.2.2 ≤ 1000) then ord3 c.1 c.2.1 c.2.2.1 c.2.2.2.1 c.2.2.2.2.2.1 c.2.2.2.2.2.2 else 2
theorem corE_is (c : C7) : FcorE [encO c] = some (corV c) := by
  refine FcorE_of _ _ _ _ _ _ _ ?_
  unfold tcorE
  simp only [enB_is, enA_is, rE_is, orC_is, fE4_is, bindO_val, first_ord, rangeE_if]
  unfold endsE both first4 corV
  by_cases h1 : (-1000000 ≤ c.1 ∧ c.1 ≤ 1000000) ∧ (-1000000 ≤ c.2.1 ∧ c.2.1 ≤ 1000000)
  · by_cases h2 : (-1000000 ≤ c.2.2.1 ∧ c.2.2.1 ≤ 1000000) ∧ (-1000000 ≤ c.2.2.2.1 ∧ c.2.2.2.1 ≤ 1000000)
    · by_cases h3 : 0 ≤ c.2.2.2.2.1 ∧ c.2.2.2.2.1 ≤ 10000
      · by_cases h4 : 0 ≤ c.2.2.2.2.2.1 ∧ c.2.2.2.2.2.1 ≤ 1000
        · by_cases h5 : 0 ≤ c.2.2.2.2.2.2 ∧ c.2.2.2.2.2.2 ≤ 1000
          · simp [h1, h2, h3, h4, h5]
          · simp [h1, h2, h3, h4, h5]
        · simp [h1, h2, h3, h4]
      · simp [h1, h2, h3]
    · simp [h1, h2]
  · simp [h1]
theorem rCorE_is (c : C7) : FrCorE [encO c] = some (corV c) := by
  refine FrCorE_of _ _ _ _ _ _ _ ?_
  unfold trCorE corV
  simp only [rW2_is, bWi_is, rTicE_is, bindO_val, bif_ne, rangeE_if]
  simp only [ord_tree]
  simp only [bif_dec]
  by_cases h1 : (-1000000 ≤ c.1 ∧ c.1 ≤ 1000000) ∧ (-1000000 ≤ c.2.1 ∧ c.2.1 ≤ 1000000)
  · by_cases h2 : (-1000000 ≤ c.2.2.1 ∧ c.2.2.1 ≤ 1000000) ∧ (-1000000 ≤ c.2.2.2.1 ∧ c.2.2.2.1 ≤ 1000000)
    · by_cases h3 : 0 ≤ c.2.2.2.2.1 ∧ c.2.2.2.2.1 ≤ 10000
      · by_cases h4 : 0 ≤ c.2.2.2.2.2.1 ∧ c.2.2.2.2.2.1 ≤ 1000
        · by_cases h5 : 0 ≤ c.2.2.2.2.2.2 ∧ c.2.2.2.2.2.2 ≤ 1000
          · simp [h1, h2, h3, h4, h5]
          · simp [h1, h2, h3, h4, h5]
        · simp [h1, h2, h3, h4]
      · simp [h1, h2, h3]
    · simp [h1, h2]
  · simp [h1]
def freV (b d : B6) (c : C7) : Int := first3 (boxE b) (driE d) (corV c)
theorem freE_is (b d : B6) (c : C7) : FfreE [enc6 b, enc6 d, encO c] = some (freV b d c) := by
  refine FfreE_of _ _ _ _ _ _ _ _ _ _ _ _ _ _ _ _ _ _ _ ?_
  unfold tfreE
  have h1 : FcBox [enc6 b] = _ := cBox_is b
  have h2 : FdriE [enc6 d] = _ := driE_is d
  have h3 : FcorE [encO c] = _ := corE_is c
  simp only [enc6, encO] at h1 h2 h3
  simp only [h1, h2, h3, bindO_val, fE3_is]
  rfl
theorem rFreE_is (b d : B6) (c : C7) : FrFreE [enc6 b, enc6 d, encO c] = some (freV b d c) := by
  refine FrFreE_of _ _ _ _ _ _ _ _ _ _ _ _ _ _ _ _ _ _ _ ?_
  unfold trFreE
  have h1 : FrMovE [enc6 b, enc6 d] = _ := rMovE_is b d
  have h3 : FrCorE [encO c] = _ := rCorE_is c
  simp only [enc6, encO] at h1 h3
  simp only [h1, h3, bindO_val, bif_ne]
  unfold freV first3 both
  by_cases h : boxE b = 0 <;> by_cases h' : driE d = 0 <;> simp [h, h']
theorem freV_ok {b d : B6} {c : C7} (h : freV b d c = 0) : boxE b = 0 ∧ driE d = 0 ∧ corV c = 0 := by
  unfold freV first3 at h
  split at h
  · contradiction
  · rename_i h1
    split at h
    · contradiction
    · rename_i h2
      exact ⟨by simpa using h1, by simpa using h2, h⟩
theorem corV_ok {c : C7} (h : corV c = 0) : 0 ≤ c.2.2.2.2.2.1 ∧ c.2.2.2.2.2.1 ≤ c.2.2.2.2.2.2 ∧ c.2.2.2.2.2.2 ≤ 1000 ∧ 0 ≤ c.2.2.2.2.1 ∧ c.2.2.2.2.1 ≤ 10000 ∧ c.1 ≤ c.2.1 ∧ c.2.2.1 ≤ c.2.2.2.1 := by
  unfold corV at h
  split at h
  · rename_i hc
    unfold ord3 at h
    split at h
    · rename_i ho
      omega
    · cases h
  · cases h
def freeG (b d r : B6) : Nat → Int → Int → Option Int
  | 0, _, a => some a
  | k + 1, t, a => if InB (aftV b d t) r then none else freeG b d r k (t + 1) (if Good (meetV (aftV b d t) r) then 1 else a)
theorem isFr_loop {b d : B6} {c : C7} (hb : boxE b = 0) (hd : driE d = 0) (hc : corV c = 0) : ∀ (k : Nat) (t a : Int), 0 ≤ t → t + k = c.2.2.2.2.2.2 + 1 →
    match freeG b d (regV c) k t a with
    | none => RisFr_0 (TisFr_0a a t b.1 b.2.1 b.2.2.1 b.2.2.2.1 b.2.2.2.2.1 b.2.2.2.2.2 d.1 d.2.1 d.2.2.1 d.2.2.2.1 d.2.2.2.2.1 d.2.2.2.2.2 c.1 c.2.1 c.2.2.1 c.2.2.2.1 c.2.2.2.2.1 c.2.2.2.2.2.1 c.2.2.2.2.2.2 (regV c).1 (regV c).2.1 (regV c).2.2.1 (regV c).2.2.2.1 (regV c).2.2.2.2.1 (regV c).2.2.2.2.2) = exO (XisFr_0a ())
    | some x => RisFr_0 (TisFr_0a a t b.1 b.2.1 b.2.2.1 b.2.2.2.1 b.2.2.2.2.1 b.2.2.2.2.2 d.1 d.2.1 d.2.2.1 d.2.2.2.1 d.2.2.2.2.1 d.2.2.2.2.2 c.1 c.2.1 c.2.2.1 c.2.2.2.1 c.2.2.2.2.1 c.2.2.2.2.2.1 c.2.2.2.2.2.2 (regV c).1 (regV c).2.1 (regV c).2.2.1 (regV c).2.2.2.1 (regV c).2.2.2.2.1 (regV c).2.2.2.2.2) = exO (XisFr_0b (x, b.1, b.2.1, b.2.2.1, b.2.2.2.1, b.2.2.2.2.1, b.2.2.2.2.2, d.1, d.2.1, d.2.2.1, d.2.2.2.1, d.2.2.2.2.1, d.2.2.2.2.2, c.1, c.2.1, c.2.2.1, c.2.2.2.1, c.2.2.2.2.1, c.2.2.2.2.2.1, c.2.2.2.2.2.2, (regV c).1, (regV c).2.1, (regV c).2.2.1, (regV c).2.2.2.1, (regV c).2.2.2.2.1, (regV c).2.2.2.2.2))
  | 0, t, a, h0, hk => by
    show RisFr_0 _ = _
    refine RisFr_0a_of _ _ _ _ _ _ _ _ _ _ _ _ _ _ _ _ _ _ _ _ _ _ _ _ _ _ _ ?_
    unfold BisFr_0a
    rw [bif_neg (by omega)]
    rfl
  | k + 1, t, a, h0, hk => by
    have hco := corV_ok hc
    have hA := bAft_is (b := b) (d := d) (t := t) (box_sm hb).1 hd (by omega)
    have hW := isW_is (aftV b d t) (regV c)
    have hM := meet_is (aftV b d t) (regV c)
    have hE := isEm_is (meetV (aftV b d t) (regV c))
    simp only [enc6] at hA hW hM hE
    unfold freeG
    by_cases hi : InB (aftV b d t) (regV c)
    · rw [if_pos hi]
      refine RisFr_0a_of _ _ _ _ _ _ _ _ _ _ _ _ _ _ _ _ _ _ _ _ _ _ _ _ _ _ _ ?_
      unfold BisFr_0a
      rw [bif_pos (by omega)]
      have e : inBb (aftV b d t) (regV c) = true := by simp [inBb, hi]
      simp only [hA, hW, bindO_val, e, cond_true]
      rfl
    · rw [if_neg hi]
      have e : inBb (aftV b d t) (regV c) = false := by simp [inBb, hi]
      have ih := isFr_loop hb hd hc k (t + 1) (if Good (meetV (aftV b d t) (regV c)) then 1 else a) (by omega) (by omega)
      have step : ∀ y, RisFr_0 (TisFr_0a (if Good (meetV (aftV b d t) (regV c)) then 1 else a) (t + 1) b.1 b.2.1 b.2.2.1 b.2.2.2.1 b.2.2.2.2.1 b.2.2.2.2.2 d.1 d.2.1 d.2.2.1 d.2.2.2.1 d.2.2.2.2.1 d.2.2.2.2.2 c.1 c.2.1 c.2.2.1 c.2.2.2.1 c.2.2.2.2.1 c.2.2.2.2.2.1 c.2.2.2.2.2.2 (regV c).1 (regV c).2.1 (regV c).2.2.1 (regV c).2.2.2.1 (regV c).2.2.2.2.1 (regV c).2.2.2.2.2) = some y → RisFr_0 (TisFr_0a a t b.1 b.2.1 b.2.2.1 b.2.2.2.1 b.2.2.2.2.1 b.2.2.2.2.2 d.1 d.2.1 d.2.2.1 d.2.2.2.1 d.2.2.2.2.1 d.2.2.2.2.2 c.1 c.2.1 c.2.2.1 c.2.2.2.1 c.2.2.2.2.1 c.2.2.2.2.2.1 c.2.2.2.2.2.2 (regV c).1 (regV c).2.1 (regV c).2.2.1 (regV c).2.2.2.1 (regV c).2.2.2.2.1 (regV c).2.2.2.2.2) = some y := fun y hy => by
        refine RisFr_0a_of _ _ _ _ _ _ _ _ _ _ _ _ _ _ _ _ _ _ _ _ _ _ _ _ _ _ _ ?_
        unfold BisFr_0a
        rw [bif_pos (by omega)]
        simp only [hA, hW, hM, hE, bindO_val, e, cond_false]
        rw [w64_in (by omega)]
        by_cases hg : Good (meetV (aftV b d t) (regV c))
        · rw [if_pos hg] at hy
          simp only [hg, not_true, decide_false, cond_false]
          exact hy
        · rw [if_neg hg] at hy
          simp only [hg, not_false_eq_true, decide_true, cond_true]
          exact hy
      split at ih <;> exact step _ ih
def freeV (b d : B6) (c : C7) (r : B6) : Int := (freeG b d r (c.2.2.2.2.2.2 + 1 - c.2.2.2.2.2.1).toNat c.2.2.2.2.2.1 2).getD 0
theorem isFr_is (b d : B6) (c : C7) : FisFr [enc6 b, enc6 d, encO c] = some (if freV b d c = 0 then (freeV b d c (regV c), 0) else (0, freV b d c)) := by
  refine FisFr_of _ _ _ _ _ _ _ _ _ _ _ _ _ _ _ _ _ _ _ ?_
  unfold tisFr
  have h1 : FfreE [enc6 b, enc6 d, encO c] = _ := freE_is b d c
  have h2 : FregO [encO c] = _ := regO_is c
  simp only [enc6, encO] at h1 h2
  simp only [h1, h2, bindO_val, bif_ne]
  by_cases hz : freV b d c = 0
  · obtain ⟨hb, hd, hc⟩ := freV_ok hz
    have hco := corV_ok hc
    rw [if_pos hz]
    simp only [hz, if_true]
    have hl := isFr_loop hb hd hc (c.2.2.2.2.2.2 + 1 - c.2.2.2.2.2.1).toNat c.2.2.2.2.2.1 2 (by omega) (by omega)
    unfold freeV
    split at hl
    · rename_i hg
      rw [LisFr_0a_of hl, hg]
      rfl
    · rename_i x hg
      rw [LisFr_0b_of hl, hg]
      rfl
  · rw [if_neg hz]
    simp only [hz, if_false]
theorem aft_good {b d : B6} (hb : boxE b = 0) (hd : driE d = 0) {t : Int} (ht : 0 ≤ t) : Good (aftV b d t) ∧ (aftV b d t).2.2.2.2.2 ≤ 10000 := by
  have h1 := boxE_ok hb
  have h2 := driE_ok hd
  have m1 := Int.mul_le_mul_of_nonneg_left (show d.1 ≤ d.2.1 by omega) ht
  have m2 := Int.mul_le_mul_of_nonneg_left (show d.2.2.1 ≤ d.2.2.2.1 by omega) ht
  have m3 := Int.mul_le_mul_of_nonneg_left (show d.2.2.2.2.1 ≤ d.2.2.2.2.2 by omega) ht
  have m4 := Int.mul_nonneg ht (show 0 ≤ d.2.2.2.2.1 by omega)
  unfold Good aftV pos
  simp only
  refine ⟨⟨by omega, ?_, ?_⟩, ?_⟩ <;> (repeat' split) <;> omega
theorem reg_meet {b d : B6} (hb : boxE b = 0) (hd : driE d = 0) {t : Int} (ht : 0 ≤ t) (c : C7) : meetV (aftV b d t) (regR c) = meetV (aftV b d t) (regV c) := by
  have h := (aft_good hb hd ht).2
  unfold meetV regR regV mnV
  simp only
  rw [if_neg (show ¬ ((1099511627776 : Int) < (aftV b d t).2.2.2.2.2) by omega), if_neg (show ¬ ((10000 : Int) < (aftV b d t).2.2.2.2.2) by omega)]
theorem in_meet {x r : B6} (hx : Good x) : (Good (meetV x r) ∧ meetV x r = x) ↔ InB x r := by
  obtain ⟨x1, x2, x3, x4, x5, x6⟩ := x
  obtain ⟨r1, r2, r3, r4, r5, r6⟩ := r
  unfold Good at *
  unfold meetV InB mxV mnV
  simp only [Prod.mk.injEq] at *
  constructor
  · rintro ⟨_, h⟩
    refine ⟨?_, ?_, ?_, ?_, ?_, ?_⟩
    all_goals (obtain ⟨h1, h2, h3, h4, h5, h6⟩ := h)
    · split at h1 <;> omega
    · split at h2 <;> omega
    · split at h3 <;> omega
    · split at h4 <;> omega
    · split at h5 <;> omega
    · split at h6 <;> omega
  · intro h
    rw [if_neg (by omega), if_neg (by omega), if_neg (by omega), if_neg (by omega), if_neg (by omega), if_neg (by omega)]
    exact ⟨hx, rfl, rfl, rfl, rfl, rfl, rfl⟩
end Gv

/- Corridors: the reference, and the earliest tick. -/
namespace Gv
open Go
set_option maxRecDepth 100000
theorem in_good {b d : B6} (hb : boxE b = 0) (hd : driE d = 0) {t : Int} (ht : 0 ≤ t) {r : B6} (h : InB (aftV b d t) r) : Good (meetV (aftV b d t) r) := ((in_meet (aft_good hb hd ht).1).2 h).1
def metAt (b d : B6) (c : C7) (t : Int) : Prop := Good (meetV (aftV b d t) (regV c))
instance (b d : B6) (c : C7) (t : Int) : Decidable (metAt b d c t) := by unfold metAt; infer_instance
def earlP (b d : B6) (c : C7) : Nat → Int
  | 0 => c.2.2.2.2.2.1
  | n + 1 => if metAt b d c (c.2.2.2.2.2.1 + n) then c.2.2.2.2.2.1 + n + 1 else earlP b d c n
def earlV (b d : B6) (c : C7) : Int × Int := if metAt b d c (c.2.2.2.2.2.2) then (0, 12) else (earlP b d c (c.2.2.2.2.2.2 - c.2.2.2.2.2.1).toNat, 0)
theorem earl_loop {b d : B6} {c : C7} (hb : boxE b = 0) (hd : driE d = 0) (hc : corV c = 0) : ∀ (n : Nat), c.2.2.2.2.2.1 + n ≤ c.2.2.2.2.2.2 →
    Rearl_0 (Tearl_0a (c.2.2.2.2.2.1 + n - 1) b.1 b.2.1 b.2.2.1 b.2.2.2.1 b.2.2.2.2.1 b.2.2.2.2.2 d.1 d.2.1 d.2.2.1 d.2.2.2.1 d.2.2.2.2.1 d.2.2.2.2.2 c.1 c.2.1 c.2.2.1 c.2.2.2.1 c.2.2.2.2.1 c.2.2.2.2.2.1 c.2.2.2.2.2.2 (regV c).1 (regV c).2.1 (regV c).2.2.1 (regV c).2.2.2.1 (regV c).2.2.2.2.1 (regV c).2.2.2.2.2) = exO (Xearl_0a (earlP b d c n, 0)) ∨ (Rearl_0 (Tearl_0a (c.2.2.2.2.2.1 + n - 1) b.1 b.2.1 b.2.2.1 b.2.2.2.1 b.2.2.2.2.1 b.2.2.2.2.2 d.1 d.2.1 d.2.2.1 d.2.2.2.1 d.2.2.2.2.1 d.2.2.2.2.2 c.1 c.2.1 c.2.2.1 c.2.2.2.1 c.2.2.2.2.1 c.2.2.2.2.2.1 c.2.2.2.2.2.2 (regV c).1 (regV c).2.1 (regV c).2.2.1 (regV c).2.2.2.1 (regV c).2.2.2.2.1 (regV c).2.2.2.2.2) = exO (Xearl_0b (b.1, b.2.1, b.2.2.1, b.2.2.2.1, b.2.2.2.2.1, b.2.2.2.2.2, d.1, d.2.1, d.2.2.1, d.2.2.2.1, d.2.2.2.2.1, d.2.2.2.2.2, c.1, c.2.1, c.2.2.1, c.2.2.2.1, c.2.2.2.2.1, c.2.2.2.2.2.1, c.2.2.2.2.2.2, (regV c).1, (regV c).2.1, (regV c).2.2.1, (regV c).2.2.2.1, (regV c).2.2.2.2.1, (regV c).2.2.2.2.2)) ∧ earlP b d c n = c.2.2.2.2.2.1)
  | 0, hn => by
    right
    refine ⟨?_, rfl⟩
    refine Rearl_0a_of _ _ _ _ _ _ _ _ _ _ _ _ _ _ _ _ _ _ _ _ _ _ _ _ _ _ ?_
    unfold Bearl_0a
    rw [bif_neg (by omega)]
    rfl
  | n + 1, hn => by
    have hco := corV_ok hc
    have e0 : c.2.2.2.2.2.1 + ((n + 1 : Nat) : Int) - 1 = c.2.2.2.2.2.1 + n := by omega
    rw [e0]
    have hA := bAft_is (b := b) (d := d) (t := c.2.2.2.2.2.1 + n) (box_sm hb).1 hd (by omega)
    have hM := meet_is (aftV b d (c.2.2.2.2.2.1 + n)) (regV c)
    have hE := isEm_is (meetV (aftV b d (c.2.2.2.2.2.1 + n)) (regV c))
    simp only [enc6] at hA hM hE
    unfold earlP
    by_cases hg : metAt b d c (c.2.2.2.2.2.1 + n)
    · left
      rw [if_pos hg]
      refine Rearl_0a_of _ _ _ _ _ _ _ _ _ _ _ _ _ _ _ _ _ _ _ _ _ _ _ _ _ _ ?_
      unfold Bearl_0a
      rw [bif_pos (by omega)]
      have hg' : Good (meetV (aftV b d (c.2.2.2.2.2.1 + n)) (regV c)) := hg
      have hne : ((c.2.2.2.2.2.1 + (n : Int)) == c.2.2.2.2.2.2) = false := by rw [beq_eq_false_iff_ne]; omega
      simp only [hA, hM, hE, bindO_val, hg', not_true, decide_false, cond_false, hne]
      rw [w64_in (by omega)]
      rfl
    · rw [if_neg hg]
      have hg' : ¬ Good (meetV (aftV b d (c.2.2.2.2.2.1 + n)) (regV c)) := hg
      have step : ∀ y, Rearl_0 (Tearl_0a (c.2.2.2.2.2.1 + n - 1) b.1 b.2.1 b.2.2.1 b.2.2.2.1 b.2.2.2.2.1 b.2.2.2.2.2 d.1 d.2.1 d.2.2.1 d.2.2.2.1 d.2.2.2.2.1 d.2.2.2.2.2 c.1 c.2.1 c.2.2.1 c.2.2.2.1 c.2.2.2.2.1 c.2.2.2.2.2.1 c.2.2.2.2.2.2 (regV c).1 (regV c).2.1 (regV c).2.2.1 (regV c).2.2.2.1 (regV c).2.2.2.2.1 (regV c).2.2.2.2.2) = some y → Rearl_0 (Tearl_0a (c.2.2.2.2.2.1 + n) b.1 b.2.1 b.2.2.1 b.2.2.2.1 b.2.2.2.2.1 b.2.2.2.2.2 d.1 d.2.1 d.2.2.1 d.2.2.2.1 d.2.2.2.2.1 d.2.2.2.2.2 c.1 c.2.1 c.2.2.1 c.2.2.2.1 c.2.2.2.2.1 c.2.2.2.2.2.1 c.2.2.2.2.2.2 (regV c).1 (regV c).2.1 (regV c).2.2.1 (regV c).2.2.2.1 (regV c).2.2.2.2.1 (regV c).2.2.2.2.2) = some y := fun y hy => by
        refine Rearl_0a_of _ _ _ _ _ _ _ _ _ _ _ _ _ _ _ _ _ _ _ _ _ _ _ _ _ _ ?_
        unfold Bearl_0a
        rw [bif_pos (by omega)]
        simp only [hA, hM, hE, bindO_val, hg', not_false_eq_true, decide_true, cond_true]
        rw [w64_in (by omega)]
        exact hy
      exact (earl_loop hb hd hc n (by omega)).imp (step _) fun h => ⟨step _ h.1, h.2⟩
theorem earl_is (b d : B6) (c : C7) : Fearl [enc6 b, enc6 d, encO c] = some (if freV b d c = 0 then earlV b d c else (0, freV b d c)) := by
  refine Fearl_of _ _ _ _ _ _ _ _ _ _ _ _ _ _ _ _ _ _ _ ?_
  unfold tearl
  have h1 : FfreE [enc6 b, enc6 d, encO c] = _ := freE_is b d c
  have h2 : FregO [encO c] = _ := regO_is c
  simp only [enc6, encO] at h1 h2
  simp only [h1, h2, bindO_val, bif_ne]
  by_cases hz : freV b d c = 0
  · obtain ⟨hb, hd, hc⟩ := freV_ok hz
    have hco := corV_ok hc
    rw [if_pos hz]
    simp only [hz, if_true]
    have hA := bAft_is (b := b) (d := d) (t := c.2.2.2.2.2.2) (box_sm hb).1 hd (by omega)
    have hM := meet_is (aftV b d (c.2.2.2.2.2.2)) (regV c)
    have hE := isEm_is (meetV (aftV b d (c.2.2.2.2.2.2)) (regV c))
    simp only [enc6] at hA hM hE
    unfold earlV
    by_cases hg : metAt b d c (c.2.2.2.2.2.2)
    · rw [if_pos hg]
      have hg' : Good (meetV (aftV b d (c.2.2.2.2.2.2)) (regV c)) := hg
      have hr : Rearl_0 (Tearl_0a (c.2.2.2.2.2.2) b.1 b.2.1 b.2.2.1 b.2.2.2.1 b.2.2.2.2.1 b.2.2.2.2.2 d.1 d.2.1 d.2.2.1 d.2.2.2.1 d.2.2.2.2.1 d.2.2.2.2.2 c.1 c.2.1 c.2.2.1 c.2.2.2.1 c.2.2.2.2.1 c.2.2.2.2.2.1 c.2.2.2.2.2.2 (regV c).1 (regV c).2.1 (regV c).2.2.1 (regV c).2.2.2.1 (regV c).2.2.2.2.1 (regV c).2.2.2.2.2) = exO (Xearl_0a (0, 12)) := by
        refine Rearl_0a_of _ _ _ _ _ _ _ _ _ _ _ _ _ _ _ _ _ _ _ _ _ _ _ _ _ _ ?_
        unfold Bearl_0a
        rw [bif_pos (by omega)]
        simp only [hA, hM, hE, bindO_val, hg', not_true, decide_false, cond_false, beq_self_eq_true, cond_true]
        rfl
      rw [Learl_0a_of hr]
      rfl
    · rw [if_neg hg]
      have hg' : ¬ Good (meetV (aftV b d (c.2.2.2.2.2.2)) (regV c)) := hg
      have step : ∀ y, Rearl_0 (Tearl_0a (c.2.2.2.2.2.2 - 1) b.1 b.2.1 b.2.2.1 b.2.2.2.1 b.2.2.2.2.1 b.2.2.2.2.2 d.1 d.2.1 d.2.2.1 d.2.2.2.1 d.2.2.2.2.1 d.2.2.2.2.2 c.1 c.2.1 c.2.2.1 c.2.2.2.1 c.2.2.2.2.1 c.2.2.2.2.2.1 c.2.2.2.2.2.2 (regV c).1 (regV c).2.1 (regV c).2.2.1 (regV c).2.2.2.1 (regV c).2.2.2.2.1 (regV c).2.2.2.2.2) = some y → Rearl_0 (Tearl_0a (c.2.2.2.2.2.2) b.1 b.2.1 b.2.2.1 b.2.2.2.1 b.2.2.2.2.1 b.2.2.2.2.2 d.1 d.2.1 d.2.2.1 d.2.2.2.1 d.2.2.2.2.1 d.2.2.2.2.2 c.1 c.2.1 c.2.2.1 c.2.2.2.1 c.2.2.2.2.1 c.2.2.2.2.2.1 c.2.2.2.2.2.2 (regV c).1 (regV c).2.1 (regV c).2.2.1 (regV c).2.2.2.1 (regV c).2.2.2.2.1 (regV c).2.2.2.2.2) = some y := fun y hy => by
        refine Rearl_0a_of _ _ _ _ _ _ _ _ _ _ _ _ _ _ _ _ _ _ _ _ _ _ _ _ _ _ ?_
        unfold Bearl_0a
        rw [bif_pos (by omega)]
        simp only [hA, hM, hE, bindO_val, hg', not_false_eq_true, decide_true, cond_true]
        rw [w64_in (by omega)]
        exact hy
      have hl := earl_loop hb hd hc (c.2.2.2.2.2.2 - c.2.2.2.2.2.1).toNat (by omega)
      have e0 : c.2.2.2.2.2.1 + (((c.2.2.2.2.2.2 - c.2.2.2.2.2.1).toNat : Nat) : Int) - 1 = c.2.2.2.2.2.2 - 1 := by omega
      rw [e0] at hl
      rcases hl with hl | ⟨hl, he⟩
      · rw [Learl_0a_of (step _ hl)]
        rfl
      · rw [Learl_0b_of (step _ hl), he]
        rfl
  · rw [if_neg hz]
    simp only [hz, if_false]
end Gv

/- Paths and free corridors, in plain terms. -/
namespace Gv
open Go
set_option maxRecDepth 100000
theorem freeG_none {b d r : B6} : ∀ (k : Nat) (t a : Int), freeG b d r k t a = none → ∃ s : Int, t ≤ s ∧ s < t + k ∧ InB (aftV b d s) r
  | 0, t, a, h => by simp [freeG] at h
  | k + 1, t, a, h => by
    unfold freeG at h
    split at h
    · rename_i hi
      exact ⟨t, by omega, by omega, hi⟩
    · obtain ⟨s, h1, h2, h3⟩ := freeG_none k _ _ h
      exact ⟨s, by omega, by omega, h3⟩
theorem freeG_some {b d r : B6} : ∀ (k : Nat) (t a x : Int), freeG b d r k t a = some x → (∀ s : Int, t ≤ s → s < t + k → ¬ InB (aftV b d s) r) ∧ (x = a ∨ x = 1) ∧ (x ≠ 1 → ∀ s : Int, t ≤ s → s < t + k → ¬ Good (meetV (aftV b d s) r)) ∧ ((∀ s : Int, t ≤ s → s < t + k → ¬ Good (meetV (aftV b d s) r)) → x = a)
  | 0, t, a, x, h => by
    simp [freeG] at h
    subst h
    exact ⟨fun s h1 h2 => by omega, .inl rfl, fun _ s h1 h2 => by omega, fun _ => rfl⟩
  | k + 1, t, a, x, h => by
    unfold freeG at h
    split at h
    · cases h
    · rename_i hi
      obtain ⟨h1, h2, h3, h4⟩ := freeG_some k _ _ _ h
      by_cases hg : Good (meetV (aftV b d t) r)
      · rw [if_pos hg] at h2 h4
        refine ⟨fun s q1 q2 => ?_, .inr (h2.elim id id), fun hx => absurd (h2.elim id id) hx, fun hn => absurd hg (hn t (by omega) (by omega))⟩
        by_cases e : s = t
        · subst e; exact hi
        · exact h1 s (by omega) (by omega)
      · rw [if_neg hg] at h2 h4
        refine ⟨fun s q1 q2 => ?_, h2, fun hx s q1 q2 => ?_, fun hn => h4 fun s q1 q2 => hn s (by omega) (by omega)⟩
        · by_cases e : s = t
          · subst e; exact hi
          · exact h1 s (by omega) (by omega)
        · by_cases e : s = t
          · subst e; exact hg
          · exact h3 hx s (by omega) (by omega)
theorem freeV_two {b d : B6} {c : C7} (hb : boxE b = 0) (hd : driE d = 0) (hc : corV c = 0) : freeV b d c (regV c) = 2 ↔ ∀ s : Int, c.2.2.2.2.2.1 ≤ s → s ≤ c.2.2.2.2.2.2 → ¬ metAt b d c s := by
  have hco := corV_ok hc
  unfold freeV
  cases hg : freeG b d (regV c) (c.2.2.2.2.2.2 + 1 - c.2.2.2.2.2.1).toNat c.2.2.2.2.2.1 2 with
  | none =>
    obtain ⟨s, h1, h2, h3⟩ := freeG_none _ _ _ hg
    refine ⟨fun h => by simp at h, fun h => absurd (in_good hb hd (by omega) h3) (h s h1 (by omega))⟩
  | some x =>
    obtain ⟨h1, h2, h3, h4⟩ := freeG_some _ _ _ _ hg
    refine ⟨fun h s q1 q2 => ?_, fun h => h4 fun s q1 q2 => h s q1 (by omega)⟩
    have hx : x = 2 := h
    exact h3 (by omega) s q1 (by omega)
theorem freeV_zero {b d : B6} {c : C7} (hc : corV c = 0) (h : freeV b d c (regV c) = 0) : ∃ s : Int, c.2.2.2.2.2.1 ≤ s ∧ s ≤ c.2.2.2.2.2.2 ∧ InB (aftV b d s) (regV c) := by
  have hco := corV_ok hc
  unfold freeV at h
  cases hg : freeG b d (regV c) (c.2.2.2.2.2.2 + 1 - c.2.2.2.2.2.1).toNat c.2.2.2.2.2.1 2 with
  | none =>
    obtain ⟨s, h1, h2, h3⟩ := freeG_none _ _ _ hg
    exact ⟨s, h1, by omega, h3⟩
  | some x =>
    obtain ⟨_, h2, _⟩ := freeG_some _ _ _ _ hg
    rw [hg] at h
    have hx : x = 0 := h
    omega
theorem earlP_spec (b d : B6) (c : C7) : ∀ n : Nat, c.2.2.2.2.2.1 ≤ earlP b d c n ∧ earlP b d c n ≤ c.2.2.2.2.2.1 + n ∧ (∀ s : Int, earlP b d c n ≤ s → s < c.2.2.2.2.2.1 + n → ¬ metAt b d c s) ∧ (c.2.2.2.2.2.1 < earlP b d c n → metAt b d c (earlP b d c n - 1))
  | 0 => by
    have e : earlP b d c 0 = c.2.2.2.2.2.1 := rfl
    rw [e]
    exact ⟨by omega, by omega, fun s h1 h2 => by omega, fun h => by omega⟩
  | n + 1 => by
    unfold earlP
    by_cases hm : metAt b d c (c.2.2.2.2.2.1 + n)
    · rw [if_pos hm]
      exact ⟨by omega, by omega, fun s h1 h2 => by omega, fun _ => by rw [Int.add_sub_cancel]; exact hm⟩
    · rw [if_neg hm]
      obtain ⟨h1, h2, h3, h4⟩ := earlP_spec b d c n
      refine ⟨h1, by omega, fun s q1 q2 => ?_, h4⟩
      by_cases e : s = c.2.2.2.2.2.1 + n
      · rw [e]; exact hm
      · exact h3 s q1 (by omega)
theorem earlV_spec {b d : B6} {c : C7} (hc : corV c = 0) : (earlV b d c = (0, 12) ∧ metAt b d c c.2.2.2.2.2.2) ∨ ∃ t : Int, earlV b d c = (t, 0) ∧ c.2.2.2.2.2.1 ≤ t ∧ t ≤ c.2.2.2.2.2.2 ∧ (∀ s : Int, t ≤ s → s ≤ c.2.2.2.2.2.2 → ¬ metAt b d c s) ∧ (c.2.2.2.2.2.1 < t → metAt b d c (t - 1)) := by
  have hco := corV_ok hc
  unfold earlV
  by_cases hm : metAt b d c c.2.2.2.2.2.2
  · rw [if_pos hm]
    exact .inl ⟨rfl, hm⟩
  · rw [if_neg hm]
    obtain ⟨h1, h2, h3, h4⟩ := earlP_spec b d c (c.2.2.2.2.2.2 - c.2.2.2.2.2.1).toNat
    refine .inr ⟨_, rfl, h1, by omega, fun s q1 q2 => ?_, h4⟩
    by_cases e : s = c.2.2.2.2.2.2
    · rw [e]; exact hm
    · exact h3 s q1 (by omega)
theorem pos_mono {x y : Int} (h : x ≤ y) : pos x ≤ pos y := by unfold pos; split <;> split <;> omega
theorem aft_mono {a b d : B6} (h : InB a b) : InB (aftV a d 1) (aftV b d 1) := by
  unfold InB at *
  unfold aftV
  simp only [Int.one_mul]
  exact ⟨by omega, by omega, pos_mono (by omega), pos_mono (by omega), pos_mono (by omega), pos_mono (by omega)⟩
theorem badF_in {b d : B6} (hd : driE d = 0) : ∀ (l : List Z3) (w : B6) (i k : Nat), badF d w l i = none → InB w (aftV b d k) → ∀ (j : Nat) (v : Z3), l[j]? = some v → Hd (aftV b d ((k + j : Nat) : Int)) v
  | [], _, _, _, _, _, j, v, hv => by simp at hv
  | z :: l, w, i, k, h, hw, j, v, hv => by
    unfold badF at h
    split at h
    · rename_i hz
      have hz2 : InB (boxV z) (aftV b d k) := by
        rw [inB_hd]
        unfold Hd at *
        unfold InB at hw
        omega
      cases j with
      | zero =>
        simp at hv
        subst hv
        exact (inB_hd z _).1 hz2
      | succ j =>
        have hn := aft_mono (d := d) hz2
        rw [aft_succ hd (by omega)] at hn
        have := badF_in hd l _ _ (k + 1) h (by exact_mod_cast hn) j v (by simpa using hv)
        rw [show k + (j + 1) = k + 1 + j by omega]
        exact this
    · cases h
theorem path_in {b d : B6} (hb : boxE b = 0) (hd : driE d = 0) {l : List Z3} (h : (pathE b d l).2 = 0) {j : Nat} {v : Z3} (hv : l[j]? = some v) : Hd (aftV b d (j : Int)) v := by
  unfold pathE at h
  rw [if_neg (by simp [both, hb, hd])] at h
  have hl : l.length ≠ 0 := fun e => by
    have := (List.getElem?_eq_some_iff.1 hv).1
    omega
  rw [if_neg hl] at h
  split at h
  · cases h
  · unfold pathV at h
    split at h
    · cases h
    · rename_i hbad
      have h0 : InB b (aftV b d ((0 : Nat) : Int)) := by
        have := aft_zero (d := d) (box_sm hb).2
        have e : aftV b d ((0 : Nat) : Int) = b := this
        rw [e]
        unfold InB
        omega
      have := badF_in hd l b 0 0 hbad h0 j v hv
      rwa [Nat.zero_add] at this
end Gv
