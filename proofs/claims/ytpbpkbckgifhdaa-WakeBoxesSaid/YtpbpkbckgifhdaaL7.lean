/- The law of boxes. -/
import Derived.Test.YtpbpkbckgifhdaaA0
import Derived.Test.YtpbpkbckgifhdaaK3
import Derived.Test.YtpbpkbckgifhdaaBL7
namespace Gv
open Go
set_option maxRecDepth 100000
theorem n36 (i0 i1 i2 i3 i4 i5 i6 i7 i8 i9 i10 i11 i12 i13 i14 i15 i16 i17 i18 i19 i20 i21 i22 i23 i24 i25 i26 i27 i28 i29 i30 i31 i32 i33 i34 : Int) : Llaw7_1000036 (Tlaw7_1000036a i0 i1 i2 i3 i4 i5 i6 i7 i8 i9 i10 i11 i12 i13 i14 i15 i16 i17 i18 i19 i20 i21 i22 i23 i24 i25 i26 i27 i28 i29 i30 i31 i32 i33 i34) = some (i0, i1, i2, both i3 (boxE (i10, i11, i12, i13, i14, i15)), i4, i5, i6, i7, i8, i9, i10, i11, i12, i13, i14, i15, i16, i17, i18, i19, i20, i21, i22, i23, i24, i25, i26, i27, i28, i29, i30, i31, i32, i33, i34) := by
  refine Llaw7_1000036a_of (Rlaw7_1000036a_of _ _ _ _ _ _ _ _ _ _ _ _ _ _ _ _ _ _ _ _ _ _ _ _ _ _ _ _ _ _ _ _ _ _ _ ?_)
  unfold Blaw7_1000036a
  have h := rBoxE_is (i10, i11, i12, i13, i14, i15)
  simp only [enc6] at h
  by_cases hz : i3 = 0
  · subst hz
    simp only [beq_self_eq_true, cond_true, h, bindO_val, both_zero rfl]
    rfl
  · have hb : (i3 == 0) = false := by simpa using hz
    simp only [hb, cond_false, both_not hz]
    rfl
theorem n32 (i0 i1 i2 i3 i4 i5 i6 i7 i8 i9 i10 i11 i12 i13 i14 i15 i16 i17 i18 i19 i20 i21 i22 i23 i24 i25 i26 i27 i28 i29 i30 i31 i32 i33 i34 : Int) (h : i3 ≠ 0 → i1 = i3 ∧ i29 = 0 ∧ i30 = 0 ∧ i31 = 0 ∧ i32 = 0 ∧ i33 = 0 ∧ i34 = 0) : Llaw7_1000032 (Tlaw7_1000032a i0 i1 i2 i3 i4 i5 i6 i7 i8 i9 i10 i11 i12 i13 i14 i15 i16 i17 i18 i19 i20 i21 i22 i23 i24 i25 i26 i27 i28 i29 i30 i31 i32 i33 i34) = some (Sum.inr (i0, i1, i2, i3, i4, i5, i6, i7, i8, i9, i10, i11, i12, i13, i14, i15, i16, i17, i18, i19, i20, i21, i22, i23, i24, i25, i26, i27, i28, i29, i30, i31, i32, i33, i34)) := by
  refine Llaw7_1000032b_of (Rlaw7_1000032a_of _ _ _ _ _ _ _ _ _ _ _ _ _ _ _ _ _ _ _ _ _ _ _ _ _ _ _ _ _ _ _ _ _ _ _ ?_)
  unfold Blaw7_1000032a
  by_cases hz : i3 = 0
  · subst hz
    simp only [bne_self_eq_false, cond_false]
    rfl
  · obtain ⟨rfl, rfl, rfl, rfl, rfl, rfl, rfl⟩ := h hz
    have hb : (i1 != 0) = true := by simpa using hz
    simp only [hb, cond_true, bne_self_eq_false, cond_false, beq_self_eq_true, Bool.and_true, Bool.not_true]
    rfl
theorem n25 (i0 i1 i2 i3 i4 i5 i6 i7 i8 i9 i10 i11 i12 i13 i14 i15 i16 i17 i18 i19 i20 i21 i22 i23 i24 i25 i26 i27 i28 i29 i30 i31 i32 i33 i34 : Int) (h : i3 = 0 → (i1 = if Good (meetV (i4, i5, i6, i7, i8, i9) (i10, i11, i12, i13, i14, i15)) then 0 else 13) ∧ (i29, i30, i31, i32, i33, i34) = meetB (i4, i5, i6, i7, i8, i9) (i10, i11, i12, i13, i14, i15)) :
    Llaw7_1000025 (Tlaw7_1000025a i0 i1 i2 i3 i4 i5 i6 i7 i8 i9 i10 i11 i12 i13 i14 i15 i16 i17 i18 i19 i20 i21 i22 i23 i24 i25 i26 i27 i28 i29 i30 i31 i32 i33 i34) = some (Sum.inr (i0, i2, i4, i5, i6, i7, i8, i9, i16, i17, i18, i19, i20, i21, i22, i23, i24, i25, i26, i27, i28)) := by
  refine Llaw7_1000025b_of (Rlaw7_1000025a_of _ _ _ _ _ _ _ _ _ _ _ _ _ _ _ _ _ _ _ _ _ _ _ _ _ _ _ _ _ _ _ _ _ _ _ ?_)
  unfold Blaw7_1000025a
  have hm := rMeet_is (i4, i5, i6, i7, i8, i9) (i10, i11, i12, i13, i14, i15)
  simp only [enc6] at hm
  simp only [hm, bindO_val, app7]
  by_cases hz : i3 = 0
  · obtain ⟨h1, h2⟩ := h hz
    subst hz
    by_cases hg : Good (meetV (i4, i5, i6, i7, i8, i9) (i10, i11, i12, i13, i14, i15))
    · rw [if_pos hg] at h1
      subst h1
      generalize meetB (i4, i5, i6, i7, i8, i9) (i10, i11, i12, i13, i14, i15) = mb at h2 ⊢
      subst h2
      simp only [hg, decide_true, cond_true, beq_self_eq_true, bne_self_eq_false, cond_false, Bool.and_true, Bool.not_true]
      rfl
    · rw [if_neg hg] at h1
      subst h1
      unfold meetB at h2
      rw [if_neg hg] at h2
      simp only [zero6, Prod.mk.injEq] at h2
      obtain ⟨rfl, rfl, rfl, rfl, rfl, rfl⟩ := h2
      simp only [hg, decide_false, cond_true, beq_self_eq_true, bne_self_eq_false, cond_false, Bool.and_true, Bool.not_true]
      rfl
  · have hb : (i3 == 0) = false := by simpa using hz
    simp only [hb, cond_false]
    cases decide (Good (meetV (i4, i5, i6, i7, i8, i9) (i10, i11, i12, i13, i14, i15))) <;> rfl
theorem n16 (i0 i1 i2 i3 i4 i5 i6 i7 i8 i9 i10 i11 i12 i13 i14 i15 i16 i17 i18 i19 i20 : Int) : Llaw7_1000016 (Tlaw7_1000016a i0 i1 i2 i3 i4 i5 i6 i7 i8 i9 i10 i11 i12 i13 i14 i15 i16 i17 i18 i19 i20) = some (i0, both i1 (driE (i8, i9, i10, i11, i12, i13)), i2, i3, i4, i5, i6, i7, i8, i9, i10, i11, i12, i13, i14, i15, i16, i17, i18, i19, i20) := by
  refine Llaw7_1000016a_of (Rlaw7_1000016a_of _ _ _ _ _ _ _ _ _ _ _ _ _ _ _ _ _ _ _ _ _ ?_)
  unfold Blaw7_1000016a
  have h := rDriE_is (i8, i9, i10, i11, i12, i13)
  simp only [enc6] at h
  by_cases hz : i1 = 0
  · subst hz
    simp only [beq_self_eq_true, cond_true, h, bindO_val, both_zero rfl]
    rfl
  · have hb : (i1 == 0) = false := by simpa using hz
    simp only [hb, cond_false, both_not hz]
    rfl
theorem n12 (i0 i1 i2 i3 i4 i5 i6 i7 i8 i9 i10 i11 i12 i13 i14 i15 i16 i17 i18 i19 i20 : Int) : Llaw7_1000012 (Tlaw7_1000012a i0 i1 i2 i3 i4 i5 i6 i7 i8 i9 i10 i11 i12 i13 i14 i15 i16 i17 i18 i19 i20) = some (i0, both i1 (rangeE i14 0 1000), i2, i3, i4, i5, i6, i7, i8, i9, i10, i11, i12, i13, i14, i15, i16, i17, i18, i19, i20) := by
  refine Llaw7_1000012a_of (Rlaw7_1000012a_of _ _ _ _ _ _ _ _ _ _ _ _ _ _ _ _ _ _ _ _ _ ?_)
  unfold Blaw7_1000012a
  have h := rTicE_is i14
  by_cases hz : i1 = 0
  · subst hz
    simp only [beq_self_eq_true, cond_true, h, bindO_val, both_zero rfl]
    rfl
  · have hb : (i1 == 0) = false := by simpa using hz
    simp only [hb, cond_false, both_not hz]
    rfl
theorem first_both (a b c : Int) : both (both a b) c = first3 a b c := by
  unfold both first3
  by_cases ha : a = 0
  · subst ha; simp
  · simp [ha]
theorem boxesLaw (b o d : B6) (t : Int) : Flaw7 [enc6 b, enc6 o, .agg [.int .i64 d.1, .int .i64 d.2.1, .int .i64 d.2.2.1, .int .i64 d.2.2.2.1, .int .i64 d.2.2.2.2.1, .int .i64 d.2.2.2.2.2, .int .i64 t]] = some true := by
  refine Flaw7_of _ _ _ _ _ _ _ _ _ _ _ _ _ _ _ _ _ _ _ ?_
  unfold tlaw7
  have ha : Fn env 12 (RSh.one CK.bool) [] = some true := awake_is
  have hc : FcBox [enc6 b] = _ := cBox_is b
  have hr : FrBoxE [enc6 b] = _ := rBoxE_is b
  have hA := @boxA_is b d t
  have hM := meetO_is b o
  simp only [enc6] at hc hr hA hM
  simp only [ha, bindO_val, cond_true, bWi_is]
  by_cases h2 : (201 : Int) ≤ t ∧ t ≤ 1000
  · rw [bif_pos h2]
  · rw [bif_neg h2]
    simp only [hc, hr, hA, hM, bindO_val, bne_self_eq_false, cond_false, n36, app7]
    rw [n32 _ _ _ _ _ _ _ _ _ _ _ _ _ _ _ _ _ _ _ _ _ _ _ _ _ _ _ _ _ _ _ _ _ _ _ (fun hz => by
      have e : meetR b o = (zero6, both (boxE b) (boxE o)) := if_pos hz
      rw [e]
      exact ⟨rfl, rfl, rfl, rfl, rfl, rfl, rfl⟩)]
    simp only [bindO_val, Sum.elim_inr]
    rw [n25 _ _ _ _ _ _ _ _ _ _ _ _ _ _ _ _ _ _ _ _ _ _ _ _ _ _ _ _ _ _ _ _ _ _ _ (fun hz => by
      unfold meetR meetB
      rw [if_neg (by simpa using hz)]
      by_cases hg : Good (meetV b o)
      · have hg' : Good (meetV (b.1, b.2.1, b.2.2.1, b.2.2.2.1, b.2.2.2.2.1, b.2.2.2.2.2) (o.1, o.2.1, o.2.2.1, o.2.2.2.1, o.2.2.2.2.1, o.2.2.2.2.2)) := hg
        rw [if_pos hg, if_pos hg', if_pos hg']
        exact ⟨rfl, rfl⟩
      · have hg' : ¬ Good (meetV (b.1, b.2.1, b.2.2.1, b.2.2.2.1, b.2.2.2.2.1, b.2.2.2.2.2) (o.1, o.2.1, o.2.2.1, o.2.2.2.1, o.2.2.2.2.1, o.2.2.2.2.2)) := hg
        rw [if_neg hg, if_neg hg', if_neg hg']
        exact ⟨rfl, rfl⟩)]
    simp only [bindO_val, Sum.elim_inr, n16, n12]
    have hf : both (both (boxE b) (driE (d.1, d.2.1, d.2.2.1, d.2.2.2.1, d.2.2.2.2.1, d.2.2.2.2.2))) (rangeE t 0 1000) = first3 (boxE b) (driE d) (rangeE t 0 1000) := first_both _ _ _
    simp only [hf]
    by_cases hz : first3 (boxE b) (driE d) (rangeE t 0 1000) = 0
    · have hb : boxE b = 0 ∧ driE d = 0 ∧ rangeE t 0 1000 = 0 := by
        unfold first3 at hz
        split at hz
        · contradiction
        · rename_i h1
          split at hz
          · contradiction
          · rename_i h2
            exact ⟨by simpa using h1, by simpa using h2, hz⟩
      have ht : 0 ≤ t ∧ t ≤ 1000 := by
        have := hb.2.2
        rw [rangeE_if] at this
        split at this
        · assumption
        · cases this
      have hR := rAft_is hb.1 hb.2.1 ht
      simp only [enc6] at hR
      simp only [hz, if_true, bne_self_eq_false, cond_false, beq_self_eq_true, cond_true, hR, bindO_val, Bool.and_true]
    · have hbn : (first3 (boxE b) (driE d) (rangeE t 0 1000) != 0) = true := by simpa using hz
      simp only [hz, if_false, hbn, cond_true, beq_self_eq_true, Bool.and_true]
end Gv
