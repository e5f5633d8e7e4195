import Derived.Test.YtggnifebabjoiaaA0
import Derived.Test.YtggnifebabjoiaaS18
import Derived.Test.YtggnifebabjoiaaP13a
import Derived.Test.YtggnifebabjoiaaP13b

/- The law about profiles: its parts. -/
namespace Gv
open Go
set_option maxRecDepth 100000
theorem l4_62 (n0 : Nat) (c1 : List PV) (i2 i3 i4 i5 i6 i7 i8 i9 i10 : Int) (n11 : Nat) (c12 : List PV) (i13 : Int) (i16 i17 i18 i19 i20 i21 i22 i23 i24 i25 i26 i27 : Int) :
    Llaw4_1000062 (Tlaw4_1000062a n0 c1 i2 i3 i4 i5 i6 i7 i8 i9 i10 n11 c12 i13 i4 i5 i16 i17 i18 i19 i20 i21 i22 i23 i24 i25 i26 i27) = some (.inr (n0, c1, i2, i3, i6, i7, i8, i9, i10, n11, c12, i13, i5, i16, i17, i18, i19, i20, i21, i22, i23, i24, i25, i26, i27)) := by
  refine Llaw4_1000062b_of (Rlaw4_1000062a_of _ _ _ _ _ _ _ _ _ _ _ _ _ _ _ _ _ _ _ _ _ _ _ _ _ _ _ _ ?_)
  unfold Blaw4_1000062a
  simp only [bif_ne, if_true]
  rfl
theorem misE_zero {n : Nat} {x : Int} : misE n x = 0 ↔ 0 ≤ x ∧ x ≤ (n : Int) - 1 := by unfold misE; split <;> omega
theorem misE_six {n : Nat} {x : Int} (h : ¬ (0 ≤ x ∧ x ≤ (n : Int) - 1)) : misE n x = 6 := by unfold misE; rw [if_pos (by omega)]
theorem l4_46 (l : List Z3) (hl : l.length ≤ 22) (hg : gtsE l = 0) (x y i2 i3 : Int) (i5 i6 i7 i8 : Int) (n9 : Nat) (c10 : List PV) (i11 : Int) (i16 i17 i18 i19 i20 i21 i22 i23 : Int) (q : Int × Int × Int)
    (hq : q = if betE l x y = 0 then ((lossV (gtA l x.toNat) (gtA l y.toNat)).1, (lossV (gtA l x.toNat) (gtA l y.toNat)).2, 0) else (0, 0, betE l x y)) :
    Llaw4_1000046 (Tlaw4_1000046a l.length (encT l) i2 i3 q.2.2 i5 i6 i7 i8 n9 c10 i11 x y q.1 q.2.1 i16 i17 i18 i19 i20 i21 i22 i23) = some (.inr (l.length, encT l, i2, i3, i5, i6, i7, i8, n9, c10, i11, i16, i17, i18, i19, i20, i21, i22, i23)) := by
  refine Llaw4_1000046b_of (Rlaw4_1000046a_of _ _ _ _ _ _ _ _ _ _ _ _ _ _ _ _ _ _ _ _ _ _ _ _ ?_)
  obtain ⟨k1, ha⟩ := gtsE_ok hg
  have w1 : w64 ((l.length : Int) - 1) = (l.length : Int) - 1 := w64_in (by omega)
  subst hq
  unfold Blaw4_1000046a
  simp only [bWi_is, bindO_val, w1]
  by_cases h1 : 0 ≤ x ∧ x ≤ (l.length : Int) - 1
  · have m1 := misE_zero.2 h1
    rw [decide_eq_true h1, cond_true]
    by_cases h2 : 0 ≤ y ∧ y ≤ (l.length : Int) - 1
    · have m2 := misE_zero.2 h2
      rw [decide_eq_true h2, cond_true]
      by_cases h3 : y ≤ x
      · have hb : betE l x y = 9 := by unfold betE first4; rw [hg, m1, m2, if_pos h3]; rfl
        rw [bif_pos h3, hb, if_neg (by decide)]
        simp only [bif_ne, if_true, beq_self_eq_true, Bool.and_self, Bool.not_true, cond_false]
        rw [bif_neg (by omega)]
        rfl
      · have hb : betE l x y = 0 := by unfold betE first4; rw [hg, m1, m2, if_neg h3]; rfl
        have hlo := rLoss_is ha (show x.toNat < l.length by omega) (show y.toNat < l.length by omega)
        rw [show ((x.toNat : Nat) : Int) = x by omega, show ((y.toNat : Nat) : Int) = y by omega] at hlo
        rw [bif_neg h3, bif_pos (by omega), hb, if_pos rfl]
        simp only [bif_ne, if_true, hlo, bindO_val, beq_self_eq_true, Bool.and_self, Bool.not_true, cond_false]
        rfl
    · have hb : betE l x y = 6 := by unfold betE first4; rw [hg, m1, misE_six h2]; rfl
      rw [decide_eq_false h2, cond_false, hb, if_neg (by decide)]
      simp only [bif_ne, if_true, beq_self_eq_true, Bool.and_self, Bool.not_true, cond_false]
      rfl
  · have hb : betE l x y = 6 := by unfold betE first4; rw [hg, misE_six h1]; rfl
    rw [decide_eq_false h1, cond_false, hb, if_neg (by decide)]
    simp only [bif_ne, if_true, beq_self_eq_true, Bool.and_self, Bool.not_true, cond_false]
    rfl
theorem l4_32 (l : List Z3) (hg : gtsE l = 0) (i2 lim : Int) (i4 i5 i6 i7 : Int) (i11 i12 i13 i14 i15 i16 i17 i18 : Int) (q : (Nat × List PV) × Int)
    (hq : q = if rmpE l lim = 0 then (((rmV l lim).length, encG (rmV l lim)), 0) else ((0, []), rmpE l lim)) :
    Llaw4_1000032 (Tlaw4_1000032a l.length (encT l) i2 lim i4 i5 i6 i7 q.1.1 q.1.2 q.2 i11 i12 i13 i14 i15 i16 i17 i18) = some (.inr (l.length, encT l, i2, i4, i5, i6, i7, i11, i12, i13, i14, i15, i16, i17, i18)) := by
  refine Llaw4_1000032b_of (Rlaw4_1000032a_of _ _ _ _ _ _ _ _ _ _ _ _ _ _ _ _ _ _ _ ?_)
  obtain ⟨k1, ha⟩ := gtsE_ok hg
  have he : rmpE l lim = rangeE lim 1 20000 := both_zero hg
  subst hq
  unfold Blaw4_1000032a
  simp only [rRamE_is, bindO_val, ← he, bif_ne, bif_eq]
  by_cases h : rmpE l lim = 0
  · have hr := rRam_is l (-1) lim ha k1
    have hb := bRgs_is (rmV l lim) (by have := rmF_len l lim (l.length - 1) 1 []; unfold rmV; simp only [List.length_nil] at this; omega)
    simp only [h, if_true, hr, hb, bindO_val, cond_true]
    rfl
  · simp only [if_neg h, if_true]
    rw [if_pos (by rfl)]
    rfl
theorem gS_found (l : List Z3) (gain up : Bool) : ∀ (P : List (Nat × Nat)) (s : Bst), s.1 = true ∨ P ≠ [] → (P.foldl (gS l gain up) s).1 = true
  | [], s, h => by
    rcases h with h | h
    · exact h
    · exact absurd rfl h
  | p :: P, s, _ => by
    rw [List.foldl_cons]
    refine gS_found l gain up P _ (.inl ?_)
    unfold gS
    split
    · rfl
    · rename_i h
      cases hs : s.1 with
      | true => rfl
      | false => exact absurd (.inl hs) h
theorem gV_cases (l : List Z3) (len : Int) : (∀ gain up, gV l len gain up = (false, 0, 0, 0, 0)) ∨ ∀ gain up, (gV l len gain up).1 = true := by
  by_cases h : prsP l len l.length 0 = []
  · refine .inl fun gain up => ?_
    unfold gV
    rw [h]
    rfl
  · exact .inr fun gain up => gS_found l gain up _ _ (.inr h)
end Gv

/- The law about profiles. -/
namespace Gv
open Go
set_option maxRecDepth 100000
theorem profilesLaw (l : List Z3) (x y len lim : Int) : Flaw4 [.list l.length (encT l), .agg [.int .i64 x, .int .i64 y], .agg [.int .i64 len, .int .i64 lim]] = some true := by
  refine Flaw4_of _ _ _ _ _ _ ?_
  unfold tlaw4
  simp only [awake_is, few_is, cond_true, bindO_val]
  by_cases hl : l.length ≤ 22
  · have hl' : l.length < 1000 := by omega
    simp only [decide_eq_true hl, cond_true, rCopP_is l hl', cP_is l hl', rCP_is l hl', bindO_val, lBet_is l x y hl', sLoss_is l len hl', sGain_is l len hl', pLoss_is l len hl', ramps_is l lim hl']
    rw [l4_62]
    simp only [bindO_val, Sum.elim, bif_ne]
    show (if gtsE l = 0 then _ else _) = _
    by_cases hg : gtsE l = 0
    · rw [if_pos hg]
      obtain ⟨k1, ha⟩ := gtsE_ok hg
      rw [l4_46 l hl hg x y len lim _ _ _ _ _ _ _ _ _ _ _ _ _ _ _ _ rfl]
      simp only [bindO_val]
      rw [l4_32 l hg len lim _ _ _ _ _ _ _ _ _ _ _ _ _ rfl]
      simp only [bindO_val, rAtE_is]
      have hs : strE l len = rangeE len 0 50000 := both_zero hg
      by_cases h : rangeE len 0 50000 = 0
      · have hst := fun gain => rStr_is l (-1) len gain ha k1
        have hps := rPos_is l (-1) len ha k1
        have hbv : ∀ gain, bestV l len gain = gV l len gain false := fun gain => rfl
        simp only [hs, h, if_true, hst, hps, hbv, bindO_val]
        rcases gV_cases l len with hz | hz
        · simp only [hz]
          rfl
        · simp only [hz false false, hz true false, hz false true, fndE, if_true, cond_true, beq_self_eq_true, Bool.and_self]
      · simp only [hs, if_neg h, beq_self_eq_true, Bool.and_self, cond_true, if_false]
    · rw [if_neg hg]
      have e1 : betE l x y = gtsE l := by unfold betE first4; rw [if_pos hg]
      have e2 : strE l len = gtsE l := both_not hg
      have e3 : rmpE l lim = gtsE l := both_not hg
      simp only [e1, e2, e3, if_neg hg, show (gtsV l).2 = gtsE l from rfl, beq_self_eq_true, Bool.and_self, cond_true]
      rfl
  · simp only [decide_eq_false hl, cond_false]
end Gv
