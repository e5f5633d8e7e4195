/- The law of the pattern. -/
import Derived.Test.YtfhgjanheaocaaaA0
import Derived.Test.YtfhgjanheaocaaaR1
import Derived.Test.YtfhgjanheaocaaaQL3
namespace Gv
open Go
set_option maxRecDepth 100000
theorem z60 (v s : Z3) (y z b : Int) : Llaw3_1000060 (Tlaw3_1000060a b v.1 v.2.1 v.2.2 y z s.1 s.2.1 s.2.2) = some (Sum.inl ()) ∨ (Llaw3_1000060 (Tlaw3_1000060a b v.1 v.2.1 v.2.2 y z s.1 s.2.1 s.2.2) = some (Sum.inr (b, v.1, v.2.1, v.2.2, y, z, s.1, s.2.1, s.2.2)) ∧ vorV v = 0 ∧ setV s = 0 ∧ poiV y z = 0 ∧ (-100 ≤ b ∧ b ≤ 100)) := by
  have h1 : Fn env 6 (RSh.one (CK.int .i64)) [.agg [.int .i64 v.1, .int .i64 v.2.1, .int .i64 v.2.2]] = _ := rVorE_is v
  have h2 : Fn env 7 (RSh.one (CK.int .i64)) [.agg [.int .i64 s.1, .int .i64 s.2.1, .int .i64 s.2.2]] = _ := rSetE_is s
  have h3 : Fn env 8 (RSh.one (CK.int .i64)) [.agg [.int .i64 y, .int .i64 z]] = _ := rPoiE_is y z
  have h4 : Fn env 9 (RSh.one CK.bool) [.int .i64 b, .int .i64 (-100), .int .i64 100] = _ := bWi_is b (-100) 100
  by_cases a1 : vorV v = 0
  · by_cases a2 : setV s = 0
    · by_cases a3 : poiV y z = 0
      · by_cases a4 : -100 ≤ b ∧ b ≤ 100
        · right
          refine ⟨Llaw3_1000060b_of (Rlaw3_1000060a_of _ _ _ _ _ _ _ _ _ ?_), a1, a2, a3, a4⟩
          unfold Blaw3_1000060a
          rw [h1, bindO_val, bif_ne, if_pos a1, h2, bindO_val, bif_ne, if_pos a2, h3, bindO_val, bif_ne, if_pos a3, h4, bindO_val, decide_eq_true a4, cond_true]
          rfl
        · left
          refine Llaw3_1000060a_of (Rlaw3_1000060a_of _ _ _ _ _ _ _ _ _ ?_)
          unfold Blaw3_1000060a
          rw [h1, bindO_val, bif_ne, if_pos a1, h2, bindO_val, bif_ne, if_pos a2, h3, bindO_val, bif_ne, if_pos a3, h4, bindO_val, decide_eq_false a4, cond_false]
          rfl
      · left
        refine Llaw3_1000060a_of (Rlaw3_1000060a_of _ _ _ _ _ _ _ _ _ ?_)
        unfold Blaw3_1000060a
        rw [h1, bindO_val, bif_ne, if_pos a1, h2, bindO_val, bif_ne, if_pos a2, h3, bindO_val, bif_ne, if_neg a3]
        rfl
    · left
      refine Llaw3_1000060a_of (Rlaw3_1000060a_of _ _ _ _ _ _ _ _ _ ?_)
      unfold Blaw3_1000060a
      rw [h1, bindO_val, bif_ne, if_pos a1, h2, bindO_val, bif_ne, if_neg a2]
      rfl
  · left
    refine Llaw3_1000060a_of (Rlaw3_1000060a_of _ _ _ _ _ _ _ _ _ ?_)
    unfold Blaw3_1000060a
    rw [h1, bindO_val, bif_ne, if_neg a1]
    rfl
theorem z10 (n d : Int) (v s : Z3) (y z : Int) : Llaw3_1000010 (Tlaw3_1000010a n d v.1 v.2.1 v.2.2 s.1 s.2.1 s.2.2 y z) = some (Sum.inl ()) ∨ (Llaw3_1000010 (Tlaw3_1000010a n d v.1 v.2.1 v.2.2 s.1 s.2.1 s.2.2 y z) = some (Sum.inr (n, d, v.1, v.2.1, v.2.2, s.1, s.2.1, s.2.2, y, z)) ∧ vorV v = 0 ∧ setV s = 0 ∧ poiV y z = 0) := by
  have h1 : Fn env 6 (RSh.one (CK.int .i64)) [.agg [.int .i64 v.1, .int .i64 v.2.1, .int .i64 v.2.2]] = _ := rVorE_is v
  have h2 : Fn env 7 (RSh.one (CK.int .i64)) [.agg [.int .i64 s.1, .int .i64 s.2.1, .int .i64 s.2.2]] = _ := rSetE_is s
  have h3 : Fn env 8 (RSh.one (CK.int .i64)) [.agg [.int .i64 y, .int .i64 z]] = _ := rPoiE_is y z
  by_cases a1 : vorV v = 0
  · by_cases a2 : setV s = 0
    · by_cases a3 : poiV y z = 0
      · right
        refine ⟨Llaw3_1000010b_of (Rlaw3_1000010a_of _ _ _ _ _ _ _ _ _ _ ?_), a1, a2, a3⟩
        unfold Blaw3_1000010a
        rw [h1, bindO_val, bif_ne, if_pos a1, h2, bindO_val, bif_ne, if_pos a2, h3, bindO_val, bif_ne, if_pos a3]
        rfl
      · left
        refine Llaw3_1000010a_of (Rlaw3_1000010a_of _ _ _ _ _ _ _ _ _ _ ?_)
        unfold Blaw3_1000010a
        rw [h1, bindO_val, bif_ne, if_pos a1, h2, bindO_val, bif_ne, if_pos a2, h3, bindO_val, bif_ne, if_neg a3]
        rfl
    · left
      refine Llaw3_1000010a_of (Rlaw3_1000010a_of _ _ _ _ _ _ _ _ _ _ ?_)
      unfold Blaw3_1000010a
      rw [h1, bindO_val, bif_ne, if_pos a1, h2, bindO_val, bif_ne, if_neg a2]
      rfl
  · left
    refine Llaw3_1000010a_of (Rlaw3_1000010a_of _ _ _ _ _ _ _ _ _ _ ?_)
    unfold Blaw3_1000010a
    rw [h1, bindO_val, bif_ne, if_neg a1]
    rfl
theorem rad_opp {v s v' s' : Z3} {y z y' z' : Int} (hN : radN v' s' y' z' = -radN v s y z) (hD : radD v' s' y' z' = radD v s y z) (h : ¬ ((lowF (radN v s y z) (radD v s y z)).1.natAbs : Int) > 1000000000) : radV v' s' y' z' = (-(lowF (radN v s y z) (radD v s y z)).1, (lowF (radN v s y z) (radD v s y z)).2, 0) := by
  unfold radV
  rw [hN, hD, low_neg]
  rw [if_neg (by
    simp only [Int.natAbs_neg]
    exact h)]
theorem rad_null {v s : Z3} {y z : Int} (hN : radN v s y z = 0) (hD : 0 < radD v s y z) : radV v s y z = (0, 1, 0) := by
  unfold radV
  rw [hN, low_null hD]
  rfl
theorem patternLaw (v s : Z3) (y z b : Int) : Flaw3 [.agg [.int .i64 v.1, .int .i64 v.2.1, .int .i64 v.2.2, .int .i64 y, .int .i64 z], encV s, .int .i64 b] = some true := by
  refine Flaw3_of _ _ _ _ _ _ _ _ _ ?_
  unfold tlaw3
  have hw : Fn env 5 (RSh.one CK.bool) [] = some true := awake_is
  rw [hw, bindO_val, cond_true]
  rcases z60 v s y z b with h | ⟨h, hv, hs, hp, hb⟩
  · rw [h, bindO_val, Sum.elim_inl]
  · obtain ⟨v1, v2, v3⟩ := vor_in hv
    obtain ⟨s1, s2, s3⟩ := set_in hs
    obtain ⟨p1, p2⟩ := poi_in hp
    have bD := (rad_in hv hs hp).2.1
    have c0 : Fn env 10 (RSh.tup [(Prod.mk true [(CK.int .i64), (CK.int .i64)]), (Prod.mk false [(CK.int .i64)])]) [.agg [.int .i64 v.1, .int .i64 v.2.1, .int .i64 v.2.2], .agg [.int .i64 s.1, .int .i64 s.2.1, .int .i64 s.2.2], .agg [.int .i64 y, .int .i64 z]] = _ := radO_is hv hs hp
    rw [h, bindO_val, Sum.elim_inr]
    dsimp only
    rw [c0, bindO_val]
    by_cases hl : ((lowF (radN v s y z) (radD v s y z)).1.natAbs : Int) > 1000000000
    · have e : radV v s y z = (0, 0, 8) := if_pos hl
      rw [e]
      rfl
    · have e : radV v s y z = ((lowF (radN v s y z) (radD v s y z)).1, (lowF (radN v s y z) (radD v s y z)).2, 0) := if_neg hl
      have hvo : vorV (v.1, v.2.1, -v.2.2) = 0 := vor_ok ⟨v1, v2, by simp only; omega⟩
      have e1 := rad_opp (v := v) (s := s) (y := y) (z := z) (v' := (v.1, v.2.1, -v.2.2)) (s' := s) (y' := y) (z' := z) (by
        unfold radN
        simp only [Int.neg_mul]) rfl hl
      have c1 : Fn env 10 (RSh.tup [(Prod.mk true [(CK.int .i64), (CK.int .i64)]), (Prod.mk false [(CK.int .i64)])]) [.agg [.int .i64 v.1, .int .i64 v.2.1, .int .i64 (-v.2.2)], .agg [.int .i64 s.1, .int .i64 s.2.1, .int .i64 s.2.2], .agg [.int .i64 y, .int .i64 z]] = some (radV (v.1, v.2.1, -v.2.2) s y z) := radO_is hvo hs hp
      have hpv : poiV v.1 v.2.1 = 0 := poi_ok ⟨v1, v2⟩
      have hps : poiV s.1 s.2.1 = 0 := poi_ok ⟨s1, s2⟩
      have e2 := rad_null (v := v) (s := s) (y := v.1) (z := v.2.1) (by
        unfold radN
        rw [Int.sub_self, Int.sub_self, Int.zero_mul, Int.zero_mul, Int.sub_self, Int.mul_zero]) (rad_in hv hs hpv).2.1.1
      have c2 : Fn env 10 (RSh.tup [(Prod.mk true [(CK.int .i64), (CK.int .i64)]), (Prod.mk false [(CK.int .i64)])]) [.agg [.int .i64 v.1, .int .i64 v.2.1, .int .i64 v.2.2], .agg [.int .i64 s.1, .int .i64 s.2.1, .int .i64 s.2.2], .agg [.int .i64 v.1, .int .i64 v.2.1]] = some (radV v s v.1 v.2.1) := radO_is hv hs hpv
      have e3 := rad_null (v := v) (s := s) (y := s.1) (z := s.2.1) (by
        unfold radN
        rw [Int.sub_self, Int.sub_self, Int.mul_zero, Int.mul_zero, Int.sub_self, Int.mul_zero]) (rad_in hv hs hps).2.1.1
      have c3 : Fn env 10 (RSh.tup [(Prod.mk true [(CK.int .i64), (CK.int .i64)]), (Prod.mk false [(CK.int .i64)])]) [.agg [.int .i64 v.1, .int .i64 v.2.1, .int .i64 v.2.2], .agg [.int .i64 s.1, .int .i64 s.2.1, .int .i64 s.2.2], .agg [.int .i64 s.1, .int .i64 s.2.1]] = some (radV v s s.1 s.2.1) := radO_is hv hs hps
      have hvm : vorV (-v.1, v.2.1, v.2.2) = 0 := vor_ok ⟨by simp only; omega, v2, v3⟩
      have hsm : setV (-s.1, s.2.1, s.2.2) = 0 := set_ok ⟨by simp only; omega, s2, s3⟩
      have hpm : poiV (-y) z = 0 := poi_ok ⟨by omega, p2⟩
      have e4 := rad_opp (v := v) (s := s) (y := y) (z := z) (v' := (-v.1, v.2.1, v.2.2)) (s' := (-s.1, s.2.1, s.2.2)) (y' := -y) (z' := z) (by
        unfold radN
        simp only
        have q : -(y - v.1) * (z - s.2.1) - (z - v.2.1) * -(y - s.1) = -((y - v.1) * (z - s.2.1) - (z - v.2.1) * (y - s.1)) := by
          rw [Int.neg_mul, Int.mul_neg]
          omega
        rw [show -y - -v.1 = -(y - v.1) by omega, show -y - -s.1 = -(y - s.1) by omega, q, Int.mul_neg]) (by
        unfold radD
        simp only
        rw [show -y - -v.1 = -(y - v.1) by omega, Int.neg_mul_neg]) hl
      have c4 : Fn env 10 (RSh.tup [(Prod.mk true [(CK.int .i64), (CK.int .i64)]), (Prod.mk false [(CK.int .i64)])]) [.agg [.int .i64 (-v.1), .int .i64 v.2.1, .int .i64 v.2.2], .agg [.int .i64 (-s.1), .int .i64 s.2.1, .int .i64 s.2.2], .agg [.int .i64 (-y), .int .i64 z]] = some (radV (-v.1, v.2.1, v.2.2) (-s.1, s.2.1, s.2.2) (-y) z) := radO_is hvm hsm hpm
      have bl := tdiv_le (radN v s y z) (Int.gcd (radN v s y z) (radD v s y z))
      generalize hn : (lowF (radN v s y z) (radD v s y z)).1 = n at *
      generalize hd : (lowF (radN v s y z) (radD v s y z)).2 = d at *
      have w0 : Fn env 11 (RSh.agg [(CK.int .i64), (CK.int .i64)]) [.int .i64 0] = some (0, 1) := Fwhol_of _ rfl
      have l34 : Llaw3_1000034 (Tlaw3_1000034a b 0 0 0 v.1 v.2.1 v.2.2 y z s.1 s.2.1 s.2.2 n d (-n) d 0 1 0 1) = some (Sum.inr (b, v.1, v.2.1, v.2.2, y, z, s.1, s.2.1, s.2.2, n, d)) := Llaw3_1000034b_of (Rlaw3_1000034a_of _ _ _ _ _ _ _ _ _ _ _ _ _ _ _ _ _ _ _ _ (by
        unfold Blaw3_1000034a
        rw [bif_ne, if_pos rfl, bif_ne, if_pos rfl, bif_ne, if_pos (by rw [w64_in (by omega)]; omega), bif_ne, if_pos rfl, w0, bindO_val]
        rw [show (!(((0 : Int) == 0) && (((1 : Int) == 1) && true))) = false from rfl, cond_false, bif_ne, if_pos rfl, bindO_val]
        rw [show (!(((0 : Int) == 0) && (((1 : Int) == 1) && true))) = false from rfl, cond_false]
        rfl))
      have l21 : Llaw3_1000021 (Tlaw3_1000021a b 0 v.1 v.2.1 v.2.2 y z s.1 s.2.1 s.2.2 n d (-n) d) = some (Sum.inr (b, v.1, v.2.1, v.2.2, y, z, s.1, s.2.1, s.2.2, n, d)) := Llaw3_1000021b_of (Rlaw3_1000021a_of _ _ _ _ _ _ _ _ _ _ _ _ _ _ (by
        unfold Blaw3_1000021a
        rw [bif_ne, if_pos rfl, bif_ne, if_pos rfl, bif_ne, if_pos (by rw [w64_in (by omega)]; omega)]
        rfl))
      rw [e]
      dsimp only
      rw [bif_ne, if_pos rfl, show w64 ((0 : Int) - v.2.2) = -v.2.2 by rw [w64_in (by omega)]; omega, c1, e1, bindO_val, c2, e2, bindO_val, c3, e3, bindO_val]
      dsimp only
      rw [l34, bindO_val, Sum.elim_inr]
      dsimp only
      rw [show w64 ((0 : Int) - v.1) = -v.1 by rw [w64_in (by omega)]; omega, show w64 ((0 : Int) - s.1) = -s.1 by rw [w64_in (by omega)]; omega, show w64 ((0 : Int) - y) = -y by rw [w64_in (by omega)]; omega, c4, e4, bindO_val]
      dsimp only
      rw [l21, bindO_val, Sum.elim_inr]
      dsimp only
      rw [w64_in (n := v.1 + b) (by omega), w64_in (n := s.1 + b) (by omega), w64_in (n := y + b) (by omega)]
      rcases z10 n d (v.1 + b, v.2.1, v.2.2) (s.1 + b, s.2.1, s.2.2) (y + b) z with h | ⟨h, mv, ms, mp⟩
      · simp only at h
        rw [h, bindO_val, Sum.elim_inl]
      · simp only at h
        have e5 : radV (v.1 + b, v.2.1, v.2.2) (s.1 + b, s.2.1, s.2.2) (y + b) z = (n, d, 0) := by
          rw [← e]
          have q1 : radN (v.1 + b, v.2.1, v.2.2) (s.1 + b, s.2.1, s.2.2) (y + b) z = radN v s y z := by
            unfold radN
            simp only
            rw [show y + b - (v.1 + b) = y - v.1 by omega, show y + b - (s.1 + b) = y - s.1 by omega]
          have q2 : radD (v.1 + b, v.2.1, v.2.2) (s.1 + b, s.2.1, s.2.2) (y + b) z = radD v s y z := by
            unfold radD
            simp only
            rw [show y + b - (v.1 + b) = y - v.1 by omega]
          unfold radV
          rw [q1, q2]
        have c5 : Fn env 10 (RSh.tup [(Prod.mk true [(CK.int .i64), (CK.int .i64)]), (Prod.mk false [(CK.int .i64)])]) [.agg [.int .i64 (v.1 + b), .int .i64 v.2.1, .int .i64 v.2.2], .agg [.int .i64 (s.1 + b), .int .i64 s.2.1, .int .i64 s.2.2], .agg [.int .i64 (y + b), .int .i64 z]] = some (radV (v.1 + b, v.2.1, v.2.2) (s.1 + b, s.2.1, s.2.2) (y + b) z) := radO_is mv ms mp
        rw [h, bindO_val, Sum.elim_inr]
        dsimp only
        rw [c5, e5, bindO_val]
        simp
end Gv
