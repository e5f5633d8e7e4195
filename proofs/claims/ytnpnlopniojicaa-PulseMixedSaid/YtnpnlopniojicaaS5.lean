/- PulseMixed: true on all blocks. -/
import Derived.Test.YtnpnlopniojicaaS4
namespace Gv
open Go
set_option maxRecDepth 100000

theorem lin_mix (q k k' : Int) (l : List ZZ) (h : (k + q) % 4 = k' % 4) : lineX k (mixFrom q l 0) 0 = lineX k' l 0 := by
  rw [lineX_mix, lineX_mod h]

theorem mixed (l : List ZZ) (q lag : Int) : Fglidepathlaw01_PulseMixed [.list l.length (encG l), .int .i64 q, .int .i64 lag] = some true := by
  refine Fglidepathlaw01_PulseMixed_of _ _ _ _ ?_
  unfold tglidepathlaw01_PulseMixed
  · simp only [awake_is, bindO_val, cond_true, refBlockErr_is l, bif_ne, within_is]
    by_cases hb : blockE l = 0
    · obtain ⟨k1, k2, k3⟩ := block_ok hb
      by_cases hq : 0 ≤ q ∧ q ≤ 3
      · by_cases hg : 0 ≤ lag ∧ lag ≤ 48
        · have hm := mixFrom_len q l 0
          have hms := mix_mem (q := q) k3
          have hbm : blockE (mixFrom q l 0) = 0 := block_zero (by omega) (by omega) hms
          have c1 := copyG_is l (by omega)
          have c2 := copyG_is (mixFrom q l 0) (by omega)
          have b2 := refBlockErr_is (mixFrom q l 0)
          have m1 := mixed_is q l (by omega)
          have m2 := mixed_is ((4 - q) % 4) (mixFrom q l 0) (by omega)
          have l1 := LinesOf_is l hb
          have l2 := LinesOf_is (mixFrom q l 0) hbm
          have g1 := corrOf_is l lag (by omega)
          have g2 := corrOf_is (mixFrom q l 0) lag (by omega)
          have gs := gausses_same l (by omega)
          have e1 := rangeE_in hq
          have e2 := rangeE_in hg
          have e3 : rangeE ((4 - q) % 4) 0 3 = 0 := rangeE_in (by omega)
          have ew : Int.tmod (w64 ((4 : Int) - q)) 4 = (4 - q) % 4 := by rw [w64_in (by omega), Int.tmod_eq_emod_of_nonneg (by omega)]
          obtain ⟨g, rfl⟩ : ∃ g : Nat, lag = g := ⟨lag.toNat, by omega⟩
          simp only [hb, hbm, both_zero, e1, e2, e3, ne_eq, not_true_eq_false, if_false, Int.toNat_natCast] at m1 m2 g1 g2
          rw [mix_back q hq l 0] at m2
          rw [hm] at c2 b2 m2 l2 g2
          have hz := zip_mem (lag := g) k3
          have hzl := zip_len l g
          have s1 := sumC_eq (l.zip (l.drop g)) (0, 0) 0 hz (by simp [Small]) (by omega)
          have s2 := sumC_eq ((mixFrom q l 0).zip ((mixFrom q l 0).drop g)) (0, 0) 0 (zip_mem hms) (by simp [Small]) (by have := zip_len (mixFrom q l 0) g; omega)
          have ht : sumX ((mixFrom q l 0).zip ((mixFrom q l 0).drop g)) = trn (sumX (l.zip (l.drop g))) (g * q) := by
            rw [zip_mix]
            exact sumX_turn q g _ 0
          simp only [eadd, Int.zero_add] at s1 s2
          rw [ht] at s2
          rw [s1] at g1
          rw [s2] at g2
          have hsm := sumX_small _ hz
          have hgq : 0 ≤ (g : Int) * q ∧ (g : Int) * q ≤ 3000 := by
            refine ⟨Int.mul_nonneg (by omega) hq.1, ?_⟩
            have h1 : (g : Int) * q ≤ g * 3 := Int.mul_le_mul_of_nonneg_left hq.2 (by omega)
            omega
          have rt : Fglidepathref01_Turned [.agg [.int .i64 (sumX (l.zip (l.drop g))).1, .int .i64 (sumX (l.zip (l.drop g))).2], .int .i64 (w64 (g * q))] = some (trn (sumX (l.zip (l.drop g))) (g * q)) := by
            rw [w64_in (by omega)]
            exact refTurned_is _ _ (by omega) (hsm.mono (by omega))
          simp only [hb, hq, hg, and_self, decide_true, cond_true, if_true, c1, m1, b2, hbm, c2, ew, m2, l1, l2, g1, g2, gs, rt, bindO_val]
          have hq4 : q = 0 ∨ q = 1 ∨ q = 2 ∨ q = 3 := by omega
          rcases hq4 with rfl | rfl | rfl | rfl
          · have p0 := lin_mix 0 0 0 l (by omega)
            have p1 := lin_mix 0 1 1 l (by omega)
            have p2 := lin_mix 0 2 2 l (by omega)
            have p3 := lin_mix 0 3 3 l (by omega)
            simp [p0, p1, p2, p3, w64_in]
          · have p0 := lin_mix 1 0 1 l (by omega)
            have p1 := lin_mix 1 1 2 l (by omega)
            have p2 := lin_mix 1 2 3 l (by omega)
            have p3 := lin_mix 1 3 0 l (by omega)
            simp [p0, p1, p2, p3, w64_in]
          · have p0 := lin_mix 2 0 2 l (by omega)
            have p1 := lin_mix 2 1 3 l (by omega)
            have p2 := lin_mix 2 2 0 l (by omega)
            have p3 := lin_mix 2 3 1 l (by omega)
            simp [p0, p1, p2, p3, w64_in]
          · have p0 := lin_mix 3 0 3 l (by omega)
            have p1 := lin_mix 3 1 0 l (by omega)
            have p2 := lin_mix 3 2 1 l (by omega)
            have p3 := lin_mix 3 3 2 l (by omega)
            simp [p0, p1, p2, p3, w64_in]
        · simp [hb, hq, hg]
      · simp [hb, hq]
    · simp [hb]
end Gv
