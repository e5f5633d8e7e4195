/- The quality of a line; the law of detections. -/
import Derived.Test.YtlpecmcejjgmfaaMS5
import Derived.Test.YtlpecmcejjgmfaaM7
namespace Gv
open Go
set_option maxRecDepth 100000

def quN (l : List Int) (at_ : Int) : Int := l.getD at_.toNat 0 * ((l.length : Int) - 1)
def quD (l : List Int) (at_ : Int) : Int := sumL l - l.getD at_.toNat 0
def quE (l : List Int) (at_ : Int) : Int := both (spE l) (if at_ < 0 ∨ (l.length : Int) ≤ at_ then 6 else 0)
def quR (l : List Int) (at_ : Int) : Int × (Int × Int) :=
  if quE l at_ ≠ 0 then (0, (0, quE l at_)) else if quD l at_ = 0 then (0, (0, 11)) else zz (lowF (quN l at_) (quD l at_)) 0

theorem qu_bd {l : List Int} (h : Sp l) (at_ : Int) (h1 : 0 ≤ at_) (h2 : at_ < l.length) : 0 ≤ l.getD at_.toNat 0 ∧ l.getD at_.toNat 0 ≤ 10000 ∧ 0 ≤ quN l at_ ∧ quN l at_ ≤ 160000 ∧ 0 ≤ quD l at_ ∧ quD l at_ ≤ 160000 := by
  have a := h.sm.getD (by omega) at_.toNat
  have b := pw_ge (by omega) h.sm l.length 0 at_.toNat (by omega) (by omega)
  have c := sum_bd h
  have hl := h.len
  have d1 : 0 ≤ l.getD at_.toNat 0 * ((l.length : Int) - 1) := Int.mul_nonneg a.1 (by omega)
  have d2 : l.getD at_.toNat 0 * ((l.length : Int) - 1) ≤ 10000 * 16 := Int.mul_le_mul a.2 (by omega) (by omega) (by omega)
  unfold quN quD
  unfold sumL at *
  omega

theorem quality_is (l : List Int) (at_ : Int) (hl : l.length < 4294967296) : Fline_QualityOf [.list l.length (encI l), .int .i64 at_] = some (quR l at_) := by
  refine Fline_QualityOf_of _ _ _ ?_
  unfold tline_QualityOf quR
  simp only [spError_is l hl, lnFirst2_is, bindO_val]
  by_cases he : spE l = 0
  · have sp := sp_ok he
    have hlen := sp.len
    by_cases h1 : at_ < 0
    · have e : quE l at_ = 6 := by unfold quE; rw [both_zero he, if_pos (.inl h1)]
      rw [bif_pos h1]
      simp only [e, both_zero he, bif_ne, show ¬ (6 : Int) = 0 from by omega, ne_eq, not_false_eq_true, if_true, if_false]
    · rw [bif_neg h1]
      by_cases h2 : (l.length : Int) ≤ at_
      · have e : quE l at_ = 6 := by unfold quE; rw [both_zero he, if_pos (.inr h2)]
        rw [bif_pos h2]
        simp only [e, both_zero he, bif_ne, show ¬ (6 : Int) = 0 from by omega, ne_eq, not_false_eq_true, if_true, if_false]
      · have e : quE l at_ = 0 := by unfold quE; rw [both_zero he, if_neg (by omega)]
        obtain ⟨b1, b2, b3, b4, b5, b6⟩ := qu_bd sp at_ (by omega) (by omega)
        have c := sum_bd sp
        have q1 : decide ((0 : Int) ≤ at_ ∧ at_ < (l.length : Int)) = true := decide_eq_true (by omega)
        rw [bif_neg (by omega)]
        simp only [e, both_zero he, bif_ne, ne_eq, not_true_eq_false, if_true, if_false, sumsAll_is l (by omega) sp.sm, bindO_val, q1, cond_true, Nat.mul_one, encI_get, get_getD 0 (show at_.toNat < l.length by omega), Option.map_some, intC_int, bif_eq]
        rw [w64_in (n := sumL l - l.getD at_.toNat 0) (by omega), w64_in (n := (l.length : Int) - 1) (by omega), w64_in (n := l.getD at_.toNat 0 * ((l.length : Int) - 1)) (by unfold quN at b3 b4; omega)]
        rw [show sumL l - l.getD at_.toNat 0 = quD l at_ from rfl, show l.getD at_.toNat 0 * ((l.length : Int) - 1) = quN l at_ from rfl]
        by_cases hz : quD l at_ = 0
        · simp only [hz, if_true]
        · simp only [hz, if_false, lowest_is (n := quN l at_) (d := quD l at_) (by unfold Bd; omega) (by unfold Bd; omega) (by omega), bindO_val]
          rfl
  · have e : quE l at_ = spE l := both_not he
    have e6 : ∀ x, both (spE l) x = spE l := fun x => both_not he
    simp only [e, e6, bif_ne, he, ne_eq, not_false_eq_true, if_true, if_false]
    by_cases h1 : at_ < 0
    · rw [bif_pos h1]
    · rw [bif_neg h1]
      by_cases h2 : at_ ≥ l.length
      · rw [bif_pos h2]
      · rw [bif_neg h2]

theorem refQu_is {l : List Int} (sp : Sp l) (at_ : Int) (h1 : 0 ≤ at_) (h2 : at_ < l.length) : Fglidepathref02_Quality [.list l.length (encI l), .int .i64 at_] = some (if quD l at_ = 0 then (0, (0, false)) else ((lowF (quN l at_) (quD l at_)).1, ((lowF (quN l at_) (quD l at_)).2, true))) := by
  refine Fglidepathref02_Quality_of _ _ _ ?_
  unfold tglidepathref02_Quality
  have hlen := sp.len
  obtain ⟨b1, b2, b3, b4, b5, b6⟩ := qu_bd sp at_ h1 h2
  have c := sum_bd sp
  have q1 : decide ((0 : Int) ≤ at_ ∧ at_ < (l.length : Int)) = true := decide_eq_true (by omega)
  simp only [refSum_is l (by omega) sp.sm, bindO_val, q1, cond_true, Nat.mul_one, encI_get, get_getD 0 (show at_.toNat < l.length by omega), Option.map_some, intC_int, bif_eq]
  rw [w64_in (n := sumL l - l.getD at_.toNat 0) (by omega), w64_in (n := (l.length : Int) - 1) (by omega), w64_in (n := l.getD at_.toNat 0 * ((l.length : Int) - 1)) (by unfold quN at b3 b4; omega)]
  rw [show sumL l - l.getD at_.toNat 0 = quD l at_ from rfl, show l.getD at_.toNat 0 * ((l.length : Int) - 1) = quN l at_ from rfl]
  by_cases hz : quD l at_ = 0
  · simp only [hz, if_true]
  · simp only [hz, if_false, refLowest_is (n := quN l at_) (d := quD l at_) (by unfold Bd; omega) (by unfold Bd; omega) (by omega), bindO_val]

theorem ds19 (l : List Int) (t a at_ : Int) (e1 : spE l = 0) (r : Int × (Int × Int)) :
    Rglidepathlaw02_LineDetections_1000019 (Tglidepathlaw02_LineDetections_1000019a l.length (encI l) at_ (detR l t a).1.1 (detR l t a).1.2 (detR l t a).2 r.2.2 t a r.1 r.2.1) =
    exO (Xglidepathlaw02_LineDetections_1000019b (l.length, encI l, at_, r.2.2, r.1, r.2.1)) := by
  have sp := sp_ok e1
  have hl := sp.len
  refine Rglidepathlaw02_LineDetections_1000019a_of _ _ _ _ _ _ _ _ _ _ _ ?_
  unfold Bglidepathlaw02_LineDetections_1000019a
  have ed : detE l t a = ruleE t a := by rw [detE_both, both_zero e1]
  simp only [refRule_is, bindO_val, bif_ne, bif_eq]
  unfold detR
  rw [ed]
  by_cases he : ruleE t a = 0
  · obtain ⟨_, e2⟩ := both_nil he
    have ha := rangeE_ok e2
    have hlen : (detL l t a).length ≤ l.length := colI_len _ _ _
    simp only [he, ne_eq, not_true_eq_false, if_true, if_false, refDet_is l (by omega) t a ha.1, bindO_val, lints_refl (detL l t a) (by omega), cond_true]
    rfl
  · simp only [he, ne_eq, not_false_eq_true, if_true, if_false]
    rw [show ((0 : Nat) : Int) = 0 from rfl, if_pos rfl]
    rfl

theorem detectionsLaw (l : List Int) (t a at_ : Int) : Fglidepathlaw02_LineDetections [.list l.length (encI l), .agg [.int .i64 t, .int .i64 a], .int .i64 at_] = some true := by
  refine Fglidepathlaw02_LineDetections_of _ _ _ _ _ ?_
  unfold tglidepathlaw02_LineDetections
  simp only [awakeL_is, bindO_val, cond_true, short_is, bif_dec]
  by_cases hl : l.length ≤ 20
  · simp only [hl, if_true, lcopyI_is l (by omega), bindO_val, detections_is l t a (by omega), quality_is l at_ (by omega), refSpErr_is l, bif_ne]
    by_cases he : spE l = 0
    · have q := Lglidepathlaw02_LineDetections_1000019b_of (ds19 l t a at_ he (quR l at_))
      have sp := sp_ok he
      have hlen := sp.len
      simp only [he, if_true, q, bindO_val, Sum.elim_inr, within_is]
      rw [w64_in (n := (l.length : Int) - 1) (by omega)]
      unfold quR
      by_cases hk : rangeE at_ 0 ((l.length : Int) - 1) = 0
      · obtain ⟨k1, k2⟩ := rangeE_ok hk
        have ee : quE l at_ = 0 := by unfold quE; rw [both_zero he, if_neg (by omega)]
        simp only [hk, decide_true, cond_true, ee, ne_eq, not_true_eq_false, if_false, refQu_is sp at_ k1 (by omega), bindO_val]
        by_cases hz : quD l at_ = 0
        · simp only [hz, if_true, cond_false, bif_eq, eq00, cond_true]
        · simp only [hz, if_false, cond_true, zz, bif_eq, if_true, eq2]
      · have ee : quE l at_ = 6 := by
          unfold quE
          rw [both_zero he, if_pos]
          by_cases h1 : at_ < 0
          · exact .inl h1
          · right
            by_cases h2 : (l.length : Int) ≤ at_
            · exact h2
            · exact absurd (rangeE_in ⟨by omega, by omega⟩) hk
        simp only [hk, decide_false, cond_false, ee, ne_eq, show ¬ (6 : Int) = 0 from by omega, not_false_eq_true, if_true, bif_eq, eq00, cond_true]
    · have c1 : detE l t a = spE l := by rw [detE_both]; exact both_not he
      have c2 : quE l at_ = spE l := both_not he
      unfold detR quR
      simp only [c1, c2, he, ne_eq, not_false_eq_true, if_true, if_false, bif_eq, eq00, cond_true]
      rfl
  · simp only [hl, if_false]
end Gv
