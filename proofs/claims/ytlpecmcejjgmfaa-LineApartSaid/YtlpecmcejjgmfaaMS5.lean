/- Detections and the quality of a line: the program's and the specification's. -/
import Derived.Test.YtlpecmcejjgmfaaMS4
import Derived.Test.YtlpecmcejjgmfaaM3
namespace Gv
open Go
set_option maxRecDepth 100000

/-- A question that all of so many indexes, from one on, answer. -/
def allN (p : Nat → Bool) : Nat → Nat → Bool
  | 0, _ => true
  | n + 1, i => p i && allN p n (i + 1)
theorem allN_iff {p : Nat → Bool} : ∀ {n i : Nat}, allN p n i = true ↔ ∀ j, i ≤ j → j < i + n → p j = true
  | 0, i => by simp [allN]; intro j h1 h2; omega
  | n + 1, i => by
    rw [allN, Bool.and_eq_true, allN_iff]
    constructor
    · rintro ⟨h1, h2⟩ j h3 h4
      by_cases h : j = i
      · subst h; exact h1
      · exact h2 j (by omega) (by omega)
    · intro h
      exact ⟨h i (by omega) (by omega), fun j h1 h2 => h j (by omega) (by omega)⟩

/-- A line near another one leaves it a detection. -/
def okAt (l : List Int) (i j : Nat) : Bool := !(decide (l.getD j 0 > l.getD i 0) || (decide (j < i) && decide (l.getD j 0 = l.getD i 0)))
def dtB (l : List Int) (t a : Int) (i : Nat) : Bool := decide (t ≤ l.getD i 0) && allN (okAt l i) (nN l i a) (nLo i a)

theorem det_loop (l : List Int) (t a : Int) (i lo N : Nat) (hi : i < l.length) (hl : l.length ≤ 1000) (hN : N ≤ 1000) : ∀ j, j ≤ N →
    Rline_isDetected_3000042 (Tline_isDetected_3000042a N (encG (rowL l lo N)) (j : Int) l.length (encI l) (i : Int) t a) =
      if allN (okAt l i) (N - j) (lo + j) = true then exO (Xline_isDetected_3000042b (l.length, encI l, (i : Int), t, a)) else exO (Xline_isDetected_3000042a ()) := by
  refine up_ind _ ?_ ?_
  · rw [Nat.sub_self]
    simp only [allN, if_true]
    refine Rline_isDetected_3000042a_of _ _ _ _ _ _ _ _ ?_
    unfold Bline_isDetected_3000042a
    rw [bif_neg (by omega)]
    rfl
  · intro j hj ih
    have q1 : decide ((0 : Int) ≤ ((i : Nat) : Int) ∧ ((i : Nat) : Int) < (l.length : Int)) = true := decide_eq_true (by omega)
    have step : ∀ r, (if okAt l i (lo + j) = true then Rline_isDetected_3000042 (Tline_isDetected_3000042a N (encG (rowL l lo N)) ((j + 1 : Nat) : Int) l.length (encI l) (i : Int) t a) else exO (Xline_isDetected_3000042a ())) = some r →
        Rline_isDetected_3000042 (Tline_isDetected_3000042a N (encG (rowL l lo N)) (j : Int) l.length (encI l) (i : Int) t a) = some r := by
      intro r hr
      refine Rline_isDetected_3000042a_of _ _ _ _ _ _ _ _ ?_
      unfold Bline_isDetected_3000042a
      rw [bif_pos (by omega), bif_pos (by omega)]
      simp only [q1, cond_true, Int.toNat_natCast, Nat.mul_one, Nat.add_zero, encG_0, encG_1, rowL_get l lo hj, encI_get, get_getD 0 hi, Option.map_some, intC_int, bindO_val]
      rw [w64_in (n := (j : Int) + 1) (by omega)]
      unfold okAt at hr
      by_cases h1 : l.getD (lo + j) 0 > l.getD i 0
      · rw [bif_pos h1]
        simp only [h1, decide_true, Bool.true_or, Bool.not_true, Bool.false_eq_true, if_false] at hr
        exact hr
      · rw [bif_neg h1]
        by_cases h2 : lo + j < i
        · rw [bif_pos (by omega), bif_eq]
          by_cases h3 : l.getD (lo + j) 0 = l.getD i 0
          · simp only [h1, h2, h3, decide_true, Bool.true_and, Bool.or_true, Bool.not_true, Bool.false_eq_true, if_false, if_true] at hr ⊢
            exact hr
          · simp only [h1, h2, h3, decide_false, Bool.and_false, Bool.or_false, Bool.not_false, if_true, if_false] at hr ⊢
            exact hr
        · rw [bif_neg (by omega)]
          simp only [h1, h2, decide_false, Bool.false_and, Bool.or_false, Bool.not_false, if_true] at hr
          exact hr
    obtain ⟨r, hr⟩ : ∃ r, (if allN (okAt l i) (N - j) (lo + j) = true then exO (Xline_isDetected_3000042b (l.length, encI l, (i : Int), t, a)) else exO (Xline_isDetected_3000042a ())) = some r := by
      split <;> exact ⟨_, rfl⟩
    rw [hr]
    refine step _ ?_
    rw [show N - j = (N - (j + 1)) + 1 by omega, allN] at hr
    rw [show lo + (j + 1) = lo + j + 1 by omega] at ih
    by_cases h : okAt l i (lo + j) = true
    · rw [h, Bool.true_and] at hr
      rw [if_pos h, ih]
      exact hr
    · rw [show okAt l i (lo + j) = false by simpa using h] at hr ⊢
      simp only [Bool.false_and, Bool.false_eq_true, if_false] at hr ⊢
      exact hr

theorem isDetected_is (l : List Int) (t a : Int) (i : Nat) (hi : i < l.length) (hl : l.length ≤ 1000) (ha : 0 ≤ a ∧ a ≤ 1000) :
    Fline_isDetected [.list l.length (encI l), .int .i64 i, .agg [.int .i64 t, .int .i64 a]] = some (dtB l t a i) := by
  refine Fline_isDetected_of _ _ _ _ _ ?_
  unfold tline_isDetected dtB
  rw [bif_pos (by omega)]
  simp only [Int.toNat_natCast, Nat.mul_one, encI_get, get_getD 0 hi, Option.map_some, intC_int, bindO_val]
  by_cases ht : l.getD i 0 < t
  · rw [bif_pos ht, decide_eq_false (by omega), Bool.false_and]
  · rw [bif_neg ht, decide_eq_true (by omega), Bool.true_and]
    simp only [nearIt_is l i a (by omega) ha hl, bindO_val]
    have h := det_loop l t a i (nLo i a) (nN l i a) hi hl (by simp only [nN]; omega) 0 (by omega)
    rw [Nat.sub_zero, Nat.add_zero, show ((0 : Nat) : Int) = 0 from rfl] at h
    by_cases hq : allN (okAt l i) (nN l i a) (nLo i a) = true
    · rw [if_pos hq] at h
      rw [Lline_isDetected_3000042b_of h, hq]
      rfl
    · rw [if_neg hq] at h
      rw [Lline_isDetected_3000042a_of h, show allN (okAt l i) (nN l i a) (nLo i a) = false by simpa using hq]
      rfl

theorem det1_is (l : List Int) (t a : Int) (i : Nat) (hi : i < l.length) (hl : l.length ≤ 1000) (ha : 0 ≤ a ∧ a ≤ 1000) :
    Fline_DetectionsIn_1 [.int .i64 i, .imm [.list l.length (encI l)] 0, .imm [.int .i64 t, .int .i64 a] 0] = some (dtB l t a i) := by
  refine Fline_DetectionsIn_1_of _ _ _ _ _ ?_
  unfold tline_DetectionsIn_1
  simp only [isDetected_is l t a i hi hl ha, bindO_val]
  cases dtB l t a i <;> rfl

def tIW (l : List Int) (t a : Int) (acc : List Int) (i : Int) : Q :=
  if acc = [] then Tline_indexesWith_det_0a l.length (encI l) t a l.length i
  else Tline_indexesWith_det_0b l.length (encI l) t a acc.length (encI acc) l.length i acc.length
def xIW (acc : List Int) : Ext × Q :=
  if acc = [] then Xline_indexesWith_det_0a ()
  else Xline_indexesWith_det_0b (acc.length, encI acc, acc.length)

theorem iw_loop (l : List Int) (t a : Int) (hl : l.length ≤ 1000) (ha : 0 ≤ a ∧ a ≤ 1000) : ∀ i, i ≤ l.length → ∀ acc : List Int, acc.length ≤ i →
    Rline_indexesWith_det_0 (tIW l t a acc i) = exO (xIW (acc ++ colI (dtB l t a) (l.length - i) i)) := by
  refine up_ind _ ?_ ?_
  · intro acc _
    rw [Nat.sub_self]
    unfold colI tIW xIW
    rw [List.append_nil]
    by_cases hn : acc = []
    · rw [if_pos hn, if_pos hn]
      refine Rline_indexesWith_det_0a_of _ _ _ _ _ _ ?_
      unfold Bline_indexesWith_det_0a
      rw [bif_neg (by omega)]
      rfl
    · rw [if_neg hn, if_neg hn]
      refine Rline_indexesWith_det_0b_of _ _ _ _ _ _ _ _ _ ?_
      unfold Bline_indexesWith_det_0b
      rw [bif_neg (by omega)]
      rfl
  · intro i hi ih acc hac
    have step : ∀ r, Rline_indexesWith_det_0 (tIW l t a (if dtB l t a i then acc ++ [(i : Int)] else acc) (i + 1 : Nat)) = some r → Rline_indexesWith_det_0 (tIW l t a acc i) = some r := by
      intro r hr
      unfold tIW at hr ⊢
      by_cases hn : acc = []
      · rw [if_pos hn]
        refine Rline_indexesWith_det_0a_of _ _ _ _ _ _ ?_
        unfold Bline_indexesWith_det_0a
        rw [bif_pos (by omega)]
        simp only [det1_is l t a i hi hl ha, bindO_val]
        rw [w64_in (by omega)]
        cases hb : dtB l t a i with
        | true =>
          rw [hb, if_pos rfl, if_neg (by simp)] at hr
          subst hn
          exact hr
        | false =>
          rw [hb] at hr
          simp only [Bool.false_eq_true, if_false] at hr
          rw [if_pos hn] at hr
          exact hr
      · rw [if_neg hn]
        refine Rline_indexesWith_det_0b_of _ _ _ _ _ _ _ _ _ ?_
        unfold Bline_indexesWith_det_0b
        rw [bif_pos (by omega)]
        simp only [det1_is l t a i hi hl ha, bindO_val]
        rw [w64_in (by omega)]
        cases hb : dtB l t a i with
        | true =>
          rw [hb, if_pos rfl, if_neg (by simp), List.length_append] at hr
          rw [cond_true, bif_pos ⟨trivial, by simp only [big]; omega⟩, encI_snoc]
          exact hr
        | false =>
          rw [hb] at hr
          simp only [Bool.false_eq_true, if_false] at hr
          rw [if_neg hn] at hr
          exact hr
    obtain ⟨k, hk⟩ : ∃ k, l.length - i = k + 1 := ⟨l.length - i - 1, by omega⟩
    have hk2 : l.length - (i + 1) = k := by omega
    rw [hk2] at ih
    rw [hk]
    unfold colI
    cases hb : dtB l t a i with
    | true =>
      rw [hb, if_pos rfl] at step
      rw [if_pos rfl]
      have := ih (acc ++ [(i : Int)]) (by simp; omega)
      rw [List.append_assoc] at this
      exact step _ this
    | false =>
      rw [hb, if_neg (by simp)] at step
      rw [if_neg (by simp)]
      exact step _ (ih acc (by omega))

def detL (l : List Int) (t a : Int) : List Int := colI (dtB l t a) l.length 0
theorem iw_is (l : List Int) (t a : Int) (hl : l.length ≤ 1000) (ha : 0 ≤ a ∧ a ≤ 1000) : Fline_indexesWith_det [.int .i64 l.length, .fn 59 [.imm [.list l.length (encI l)] 0, .imm [.int .i64 t, .int .i64 a] 0]] = some ((detL l t a).length, encI (detL l t a)) := by
  refine Fline_indexesWith_det_of _ _ _ _ _ ?_
  unfold tline_indexesWith_det
  have h := iw_loop l t a hl ha 0 (by omega) [] (by simp)
  rw [Nat.sub_zero, List.nil_append] at h
  have h : Rline_indexesWith_det_0 (Tline_indexesWith_det_0a l.length (encI l) t a l.length 0) = exO (xIW (detL l t a)) := h
  by_cases hc : detL l t a = []
  · rw [show xIW (detL l t a) = Xline_indexesWith_det_0a () from if_pos hc] at h
    rw [Lline_indexesWith_det_0a_of h, hc]
    rfl
  · rw [show xIW (detL l t a) = _ from if_neg hc] at h
    rw [Lline_indexesWith_det_0b_of h]
    simp only [bindO_val, Sum.elim_inr, decide_true, cond_true]

theorem threshold_is (t : Int) : Fline_thresholdError [.int .i64 t] = some (rangeE t 0 11000) := by
  refine Fline_thresholdError_of _ ?_
  unfold tline_thresholdError
  simp only [lnRangeError_is, bindO_val]
theorem refThreshold_is (t : Int) : Fglidepathref02_ThresholdErr [.int .i64 t] = some (rangeE t 0 11000) := by
  refine Fglidepathref02_ThresholdErr_of _ ?_
  unfold tglidepathref02_ThresholdErr
  simp only [within_is, bindO_val, bif_dec]
  by_cases h : rangeE t 0 11000 = 0
  · rw [if_pos h, h]
  · rw [if_neg h, rangeE_out fun q => h (rangeE_in q)]

def ruleE (t a : Int) : Int := both (rangeE t 0 11000) (rangeE a 0 16)
theorem refRule_is (t a : Int) : Fglidepathref02_RuleErr [.agg [.int .i64 t, .int .i64 a]] = some (ruleE t a) := by
  refine Fglidepathref02_RuleErr_of _ _ ?_
  unfold tglidepathref02_RuleErr ruleE both
  simp only [refThreshold_is, within_is, bindO_val, bif_dec, bif_ne]
  by_cases h : rangeE t 0 11000 = 0
  · simp only [h, if_true, ne_eq, not_true_eq_false, if_false]
    by_cases h2 : rangeE a 0 16 = 0
    · rw [if_pos h2, h2]
    · rw [if_neg h2, rangeE_out fun q => h2 (rangeE_in q)]
  · simp only [h, if_false, ne_eq, not_false_eq_true, if_true]

def detE (l : List Int) (t a : Int) : Int := first3 (spE l) (rangeE t 0 11000) (rangeE a 0 16)
def detR (l : List Int) (t a : Int) : (Nat × List PV) × Int := if detE l t a ≠ 0 then ((0, []), detE l t a) else (((detL l t a).length, encI (detL l t a)), 0)
theorem detE_both (l : List Int) (t a : Int) : detE l t a = both (spE l) (ruleE t a) := by
  unfold detE first3 ruleE both
  rfl
theorem detections_is (l : List Int) (t a : Int) (hl : l.length < 4294967296) : Fline_DetectionsIn [.list l.length (encI l), .agg [.int .i64 t, .int .i64 a]] = some (detR l t a) := by
  refine Fline_DetectionsIn_of _ _ _ _ ?_
  unfold tline_DetectionsIn detR
  simp only [spError_is l hl, threshold_is, lnRangeError_is, lnFirst3_is, bindO_val, bif_ne]
  rw [show first3 (spE l) (rangeE t 0 11000) (rangeE a 0 16) = detE l t a from rfl]
  by_cases he : detE l t a = 0
  · obtain ⟨e1, e2, e3⟩ := first3_nil he
    have sp := sp_ok e1
    have := sp.len
    have := rangeE_ok e3
    simp only [he, ne_eq, not_true_eq_false, if_false, if_true, iw_is l t a (by omega) (by omega), bindO_val]
  · simp only [he, ne_eq, not_false_eq_true, if_true, if_false]

/-! ### The specification's -/

def okR (l : List Int) (a : Int) (i k : Nat) : Bool :=
  !((decide (k < i) && (decide ((i : Int) - k ≤ a) && decide (l.getD k 0 ≥ l.getD i 0))) || (decide (k > i) && (decide ((k : Int) - i ≤ a) && decide (l.getD k 0 > l.getD i 0))))

theorem okR_all (l : List Int) (t a : Int) (i : Nat) (ha : 0 ≤ a) : (decide (l.getD i 0 ≥ t) && allN (okR l a i) l.length 0) = dtB l t a i := by
  unfold dtB
  congr 1
  rw [Bool.eq_iff_iff, allN_iff, allN_iff]
  constructor
  · intro h j h1 h2
    have := h j (by omega) (by simp only [nN] at h2; omega)
    by_cases hji : j = i
    · subst hji
      simp [okAt]
    simp only [okR, okAt, nLo, nN, Bool.not_eq_true', Bool.or_eq_false_iff, Bool.and_eq_false_iff, decide_eq_false_iff_not] at this h1 h2 ⊢
    omega
  · intro h j h1 h2
    by_cases hw : nLo i a ≤ j ∧ j < nLo i a + nN l i a
    · have := h j hw.1 hw.2
      simp only [okR, okAt, Bool.not_eq_true', Bool.or_eq_false_iff, Bool.and_eq_false_iff, decide_eq_false_iff_not] at this ⊢
      omega
    · simp only [okR, nLo, nN, Bool.not_eq_true', Bool.or_eq_false_iff, Bool.and_eq_false_iff, decide_eq_false_iff_not] at hw ⊢
      omega

def tD2 (l acc : List Int) (i : Int) (b : Bool) (k t a : Int) : Q :=
  if acc = [] then Tglidepathref02_Detections_2a l.length (encI l) i b k t a
  else Tglidepathref02_Detections_2b l.length (encI l) acc.length (encI acc) i b k t a acc.length
def xD2 (l acc : List Int) (i : Int) (b : Bool) (t a : Int) : Ext × Q :=
  if acc = [] then Xglidepathref02_Detections_2a (l.length, encI l, i, b, t, a)
  else Xglidepathref02_Detections_2b (l.length, encI l, acc.length, encI acc, i, b, t, a, acc.length)
def tD0 (l acc : List Int) (i t a : Int) : Q :=
  if acc = [] then Tglidepathref02_Detections_0a l.length (encI l) i t a
  else Tglidepathref02_Detections_0b l.length (encI l) acc.length (encI acc) i t a acc.length
def xD0 (acc : List Int) (t a : Int) : Ext × Q :=
  if acc = [] then Xglidepathref02_Detections_0a (t, a)
  else Xglidepathref02_Detections_0b (acc.length, encI acc, t, a, acc.length)

theorem d2_loop (l acc : List Int) (hl : l.length ≤ 1000) (t a : Int) (i : Nat) (hi : i < l.length) : ∀ k, k ≤ l.length → ∀ b : Bool,
    Rglidepathref02_Detections_2 (tD2 l acc i b k t a) = exO (xD2 l acc i (b && allN (okR l a i) (l.length - k) k) t a) := by
  refine up_ind _ ?_ ?_
  · intro b
    rw [Nat.sub_self]
    unfold tD2 xD2 allN
    rw [Bool.and_true]
    by_cases hn : acc = []
    · rw [if_pos hn, if_pos hn]
      refine Rglidepathref02_Detections_2a_of _ _ _ _ _ _ _ ?_
      unfold Bglidepathref02_Detections_2a
      rw [bif_neg (by omega)]
      rfl
    · rw [if_neg hn, if_neg hn]
      refine Rglidepathref02_Detections_2b_of _ _ _ _ _ _ _ _ _ _ ?_
      unfold Bglidepathref02_Detections_2b
      rw [bif_neg (by omega)]
      rfl
  · intro k hk ih b
    have q1 : decide ((0 : Int) ≤ ((i : Nat) : Int) ∧ ((i : Nat) : Int) < (l.length : Int)) = true := decide_eq_true (by omega)
    have q2 : decide ((0 : Int) ≤ ((k : Nat) : Int) ∧ ((k : Nat) : Int) < (l.length : Int)) = true := decide_eq_true (by omega)
    have w1 : w64 ((i : Int) - k) = (i : Int) - k := w64_in (by omega)
    have w2 : w64 ((k : Int) - i) = (k : Int) - i := w64_in (by omega)
    have w3 : w64 ((k : Int) + 1) = ((k + 1 : Nat) : Int) := by rw [w64_in (by omega)]; omega
    have step : ∀ r, Rglidepathref02_Detections_2 (tD2 l acc i (b && okR l a i k) ((k + 1 : Nat) : Int) t a) = some r → Rglidepathref02_Detections_2 (tD2 l acc i b k t a) = some r := by
      intro r hr
      unfold tD2 at hr ⊢
      unfold okR at hr
      by_cases hn : acc = []
      · rw [if_pos hn] at hr ⊢
        refine Rglidepathref02_Detections_2a_of _ _ _ _ _ _ _ ?_
        unfold Bglidepathref02_Detections_2a
        simp only [q1, q2, w1, w2, w3, cond_true, Int.toNat_natCast, Nat.mul_one, encI_get, get_getD 0 hi, get_getD 0 hk, Option.map_some, intC_int, bindO_val, bif_dec]
        rw [if_pos (by omega)]
        by_cases h1 : k < i
        · have h1' : (k : Int) < i := by omega
          have h1'' : ¬ (k : Int) > i := by omega
          have h1n : ¬ k > i := by omega
          simp only [h1, h1n, decide_true, decide_false, Bool.true_and, Bool.false_and, Bool.or_false] at hr
          simp only [h1', h1'', if_true, if_false]
          by_cases h2 : (i : Int) - k ≤ a
          · by_cases h3 : l.getD k 0 ≥ l.getD i 0
            · simp only [h2, h3, decide_true, Bool.true_and, Bool.not_true, Bool.and_false] at hr
              simp only [h2, h3, if_true]
              exact hr
            · simp only [h2, h3, decide_true, decide_false, Bool.true_and, Bool.not_false, Bool.and_true] at hr
              simp only [h2, h3, if_true, if_false]
              exact hr
          · simp only [h2, decide_false, Bool.false_and, Bool.not_false, Bool.and_true] at hr
            simp only [h2, if_false]
            exact hr
        · have h1' : ¬ (k : Int) < i := by omega
          simp only [h1, decide_false, Bool.false_and, Bool.false_or] at hr
          simp only [h1', if_false]
          by_cases h4 : k > i
          · have h4' : (k : Int) > i := by omega
            simp only [h4, decide_true, Bool.true_and] at hr
            simp only [h4', if_true]
            by_cases h2 : (k : Int) - i ≤ a
            · by_cases h3 : l.getD k 0 > l.getD i 0
              · simp only [h2, h3, decide_true, Bool.true_and, Bool.not_true, Bool.and_false] at hr
                simp only [h2, h3, if_true]
                exact hr
              · simp only [h2, h3, decide_true, decide_false, Bool.true_and, Bool.not_false, Bool.and_true] at hr
                simp only [h2, h3, if_true, if_false]
                exact hr
            · simp only [h2, decide_false, Bool.false_and, Bool.not_false, Bool.and_true] at hr
              simp only [h2, if_false]
              exact hr
          · have h4' : ¬ (k : Int) > i := by omega
            simp only [h4, decide_false, Bool.false_and, Bool.not_false, Bool.and_true] at hr
            simp only [h4', if_false]
            exact hr
      · rw [if_neg hn] at hr ⊢
        refine Rglidepathref02_Detections_2b_of _ _ _ _ _ _ _ _ _ _ ?_
        unfold Bglidepathref02_Detections_2b
        simp only [q1, q2, w1, w2, w3, cond_true, Int.toNat_natCast, Nat.mul_one, encI_get, get_getD 0 hi, get_getD 0 hk, Option.map_some, intC_int, bindO_val, bif_dec]
        rw [if_pos (by omega)]
        by_cases h1 : k < i
        · have h1' : (k : Int) < i := by omega
          have h1'' : ¬ (k : Int) > i := by omega
          have h1n : ¬ k > i := by omega
          simp only [h1, h1n, decide_true, decide_false, Bool.true_and, Bool.false_and, Bool.or_false] at hr
          simp only [h1', h1'', if_true, if_false]
          by_cases h2 : (i : Int) - k ≤ a
          · by_cases h3 : l.getD k 0 ≥ l.getD i 0
            · simp only [h2, h3, decide_true, Bool.true_and, Bool.not_true, Bool.and_false] at hr
              simp only [h2, h3, if_true]
              exact hr
            · simp only [h2, h3, decide_true, decide_false, Bool.true_and, Bool.not_false, Bool.and_true] at hr
              simp only [h2, h3, if_true, if_false]
              exact hr
          · simp only [h2, decide_false, Bool.false_and, Bool.not_false, Bool.and_true] at hr
            simp only [h2, if_false]
            exact hr
        · have h1' : ¬ (k : Int) < i := by omega
          simp only [h1, decide_false, Bool.false_and, Bool.false_or] at hr
          simp only [h1', if_false]
          by_cases h4 : k > i
          · have h4' : (k : Int) > i := by omega
            simp only [h4, decide_true, Bool.true_and] at hr
            simp only [h4', if_true]
            by_cases h2 : (k : Int) - i ≤ a
            · by_cases h3 : l.getD k 0 > l.getD i 0
              · simp only [h2, h3, decide_true, Bool.true_and, Bool.not_true, Bool.and_false] at hr
                simp only [h2, h3, if_true]
                exact hr
              · simp only [h2, h3, decide_true, decide_false, Bool.true_and, Bool.not_false, Bool.and_true] at hr
                simp only [h2, h3, if_true, if_false]
                exact hr
            · simp only [h2, decide_false, Bool.false_and, Bool.not_false, Bool.and_true] at hr
              simp only [h2, if_false]
              exact hr
          · have h4' : ¬ (k : Int) > i := by omega
            simp only [h4, decide_false, Bool.false_and, Bool.not_false, Bool.and_true] at hr
            simp only [h4', if_false]
            exact hr
    refine step _ ?_
    rw [show l.length - k = (l.length - (k + 1)) + 1 by omega, allN, ← Bool.and_assoc]
    exact ih _

theorem d0_loop (l : List Int) (hl : l.length ≤ 1000) (t a : Int) (ha : 0 ≤ a) : ∀ i, i ≤ l.length → ∀ acc : List Int, acc.length ≤ i →
    Rglidepathref02_Detections_0 (tD0 l acc i t a) = exO (xD0 (acc ++ colI (dtB l t a) (l.length - i) i) t a) := by
  refine up_ind _ ?_ ?_
  · intro acc _
    rw [Nat.sub_self]
    unfold colI tD0 xD0
    rw [List.append_nil]
    by_cases hn : acc = []
    · rw [if_pos hn, if_pos hn]
      refine Rglidepathref02_Detections_0a_of _ _ _ _ _ ?_
      unfold Bglidepathref02_Detections_0a
      rw [bif_neg (by omega)]
      rfl
    · rw [if_neg hn, if_neg hn]
      refine Rglidepathref02_Detections_0b_of _ _ _ _ _ _ _ _ ?_
      unfold Bglidepathref02_Detections_0b
      rw [bif_neg (by omega)]
      rfl
  · intro i hi ih acc hac
    have w3 : w64 ((i : Int) + 1) = ((i + 1 : Nat) : Int) := by rw [w64_in (by omega)]; omega
    have dt := okR_all l t a i ha
    have lp : ∀ b, Rglidepathref02_Detections_2 (tD2 l acc i b 0 t a) = exO (xD2 l acc i (b && allN (okR l a i) l.length 0) t a) := fun b => d2_loop l acc hl t a i hi 0 (by omega) b
    have step : ∀ r, Rglidepathref02_Detections_0 (tD0 l (if dtB l t a i then acc ++ [(i : Int)] else acc) (i + 1 : Nat) t a) = some r → Rglidepathref02_Detections_0 (tD0 l acc i t a) = some r := by
      intro r hr
      unfold tD0 at hr ⊢
      unfold tD2 xD2 at lp
      by_cases hn : acc = []
      · rw [if_pos hn]
        simp only [hn, if_true] at lp
        have l2 := fun b => Lglidepathref02_Detections_2a_of (lp b)
        refine Rglidepathref02_Detections_0a_of _ _ _ _ _ ?_
        unfold Bglidepathref02_Detections_0a
        rw [bif_pos (by omega), bif_pos (by omega)]
        simp only [Int.toNat_natCast, Nat.mul_one, encI_get, get_getD 0 hi, Option.map_some, intC_int, bindO_val, l2, Sum.elim_inl, w3]
        by_cases hg : l.getD i 0 ≥ t
        · rw [bif_pos hg]
          rw [decide_eq_true hg] at dt
          rw [dt]
          cases hb : dtB l t a i with
          | true =>
            rw [hb, if_pos rfl, if_neg (by simp)] at hr
            subst hn
            exact hr
          | false =>
            rw [hb] at hr
            simp only [Bool.false_eq_true, if_false] at hr
            rw [if_pos hn] at hr
            exact hr
        · rw [bif_neg hg]
          rw [decide_eq_false hg] at dt
          rw [dt]
          rw [Bool.false_and] at dt
          rw [← dt] at hr
          simp only [Bool.false_eq_true, if_false] at hr
          rw [if_pos hn] at hr
          rw [← dt]
          exact hr
      · rw [if_neg hn]
        simp only [hn, if_false] at lp
        have l2 := fun b => Lglidepathref02_Detections_2b_of (lp b)
        refine Rglidepathref02_Detections_0b_of _ _ _ _ _ _ _ _ ?_
        unfold Bglidepathref02_Detections_0b
        rw [bif_pos (by omega), bif_pos (by omega)]
        simp only [Int.toNat_natCast, Nat.mul_one, encI_get, get_getD 0 hi, Option.map_some, intC_int, bindO_val, l2, Sum.elim_inr, w3]
        by_cases hg : l.getD i 0 ≥ t
        · rw [bif_pos hg]
          rw [decide_eq_true hg] at dt
          rw [dt]
          cases hb : dtB l t a i with
          | true =>
            rw [hb, if_pos rfl, if_neg (by simp), List.length_append] at hr
            rw [cond_true, bif_pos ⟨trivial, by simp only [big]; omega⟩, encI_snoc]
            exact hr
          | false =>
            rw [hb] at hr
            simp only [Bool.false_eq_true, if_false] at hr
            rw [if_neg hn] at hr
            exact hr
        · rw [bif_neg hg]
          rw [decide_eq_false hg] at dt
          rw [dt]
          rw [Bool.false_and] at dt
          rw [← dt] at hr
          simp only [Bool.false_eq_true, if_false] at hr
          rw [if_neg hn] at hr
          rw [← dt]
          exact hr
    obtain ⟨k, hk⟩ : ∃ k, l.length - i = k + 1 := ⟨l.length - i - 1, by omega⟩
    have hk2 : l.length - (i + 1) = k := by omega
    rw [hk2] at ih
    rw [hk]
    unfold colI
    cases hb : dtB l t a i with
    | true =>
      rw [hb, if_pos rfl] at step
      rw [if_pos rfl]
      have := ih (acc ++ [(i : Int)]) (by simp; omega)
      rw [List.append_assoc] at this
      exact step _ this
    | false =>
      rw [hb, if_neg (by simp)] at step
      rw [if_neg (by simp)]
      exact step _ (ih acc (by omega))

theorem refDet_is (l : List Int) (hl : l.length ≤ 1000) (t a : Int) (ha : 0 ≤ a) : Fglidepathref02_Detections [.list l.length (encI l), .agg [.int .i64 t, .int .i64 a]] = some ((detL l t a).length, encI (detL l t a)) := by
  refine Fglidepathref02_Detections_of _ _ _ _ ?_
  unfold tglidepathref02_Detections
  have h := d0_loop l hl t a ha 0 (by omega) [] (by simp)
  rw [Nat.sub_zero, List.nil_append] at h
  have h : Rglidepathref02_Detections_0 (Tglidepathref02_Detections_0a l.length (encI l) 0 t a) = exO (xD0 (detL l t a) t a) := h
  by_cases hc : detL l t a = []
  · rw [show xD0 (detL l t a) t a = Xglidepathref02_Detections_0a (t, a) from if_pos hc] at h
    rw [Lglidepathref02_Detections_0a_of h, hc]
    rfl
  · rw [show xD0 (detL l t a) t a = _ from if_neg hc] at h
    rw [Lglidepathref02_Detections_0b_of h]
    simp only [bindO_val, Sum.elim_inr, decide_true, cond_true]
end Gv
