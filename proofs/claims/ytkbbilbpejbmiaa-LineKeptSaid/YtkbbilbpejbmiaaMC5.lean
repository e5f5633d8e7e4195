/- The detected rate: the program's and the specification's, and the law. -/
import Derived.Test.YtkbbilbpejbmiaaMCb
import Derived.Test.YtkbbilbpejbmiaaM18
namespace Gv
open Go
set_option maxRecDepth 100000

theorem idxAtS_loop (m : Int) (l : List Int) (hl : l.length < 4294967296) : ∀ i, i ≤ l.length →
    Rline_IndexFuncS_at_0 (Tline_IndexFuncS_at_0a l.length (encI l) m l.length i) = exO (XLline_IndexFuncS_at_0.fn (gaS m (l.drop i) i)) := by
  refine up_ind _ ?_ ?_
  · refine Rline_IndexFuncS_at_0a_of _ _ _ _ _ ?_
    unfold Bline_IndexFuncS_at_0a
    rw [bif_neg (by omega), List.drop_length]
    rfl
  · intro i hi ih
    obtain ⟨x, hx, hd⟩ := get_drop hi
    refine Rline_IndexFuncS_at_0a_of _ _ _ _ _ ?_
    unfold Bline_IndexFuncS_at_0a
    rw [bif_pos (by omega), bif_pos (by omega)]
    simp only [Int.toNat_natCast, Nat.mul_one, encI_get, hx, Option.map_some, intC_int, bindO_val, atLeast1_is]
    rw [hd, w64_in (by omega)]
    by_cases he : m ≤ x
    · rw [bif_pos he, show gaS m (x :: l.drop (i + 1)) i = .inl (i : Int) from if_pos he]
      rfl
    · rw [bif_neg he, show gaS m (x :: l.drop (i + 1)) i = gaS m (l.drop (i + 1)) (i + 1) from if_neg he]
      exact ih
theorem containsAtS_is (m : Int) (l : List Int) (hl : l.length < 4294967296) : Fline_ContainsFuncS_at [.list l.length (encI l), .fn 101 [.imm [.int .i64 m] 0]] = some (anyG m l) := by
  have q : Fline_IndexFuncS_at [.list l.length (encI l), .fn 101 [.imm [.int .i64 m] 0]] = some (Sum.elim id (fun _ => -1) (gaS m l 0)) := by
    refine Fline_IndexFuncS_at_of _ _ _ ?_
    unfold tline_IndexFuncS_at
    have := lpO_of Iline_IndexFuncS_at_0 XIline_IndexFuncS_at_0 (idxAtS_loop m l hl 0 (by omega))
    rw [List.drop_zero] at this
    have this : Lline_IndexFuncS_at_0 (Tline_IndexFuncS_at_0a l.length (encI l) m l.length 0) = _ := this
    rw [this]
    cases gaS m l 0 <;> rfl
  refine Fline_ContainsFuncS_at_of _ _ _ ?_
  unfold tline_ContainsFuncS_at
  simp only [q, bindO_val]
  rcases gaS_spec m l 0 with ⟨h1, j, h2, h3⟩ | ⟨h1, h2⟩
  · rw [h1, h2, bif_pos (by simpa using h3)]
  · rw [h1, h2, bif_neg (by simp)]
theorem anyG_max {l : List Int} (h : 1 ≤ l.length) (m : Int) : anyG m l = decide (m ≤ maxL l) := by
  unfold anyG
  rw [Bool.eq_iff_iff, List.any_eq_true, decide_eq_true_iff]
  constructor
  · rintro ⟨x, hx, hm⟩
    have := maxL_ge hx
    have := of_decide_eq_true hm
    omega
  · intro hm
    exact ⟨maxL l, maxL_mem h, decide_eq_true hm⟩

/-- How many cases, of so many from one on, reach a threshold. -/
def rcS (s v : List Int) (t : Int) (i : Nat) (w : Int) : Int := if anyG t (nzL s v i) = true then w + 1 else w
def rcG (s v : List Int) (t : Int) : Nat → Nat → Int → Int
  | 0, _, w => w
  | n + 1, i, w => rcG s v t n (i + 1) (rcS s v t i w)
theorem rcG_bd (s v : List Int) (t : Int) : ∀ n i w, w ≤ rcG s v t n i w ∧ rcG s v t n i w ≤ w + n
  | 0, i, w => by simp [rcG]
  | n + 1, i, w => by
    have := rcG_bd s v t n (i + 1) (rcS s v t i w)
    rw [rcG]
    unfold rcS at this ⊢
    split at this <;> (rename_i h; simp only [h, if_true, if_false, Bool.false_eq_true]; omega)
def rcT (s v : List Int) (t : Int) : Int := rcG s v t (cnt s v) 0 0
theorem reach_loop {s v : List Int} {n d : Int} (c : Ca s v n d) (t t1 t2 : Int) : ∀ i, i ≤ cnt s v → ∀ w : Int, 0 ≤ w → w ≤ i →
    Rline_reaching_3000021 (Tline_reaching_3000021a (cnt s v) (en2 (caF s v) (cnt s v)) i s.length (encI s) v.length (encI v) t1 t2 w t) =
      exO (Xline_reaching_3000021a (s.length, encI s, v.length, encI v, t1, t2, rcG s v t (cnt s v - i) i w, t)) := by
  have hc := c.cs
  refine up_ind _ ?_ ?_
  · intro w _ _
    rw [Nat.sub_self]
    refine Rline_reaching_3000021a_of _ _ _ _ _ _ _ _ _ _ _ ?_
    unfold Bline_reaching_3000021a
    rw [bif_neg (by omega)]
    rfl
  · intro i hi ih w h1 h2
    have hs := c.sp.len
    have q := containsAtS_is t (nzL s v i) (by rw [nzL_len]; omega)
    rw [nzL_len] at q
    have step : ∀ r, Rline_reaching_3000021 (Tline_reaching_3000021a (cnt s v) (en2 (caF s v) (cnt s v)) ((i + 1 : Nat) : Int) s.length (encI s) v.length (encI v) t1 t2 (rcS s v t i w) t) = some r →
        Rline_reaching_3000021 (Tline_reaching_3000021a (cnt s v) (en2 (caF s v) (cnt s v)) i s.length (encI s) v.length (encI v) t1 t2 w t) = some r := by
      intro r hr
      refine Rline_reaching_3000021a_of _ _ _ _ _ _ _ _ _ _ _ ?_
      unfold Bline_reaching_3000021a
      rw [bif_pos (by omega), bif_pos (by omega)]
      simp only [Int.toNat_natCast, en2_0 (caF s v) hi, en2_1 (caF s v) hi, caF, intC_int, listC_list, bindO_val, q]
      rw [w64_in (by omega), w64_in (n := w + 1) (by omega)]
      unfold rcS at hr
      cases hb : anyG t (nzL s v i) with
      | true => rw [hb, if_pos rfl] at hr; exact hr
      | false => rw [hb, if_neg (by simp)] at hr; exact hr
    refine step _ ?_
    rw [show cnt s v - i = (cnt s v - (i + 1)) + 1 by omega, rcG]
    exact ih _ (by unfold rcS; split <;> omega) (by unfold rcS; split <;> omega)
theorem rate_low {s v : List Int} {n d : Int} (c : Ca s v n d) (t : Int) : Fline_lowest [.int .i64 (rcT s v t), .int .i64 (cnt s v)] = some (lowF (rcT s v t) (cnt s v)) ∧ FBsLowest [.int .i64 (rcT s v t), .int .i64 (cnt s v)] = some (lowF (rcT s v t) (cnt s v)) := by
  have b := rcG_bd s v t (cnt s v) 0 0
  rw [show rcG s v t (cnt s v) 0 0 = rcT s v t from rfl] at b
  have hp := cnt_pos c; have hc := c.cs
  exact ⟨lowest_is (by unfold Bd; omega) (by unfold Bd; omega) (by omega), refLowest_is (by unfold Bd; omega) (by unfold Bd; omega) (by omega)⟩
theorem rateOf_is {s v : List Int} {n d : Int} (c : Ca s v n d) (t : Int) : Fline_rateOf [.agg [.list s.length (encI s), .list v.length (encI v), .int .i64 n, .int .i64 d], .int .i64 t] = some (lowF (rcT s v t) (cnt s v)) := by
  refine Fline_rateOf_of _ _ _ _ _ _ _ ?_
  unfold tline_rateOf
  have r : Fline_reaching [.agg [.list s.length (encI s), .list v.length (encI v), .int .i64 n, .int .i64 d], .int .i64 t] = some (rcT s v t) := by
    refine Fline_reaching_of _ _ _ _ _ _ _ ?_
    unfold tline_reaching
    have := Lline_reaching_3000021a_of (reach_loop c t n d 0 (by omega) 0 (by omega) (by omega))
    rw [Nat.sub_zero, show ((0 : Nat) : Int) = 0 from rfl] at this
    simp only [casesIt_is c, this, bindO_val]
    rfl
  simp only [r, countC c, (rate_low c t).1, bindO_val]
theorem refRate_loop {s v : List Int} {n d : Int} (c : Ca s v n d) (t : Int) : ∀ i, i ≤ cnt s v → ∀ w : Int, 0 ≤ w → w ≤ i →
    RRfRate_0 (TRfRate_0a s.length (encI s) t (cnt s v : Int) w i v.length (encI v)) =
      exO (XRfRate_0a ((cnt s v : Int), rcG s v t (cnt s v - i) i w, v.length, encI v)) := by
  have hc := c.cs
  refine up_ind _ ?_ ?_
  · intro w _ _
    rw [Nat.sub_self]
    refine RRfRate_0a_of _ _ _ _ _ _ _ _ ?_
    unfold BRfRate_0a
    rw [bif_neg (by omega)]
    rfl
  · intro i hi ih w h1 h2
    have sp := nz_sp c i
    have hl := sp.len; have hp := sp.pos
    obtain ⟨_, p1, p2, _⟩ := pkL_spec hp
    have q := refPeak_is (nzL s v i) hp (by omega)
    rw [nzL_len] at q
    have g := get_getD (l := nzL s v i) (i := pkL (nzL s v i)) 0 p1
    rw [nzL_len] at p1
    have step : ∀ r, RRfRate_0 (TRfRate_0a s.length (encI s) t (cnt s v : Int) (rcS s v t i w) ((i + 1 : Nat) : Int) v.length (encI v)) = some r →
        RRfRate_0 (TRfRate_0a s.length (encI s) t (cnt s v : Int) w i v.length (encI v)) = some r := by
      intro r hr
      refine RRfRate_0a_of _ _ _ _ _ _ _ _ ?_
      unfold BRfRate_0a
      rw [bif_pos (by omega)]
      simp only [refNoisyC c (k := (i : Int)) (by omega), q, bindO_val]
      rw [bif_pos (by omega)]
      simp only [Int.toNat_natCast, Nat.mul_one, encI_get, g, Option.map_some, intC_int, bindO_val]
      rw [p2, w64_in (n := w + 1) (by omega), w64_in (n := (i : Int) + 1) (by omega)]
      unfold rcS at hr
      rw [anyG_max hp] at hr
      by_cases hb : t ≤ maxL (nzL s v i)
      · rw [decide_eq_true hb, if_pos rfl] at hr
        rw [bif_pos hb]
        exact hr
      · rw [decide_eq_false hb, if_neg (by simp)] at hr
        rw [bif_neg hb]
        exact hr
    refine step _ ?_
    rw [show cnt s v - i = (cnt s v - (i + 1)) + 1 by omega, rcG]
    exact ih _ (by unfold rcS; split <;> omega) (by unfold rcS; split <;> omega)
theorem refRate_is {s v : List Int} {n d : Int} (c : Ca s v n d) (t : Int) : FRfRate [.list s.length (encI s), .agg [.list v.length (encI v)], .int .i64 t] = some (lowF (rcT s v t) (cnt s v)) := by
  refine FRfRate_of _ _ _ _ _ ?_
  unfold tRfRate
  have := LRfRate_0a_of (refRate_loop c t 0 (by omega) 0 (by omega) (by omega))
  rw [Nat.sub_zero, show ((0 : Nat) : Int) = 0 from rfl, show rcG s v t (cnt s v) 0 0 = rcT s v t from rfl] at this
  simp only [refCasesC c, this, (rate_low c t).2, bindO_val]

theorem threshE_is (t : Int) : Fline_thresholdError [.int .i64 t] = some (rangeE t 0 11000) := by
  refine Fline_thresholdError_of _ ?_
  unfold tline_thresholdError
  simp only [lnRangeError_is, bindO_val]
theorem refThreshE_is (t : Int) : FRfThresholdErr [.int .i64 t] = some (rangeE t 0 11000) := by
  refine FRfThresholdErr_of _ ?_
  unfold tRfThresholdErr
  simp only [within_is, bindO_val, bif_dec]
  by_cases h : rangeE t 0 11000 = 0
  · rw [if_pos h, h]
  · rw [if_neg h, rangeE_out fun q => h (rangeE_in q)]

def drE (s v : List Int) (n d t : Int) : Int := both (caE s v n d) (rangeE t 0 11000)
def drR (s v : List Int) (n d t : Int) : Int × (Int × Int) := if drE s v n d t ≠ 0 then (0, (0, drE s v n d t)) else ((lowF (rcT s v t) (cnt s v)).1, ((lowF (rcT s v t) (cnt s v)).2, 0))
theorem detRate_is (s v : List Int) (hs : s.length < 4294967296) (hv : v.length < 4294967296) {n d : Int} (hd : I64 d) (t : Int) :
    Fline_DetectedRate [.agg [.list s.length (encI s), .list v.length (encI v), .int .i64 n, .int .i64 d], .int .i64 t] = some (drR s v n d t) := by
  refine Fline_DetectedRate_of _ _ _ _ _ _ _ ?_
  unfold tline_DetectedRate drR
  simp only [checkCase_is s v hs hv hd, threshE_is, lnFirst2_is, bindO_val, bif_ne]
  rw [show both (caE s v n d) (rangeE t 0 11000) = drE s v n d t from rfl]
  by_cases h : drE s v n d t = 0
  · obtain ⟨h1, _⟩ := both_nil h
    simp only [h, if_true, ne_eq, not_true_eq_false, if_false, rateOf_is (ca_ok h1), bindO_val]
  · simp only [h, if_false, ne_eq, not_false_eq_true, if_true]
end Gv
