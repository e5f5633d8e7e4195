/- Estimates: the specification's, and the law. -/
import Derived.Test.YtdbnojfklmfniaaMS3
namespace Gv
open Go
set_option maxRecDepth 100000

/-! ### The specification's sums -/

theorem refSum_loop (l : List Int) (hl : l.length ≤ 1000) (hs : Sm 10000 l) : ∀ i, i ≤ l.length → ∀ p : Int, 0 ≤ p → p ≤ i * 10000 →
    RRfSum_0 (TRfSum_0a l.length (encI l) p i) = exO (XRfSum_0a (p + pw l i (l.length - i))) := by
  refine up_ind _ ?_ ?_
  · intro p _ _
    refine RRfSum_0a_of _ _ _ _ ?_
    unfold BRfSum_0a
    rw [bif_neg (by omega), Nat.sub_self]
    simp only [pw, Int.add_zero]
    rfl
  · intro i hi ih p h1 h2
    refine RRfSum_0a_of _ _ _ _ ?_
    unfold BRfSum_0a
    rw [bif_pos (by omega), bif_pos (by omega)]
    simp only [Int.toNat_natCast, Nat.mul_one, encI_get, get_getD 0 hi, Option.map_some, intC_int, bindO_val]
    have b := hs.getD (by omega) i
    rw [show l.length - i = (l.length - (i + 1)) + 1 by omega, pw, w64_in (n := p + l.getD i 0) (by omega), w64_in (by omega)]
    have := ih (p + l.getD i 0) (by omega) (by omega)
    rw [Int.add_assoc] at this
    exact this

theorem refSum_is (l : List Int) (hl : l.length ≤ 1000) (hs : Sm 10000 l) : FRfSum [.list l.length (encI l)] = some (sumL l) := by
  refine FRfSum_of _ _ ?_
  unfold tRfSum
  have := LRfSum_0a_of (refSum_loop l hl hs 0 (by omega) 0 (by omega) (by omega))
  rw [show ((0 : Nat) : Int) = 0 from rfl, Nat.sub_zero, Int.zero_add] at this
  rw [this]
  rfl

theorem pw_take (l : List Int) (m : Nat) : ∀ n i, i + n ≤ m → pw (l.take m) i n = pw l i n
  | 0, i, _ => rfl
  | n + 1, i, h => by
    rw [pw, pw, pw_take l m n (i + 1) (by omega)]
    congr 1
    rw [List.getD_eq_getElem?_getD, List.getD_eq_getElem?_getD, List.getElem?_take, if_pos (by omega)]

theorem refCen_loop (l : List Int) (hl : l.length ≤ 1000) (hs : Sm 10000 l) (lo N : Nat) (to : Int) (hb : lo + N ≤ 1000) (hin : ∀ j, j < N → lo + j < l.length ∧ ((lo + j : Nat) : Int) ≤ to) (hout : ¬ (lo + N < l.length ∧ ((lo + N : Nat) : Int) ≤ to)) :
    ∀ j, j ≤ N → ∀ s p : Int, 0 ≤ p → p ≤ j * 10000 → 0 ≤ s → s ≤ j * 10000000 →
    RRfCentroid_0 (TRfCentroid_0a l.length (encI l) to s p ((lo + j : Nat) : Int)) = exO (XRfCentroid_0a (s + mo l (lo + j) (N - j), p + pw l (lo + j) (N - j))) := by
  refine up_ind _ ?_ ?_
  · intro s p _ _ _ _
    refine RRfCentroid_0a_of _ _ _ _ _ _ ?_
    unfold BRfCentroid_0a
    rw [Nat.sub_self]
    simp only [pw, mo, Int.add_zero]
    by_cases h1 : lo + N < l.length
    · rw [bif_pos (by omega), bif_neg (fun h => hout ⟨h1, h⟩)]
      rfl
    · rw [bif_neg (by omega)]
      rfl
  · intro j hj ih s p h1 h2 h3 h4
    refine RRfCentroid_0a_of _ _ _ _ _ _ ?_
    unfold BRfCentroid_0a
    obtain ⟨i1, i2⟩ := hin j hj
    have q1 : decide ((0 : Int) ≤ ((lo + j : Nat) : Int) ∧ ((lo + j : Nat) : Int) < (l.length : Int)) = true := decide_eq_true (by omega)
    rw [bif_pos (by omega), bif_pos i2]
    simp only [q1, cond_true, Int.toNat_natCast, Nat.mul_one, encI_get, get_getD 0 i1, Option.map_some, intC_int, bindO_val]
    obtain ⟨x, hx⟩ : ∃ x, x = l.getD (lo + j) 0 := ⟨_, rfl⟩
    obtain ⟨b1, b2⟩ := hs.getD (by omega) (lo + j)
    rw [show N - j = (N - (j + 1)) + 1 by omega, pw, mo, show lo + j + 1 = lo + (j + 1) by omega, ← hx]
    rw [← hx] at b1 b2
    have c1 : 0 ≤ ((lo + j : Nat) : Int) * x := Int.mul_nonneg (by omega) b1
    have c2 : ((lo + j : Nat) : Int) * x ≤ 1000 * 10000 := Int.mul_le_mul (by omega) b2 b1 (by omega)
    rw [w64_in (n := ((lo + j : Nat) : Int) * x) (by omega), w64_in (n := p + x) (by omega), w64_in (n := s + ((lo + j : Nat) : Int) * x) (by omega), w64_in (n := ((lo + j : Nat) : Int) + 1) (by omega)]
    have := ih (s + ((lo + j : Nat) : Int) * x) (p + x) (by omega) (by omega) (by omega) (by omega)
    rw [Int.add_assoc, Int.add_assoc] at this
    exact this

theorem refCen_is (l : List Int) (hl : l.length ≤ 16) (hs : Sm 10000 l) (lo N : Nat) (frm to : Int) (hlo : (if frm > 0 then frm else 0) = (lo : Int)) (hb : N = 0 ∨ lo + N ≤ 16) (hb2 : lo ≤ 100) (hin : ∀ j, j < N → lo + j < l.length ∧ ((lo + j : Nat) : Int) ≤ to) (hout : ¬ (lo + N < l.length ∧ ((lo + N : Nat) : Int) ≤ to)) :
    FRfCentroid [.list l.length (encI l), .int .i64 frm, .int .i64 to] = some (if pw l lo N = 0 then (0, (0, false)) else ((lowF (mo l lo N) (pw l lo N)).1, ((lowF (mo l lo N) (pw l lo N)).2, true))) := by
  refine FRfCentroid_of _ _ _ _ ?_
  unfold tRfCentroid
  have := LRfCentroid_0a_of (refCen_loop l (by omega) hs lo N to (by omega) hin hout 0 (by omega) 0 0 (by omega) (by omega) (by omega) (by omega))
  rw [Nat.add_zero, Nat.sub_zero, Int.zero_add, Int.zero_add] at this
  rw [hlo, this]
  simp only [bindO_val, bif_eq]
  have a := pw_bd (by omega) hs N lo
  by_cases h0 : pw l lo N = 0
  · simp only [h0, if_true]
  · have hN : N ≠ 0 := by intro h; subst h; exact h0 rfl
    have b := mo_bd (by omega) hs N lo 16 (by omega)
    simp only [h0, if_false, refLowest_is (n := mo l lo N) (d := pw l lo N) (by unfold Bd; omega) (by unfold Bd; omega) (by omega), bindO_val]

theorem refEst_is {l : List Int} (h : Sp l) {k : Int} (hk : rangeE k 0 3 = 0) : Fn env 81 (.agg [.int .i64, .int .i64]) [.list l.length (encI l), .int .i64 k] = some (est l k) := by
  have hr := rangeE_ok hk
  have hl := h.len
  have hp := h.pos
  have sz := sum_zero h
  have hc : k = 0 ∨ k = 1 ∨ k = 2 ∨ k = 3 := by omega
  obtain ⟨_, p1, p2, p3⟩ := pkL_spec h.pos
  unfold est
  rcases hc with rfl | rfl | rfl | rfl
  · refine FrefEstimate0_of _ _ ?_
    unfold trefEstimate0
    simp only [refSum_is l (by omega) h.sm, bindO_val, bif_eq, refWhole_is, refPeak_is l hp (by omega)]
    by_cases hm : maxL l = 0
    · simp [hm, sz.2 hm]
    · have hs0 : sumL l ≠ 0 := fun q => hm (sz.1 q)
      simp [hm, hs0]
  · refine FrefEstimate1_of _ _ ?_
    unfold trefEstimate1
    have c := refCen_is l hl h.sm 0 l.length 0 ((l.length : Int) - 1) (by simp) (by omega) (by omega) (fun j hj => by omega) (by omega)
    rw [show pw l 0 l.length = sumL l from rfl, show mo l 0 l.length = momL l from rfl] at c
    simp only [refSum_is l (by omega) h.sm, bindO_val, bif_eq, refWhole_is, refPeak_is l hp (by omega)]
    rw [w64_in (by omega)]
    by_cases hm : maxL l = 0
    · simp [hm, sz.2 hm]
    · have hs0 : sumL l ≠ 0 := fun q => hm (sz.1 q)
      rw [if_neg hs0] at c
      simp only [hm, hs0, if_false, c, bindO_val, cond_true, if_true]
  · refine FrefEstimate2_of _ _ ?_
    unfold trefEstimate2 estPar
    simp only [refSum_is l (by omega) h.sm, bindO_val, bif_eq, refWhole_is, refPeak_is l hp (by omega)]
    rw [w64_in (n := (l.length : Int) - 1) (by omega)]
    by_cases hm : maxL l = 0
    · simp [hm, sz.2 hm]
    · have hs0 : sumL l ≠ 0 := fun q => hm (sz.1 q)
      simp only [hm, hs0, if_false, show ¬ (2 : Int) = 1 from by omega, if_true]
      by_cases h0 : pkL l = 0
      · rw [if_pos (by omega), if_pos (.inl h0)]
      · rw [if_neg (by omega)]
        by_cases h1 : pkL l + 1 = l.length
        · rw [if_pos (by omega), if_pos (.inr h1)]
        · have a := h.sm.getD (by omega) (pkL l)
          have b := h.sm.getD (by omega) (pkL l - 1)
          have c := h.sm.getD (by omega) (pkL l + 1)
          obtain ⟨g1, g2, g3, g4⟩ := par_bd h h0
          have i1 : w64 ((pkL l : Int) - 1) = ((pkL l - 1 : Nat) : Int) := by rw [w64_in (by omega)]; omega
          have i2 : w64 ((pkL l : Int) + 1) = ((pkL l + 1 : Nat) : Int) := by rw [w64_in (by omega)]; omega
          have q1 : decide ((0 : Int) ≤ ((pkL l : Nat) : Int) ∧ ((pkL l : Nat) : Int) < (l.length : Int)) = true := decide_eq_true (by omega)
          have q2 : decide ((0 : Int) ≤ ((pkL l - 1 : Nat) : Int) ∧ ((pkL l - 1 : Nat) : Int) < (l.length : Int)) = true := decide_eq_true (by omega)
          have q3 : decide ((0 : Int) ≤ ((pkL l + 1 : Nat) : Int) ∧ ((pkL l + 1 : Nat) : Int) < (l.length : Int)) = true := decide_eq_true (by omega)
          rw [if_neg (by omega), if_neg (by omega), i1, i2]
          simp only [q1, q2, q3, cond_true, Int.toNat_natCast, Nat.mul_one, encI_get, get_getD 0 (show pkL l < l.length by omega), get_getD 0 (show pkL l - 1 < l.length by omega), get_getD 0 (show pkL l + 1 < l.length by omega), Option.map_some, intC_int, bindO_val]
          have e1 : w64 (w64 (w64 (2 * l.getD (pkL l) 0) - l.getD (pkL l - 1) 0) - l.getD (pkL l + 1) 0) = parD l := by
            rw [w64_in (n := 2 * l.getD (pkL l) 0) (by omega), w64_in (n := 2 * l.getD (pkL l) 0 - l.getD (pkL l - 1) 0) (by omega)]
            exact w64_in (by unfold parD at g1 g2; omega)
          have f1 : 0 ≤ parD l * (pkL l : Int) := Int.mul_nonneg (by omega) (by omega)
          have f2 : parD l * (pkL l : Int) ≤ 20000 * 16 := Int.mul_le_mul g2 (by omega) (by omega) (by omega)
          have f3 : 2 * parD l * (pkL l : Int) = 2 * (parD l * (pkL l : Int)) := by rw [Int.mul_assoc]
          rw [e1, bif_neg (by omega), w64_in (n := 2 * parD l) (by omega), w64_in (n := 2 * parD l * (pkL l : Int)) (by omega), w64_in (n := 2 * parD l * (pkL l : Int) + l.getD (pkL l + 1) 0) (by omega), w64_in (n := 2 * parD l * (pkL l : Int) + l.getD (pkL l + 1) 0 - l.getD (pkL l - 1) 0) (by omega)]
          rw [show 2 * parD l * (pkL l : Int) + l.getD (pkL l + 1) 0 - l.getD (pkL l - 1) 0 = parN l from rfl]
          simp only [refLowest_is (n := parN l) (d := 2 * parD l) (by unfold Bd; omega) (by unfold Bd; omega) (by omega), bindO_val]
  · refine FrefEstimate3_of _ _ ?_
    unfold trefEstimate3
    have sb := sum_bd h
    have loop : ∀ i, i ≤ l.length - 1 → RrefEstimate3_1 (TrefEstimate3_1a l.length (encI l) (pkL l) (i : Int)) = exO (XrefEstimate3_1a ((fstN (medP l) (l.length - i) i : Int), 1)) := by
      have one : ∀ i, i < l.length → ∀ r, (if medP l i = true then exO (XrefEstimate3_1a ((i : Int), 1)) else RrefEstimate3_1 (TrefEstimate3_1a l.length (encI l) (pkL l) ((i + 1 : Nat) : Int))) = some r → RrefEstimate3_1 (TrefEstimate3_1a l.length (encI l) (pkL l) (i : Int)) = some r := by
        intro i hi r hr
        refine RrefEstimate3_1a_of _ _ _ _ ?_
        unfold BrefEstimate3_1a
        have iw : w64 ((i : Int) + 1) = ((i + 1 : Nat) : Int) := by rw [w64_in (by omega)]; omega
        rw [bif_pos (by omega), iw, bif_pos (by simp only []; omega), bif_pos (by right; simp only [Int.toNat_natCast, encI_len]; omega)]
        have tk : PV.list (((i + 1 : Nat) : Int).toNat - 0) (List.take ((((i + 1 : Nat) : Int).toNat - 0) * 1) (List.drop 0 (encI l))) = PV.list (l.take (i + 1)).length (encI (l.take (i + 1))) := by
          rw [Int.toNat_natCast, Nat.sub_zero, Nat.mul_one, List.drop_zero, List.length_take, Nat.min_eq_left (by omega)]
          unfold encI
          rw [List.map_take]
        have st : sumL (l.take (i + 1)) = pw l 0 (i + 1) := by
          unfold sumL
          rw [List.length_take, Nat.min_eq_left (by omega)]
          exact pw_take l (i + 1) (i + 1) 0 (by omega)
        have b := pw_bd (by omega) h.sm (i + 1) 0
        rw [tk]
        simp only [refSum_is (l.take (i + 1)) (by rw [List.length_take]; omega) (fun x hx => h.sm x (List.mem_of_mem_take hx)), st, refSum_is l (by omega) h.sm, bindO_val, refWhole_is]
        rw [w64_in (by omega)]
        by_cases hq : medP l i = true
        · have := of_decide_eq_true hq
          rw [if_pos hq] at hr
          rw [bif_pos (by omega)]
          exact hr
        · have := of_decide_eq_false (show decide (sumL l ≤ 2 * pw l 0 (i + 1)) = false by unfold medP at hq; simpa using hq)
          rw [if_neg hq] at hr
          rw [bif_neg (by omega)]
          exact hr
      refine up_ind _ ?_ ?_
      · refine one _ (by omega) _ ?_
        have a := med_end h (k := l.length - 1) (by omega)
        rw [if_pos a, show l.length - (l.length - 1) = 0 + 1 by omega, fstN_stop a]
        rfl
      · intro i hi ih
        refine one _ (by omega) _ ?_
        rw [show l.length - i = (l.length - (i + 1)) + 1 by omega]
        by_cases hq : medP l i = true
        · rw [if_pos hq, fstN_stop hq]
          rfl
        · rw [if_neg hq, fstN_go (by simpa using hq)]
          exact ih
    have lp := LrefEstimate3_1a_of (loop 0 (by omega))
    rw [show ((0 : Nat) : Int) = 0 from rfl, Nat.sub_zero] at lp
    simp only [refSum_is l (by omega) h.sm, bindO_val, bif_eq, refWhole_is, refPeak_is l hp (by omega), lp, Sum.elim_inl]
    by_cases hm : maxL l = 0
    · simp [hm, sz.2 hm]
    · have hs0 : sumL l ≠ 0 := fun q => hm (sz.1 q)
      simp [hm, hs0, medL]

theorem eq2 (p : Int × Int) : ((p.1 == p.1) && ((p.2 == p.2) && true)) = true := by simp
theorem eq00 : (((0 : Int) == 0) && (((0 : Int) == 0) && true)) = true := rfl

end Gv
