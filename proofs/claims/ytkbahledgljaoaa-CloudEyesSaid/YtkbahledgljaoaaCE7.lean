/- The exposure and the first not safe second: the reference's, and the program's. -/
import Derived.Test.YtkbahledgljaoaaCE6
namespace Gv
open Go
set_option maxRecDepth 100000

theorem refT_bd {w : Int} (hw : 1 ≤ w ∧ w ≤ 1000000) {l : List Sht} (ho : Oks l) : ∀ t ∈ refT w l, -1 ≤ t ∧ t ≤ 2000000 := by
  intro t ht
  rcases (refT_mem w l t).1 ht with h | h
  · omega
  · have := ptL_bd ho hw _ h
    omega
theorem refExposure_is {l : List Sht} (ho : Oks l) (hl : l.length ≤ 100) {w : Int} (hw : 1 ≤ w ∧ w ≤ 1000000) : FrX [.list l.length (encL3 l), .int .i64 w] = some (mostF (fun t => enr l w (t + 1)) (refT w l) 0) := by
  refine FrX_of _ _ _ ?_
  unfold trX
  have hlen := (refT_ok hw ho).2
  have hq := refExpo_loop ho (by omega) hw (ts := refT w l) (by omega) (fun t ht => by have := refT_bd hw ho t ht; omega) 0 (by omega) 0
  rw [List.drop_zero] at hq
  have hL := LrX_0a_of hq
  have hL : LrX_0 (TrX_0a l.length (encL3 l) w 0 (refT w l).length (encI (refT w l)) 0) = _ := hL
  simp only [refTurns_is ho hl hw, bindO_val, hL]

theorem floor_is {x y : Int} (hx : 0 ≤ x ∧ x ≤ 1000000000000000) (hy : 0 < y) : Fglidepathbase_Floor [.int .i64 x, .int .i64 y] = some (x / y) := by
  refine Fglidepathbase_Floor_of _ _ ?_
  unfold tglidepathbase_Floor
  have h1 : 0 ≤ x.tmod y := Int.tmod_nonneg y hx.1
  have h2 : x.tdiv y = x / y := Int.tdiv_eq_ediv_of_nonneg hx.1
  have h3 : 0 ≤ x / y := Int.ediv_nonneg hx.1 (by omega)
  have h4 : x / y ≤ x := Int.ediv_le_self y hx.1
  rw [bif_pos (by omega), bif_pos (by omega), bif_neg (by omega), h2, w64_in (by omega)]

/-- What the reference's loop comes to, from a place on. -/
theorem unsafe_loop {l : List Sht} (ho : Oks l) (hl : l.length ≤ 100) {w en : Int} (hw : 1 ≤ w ∧ w ≤ 1000000) (he : 0 ≤ en ∧ en ≤ 1000000000000) : ∀ k, k ≤ (refT w l).length → 1 ≤ k → (∀ j < k, ∀ t, (refT w l)[j]? = some t → enr l w (t + 1) ≤ en) →
    ((∀ t ∈ refT w l, enr l w (t + 1) ≤ en) ∧ RrU_0 (TrU_0a l.length (encL3 l) (refT w l).length (encI (refT w l)) k w en) = exO (XrU_0b (w, en))) ∨
    ∃ a c s : Int, First l w en (a + 1) (c + 1) ∧ enr l w (a + 1) ≤ en ∧ enr l w (c + 1) - enr l w (a + 1) = (c - a) * s ∧ 0 < s ∧ RrU_0 (TrU_0a l.length (encL3 l) (refT w l).length (encI (refT w l)) k w en) = exO (XrU_0a (a + (en - enr l w (a + 1)) / s + 1)) := by
  obtain ⟨hT, hlen⟩ := refT_ok hw ho
  have hbd := refT_bd hw ho
  have hmem := refT_mem w l
  obtain ⟨T, hTe⟩ : ∃ T, T = refT w l := ⟨_, rfl⟩
  rw [← hTe] at hT hlen hbd hmem ⊢
  clear hTe
  have hle : T.Pairwise (· ≤ ·) := hT.asc.imp fun h => Int.le_of_lt h
  refine up_ind (P := fun k => 1 ≤ k → (∀ j < k, ∀ t, T[j]? = some t → enr l w (t + 1) ≤ en) →
    ((∀ t ∈ T, enr l w (t + 1) ≤ en) ∧ RrU_0 (TrU_0a l.length (encL3 l) T.length (encI T) k w en) = exO (XrU_0b (w, en))) ∨
    ∃ a c s : Int, First l w en (a + 1) (c + 1) ∧ enr l w (a + 1) ≤ en ∧ enr l w (c + 1) - enr l w (a + 1) = (c - a) * s ∧ 0 < s ∧ RrU_0 (TrU_0a l.length (encL3 l) T.length (encI T) k w en) = exO (XrU_0a (a + (en - enr l w (a + 1)) / s + 1))) _ ?_ ?_
  · intro _ hall
    left
    refine ⟨fun t ht => ?_, ?_⟩
    · obtain ⟨j, hj⟩ := List.mem_iff_getElem?.1 ht
      exact hall j (List.getElem?_eq_some_iff.1 hj).1 t hj
    · refine RrU_0a_of _ _ _ _ _ _ _ ?_
      unfold BrU_0a
      rw [bif_neg (by omega)]
      rfl
  · intro k hk ih h1 hall
    obtain ⟨c, hc, _⟩ := get_drop hk
    obtain ⟨a, ha, _⟩ := get_drop (l := T) (i := k - 1) (by omega)
    have hA := hall (k - 1) (by omega) a ha
    have ba := hbd a (List.mem_of_getElem? ha)
    have bc := hbd c (List.mem_of_getElem? hc)
    have hac : a < c := by
      obtain ⟨q1, q2⟩ := List.getElem?_eq_some_iff.1 ha
      obtain ⟨q3, q4⟩ := List.getElem?_eq_some_iff.1 hc
      have := List.pairwise_iff_getElem.1 hT.asc (k - 1) k q1 q3 (by omega)
      rw [q2, q4] at this
      exact this
    have ea := refEnergy_is ho (by omega) hw (e := a) ⟨by omega, by omega⟩
    have ec := refEnergy_is ho (by omega) hw (e := c) ⟨by omega, by omega⟩
    have w1 : w64 ((k : Int) - 1) = ((k - 1 : Nat) : Int) := by rw [w64_in (by omega)]; omega
    have wk : w64 ((k : Int) + 1) = ((k + 1 : Nat) : Int) := by rw [w64_in (by omega)]; omega
    have hb1 : (decide (((0 : Int) ≤ ((k - 1 : Nat) : Int)) ∧ (((k - 1 : Nat) : Int) < (T.length : Int)))) = true := decide_eq_true ⟨by omega, by omega⟩
    have hb2 : (decide (((0 : Int) ≤ (k : Int)) ∧ ((k : Int) < (T.length : Int)))) = true := decide_eq_true ⟨by omega, by omega⟩
    by_cases hgo : enr l w (c + 1) ≤ en
    · have hstep : ∀ r, RrU_0 (TrU_0a l.length (encL3 l) T.length (encI T) (k + 1 : Nat) w en) = some r → RrU_0 (TrU_0a l.length (encL3 l) T.length (encI T) k w en) = some r := by
        intro r hr
        refine RrU_0a_of _ _ _ _ _ _ _ ?_
        unfold BrU_0a
        rw [bif_pos (by omega)]
        simp only [w1, hb1, hb2, cond_true, Int.toNat_natCast, Nat.mul_one, encI_get, ha, hc, Option.map_some, intC_int, bindO_val, ea, ec, wk]
        rw [bif_pos hgo]
        exact hr
      rcases ih (by omega) (fun j hj t ht => by
        rcases Nat.lt_or_ge j k with h | h
        · exact hall j h t ht
        · obtain rfl : j = k := by omega
          rw [hc] at ht
          simp only [Option.some.injEq] at ht
          subst ht
          exact hgo) with ⟨g1, g2⟩ | ⟨a', c', s, g1, g2, g3, g4, g5⟩
      · exact .inl ⟨g1, hstep _ g2⟩
      · exact .inr ⟨a', c', s, g1, g2, g3, g4, hstep _ g5⟩
    · right
      have before : ∀ p ∈ ptL w l, p < c + 1 → p ≤ a + 1 ∧ enr l w p ≤ en := fun p hp hlt => by
        have hm : p - 1 ∈ T := (hmem (p - 1)).2 (.inr (by rw [show p - 1 + 1 = p by omega]; exact hp))
        obtain ⟨j, hj⟩ := List.mem_iff_getElem?.1 hm
        have hjk : j < k := by
          rcases Nat.lt_or_ge j k with h | h
          · exact h
          · have := asc_at hle h hc hj; omega
        have g1 := asc_at hle (show j ≤ k - 1 by omega) hj ha
        have g2 := hall j hjk _ hj
        rw [show p - 1 + 1 = p by omega] at g2
        exact ⟨by omega, g2⟩
      have hf : First l w en (a + 1) (c + 1) := by
        refine ⟨?_, by omega, fun p hp hlt => (before p hp hlt).2, by omega, ?_, fun p hp hlt => (before p hp hlt).1, by omega⟩
        · rcases (hmem c).1 (List.mem_of_getElem? hc) with h | h
          · exfalso
            apply hgo
            rw [h, enr_zero ho w (by omega)]
            exact he.1
          · exact h
        · rcases (hmem a).1 (List.mem_of_getElem? ha) with h | h
          · left; omega
          · exact .inr h
      obtain ⟨r, s, _, _, _, g3, g4, g5, _, _⟩ := unsafe_at ho hw.1 hA hf
      rw [show c + 1 - (a + 1) = c - a by omega] at g3
      refine ⟨a, c, s, hf, hA, g3, g4, ?_⟩
      have na := enr_nn ho w (a + 1)
      have nc := enr_nn ho w (c + 1)
      have la := enr_le ho w (a + 1)
      have lc := enr_le ho w (c + 1)
      have v1 : w64 (c - a) = c - a := w64_in (by omega)
      have v2 : w64 (enr l w (c + 1) - enr l w (a + 1)) = (c - a) * s := by rw [w64_in (by omega), g3]
      have v3 : ((c - a) * s).tdiv (c - a) = s := Int.mul_tdiv_cancel_left s (by omega)
      have hs : s ≤ (c - a) * s := by
        have := Int.mul_le_mul_of_nonneg_right (show 1 ≤ c - a by omega) (show 0 ≤ s by omega)
        rw [Int.one_mul] at this
        exact this
      have v4 : w64 s = s := w64_in (by omega)
      have v5 : w64 (en - enr l w (a + 1)) = en - enr l w (a + 1) := w64_in (by omega)
      have hfl := floor_is (x := en - enr l w (a + 1)) (y := s) ⟨by omega, by omega⟩ g4
      have d0 : 0 ≤ (en - enr l w (a + 1)) / s := Int.ediv_nonneg (by omega) (by omega)
      have d1 : (en - enr l w (a + 1)) / s ≤ en - enr l w (a + 1) := Int.ediv_le_self _ (by omega)
      have v6 : w64 (a + (en - enr l w (a + 1)) / s) = a + (en - enr l w (a + 1)) / s := w64_in (by omega)
      have v7 : w64 (a + (en - enr l w (a + 1)) / s + 1) = a + (en - enr l w (a + 1)) / s + 1 := w64_in (by omega)
      refine RrU_0a_of _ _ _ _ _ _ _ ?_
      unfold BrU_0a
      rw [bif_pos (by omega)]
      simp only [w1, hb1, hb2, cond_true, Int.toNat_natCast, Nat.mul_one, encI_get, ha, hc, Option.map_some, intC_int, bindO_val, ea, ec]
      rw [bif_neg (by omega), v1, bif_pos (by omega), v2, v3, v4, v5]
      simp only [hfl, bindO_val, v6, v7]
      rfl
theorem refUnsafe_is {l : List Sht} (ho : Oks l) (hl : l.length ≤ 100) {w en : Int} (hw : 1 ≤ w ∧ w ≤ 1000000) (he : 0 ≤ en ∧ en ≤ 1000000000000) :
    ((∀ p ∈ ptL w l, enr l w p ≤ en) ∧ FrU [.list l.length (encL3 l), .agg [.int .i64 w, .int .i64 en]] = some (0, false)) ∨
    ∃ a c s : Int, First l w en a c ∧ enr l w a ≤ en ∧ enr l w c - enr l w a = (c - a) * s ∧ 0 < s ∧ FrU [.list l.length (encL3 l), .agg [.int .i64 w, .int .i64 en]] = some (a + (en - enr l w a) / s, true) := by
  obtain ⟨hT, hlen⟩ := refT_ok hw ho
  obtain ⟨q, hq⟩ := hT.hd
  have h1 : 1 ≤ (refT w l).length := by rw [hq]; simp
  have h0 : ∀ j < 1, ∀ t, (refT w l)[j]? = some t → enr l w (t + 1) ≤ en := fun j hj t ht => by
    obtain rfl : j = 0 := by omega
    rw [hq] at ht
    simp only [List.getElem?_cons_zero, Option.some.injEq] at ht
    subst ht
    rw [enr_zero ho w (by omega)]
    exact he.1
  rcases unsafe_loop ho hl hw he 1 h1 (Nat.le_refl _) h0 with ⟨g1, g2⟩ | ⟨a, c, s, g1, g2, g3, g4, g5⟩
  · left
    refine ⟨fun p hp => ?_, ?_⟩
    · have := g1 (p - 1) ((refT_mem w l _).2 (.inr (by rw [show p - 1 + 1 = p by omega]; exact hp)))
      rw [show p - 1 + 1 = p by omega] at this
      exact this
    · refine FrU_of _ _ _ _ ?_
      unfold trU
      have hL := LrU_0b_of g2
      have hL : LrU_0 (TrU_0a l.length (encL3 l) (refT w l).length (encI (refT w l)) 1 w en) = _ := hL
      simp only [refTurns_is ho hl hw, bindO_val, hL, Sum.elim_inr]
  · right
    refine ⟨a + 1, c + 1, s, g1, g2, by rw [g3]; congr 1; omega, g4, ?_⟩
    refine FrU_of _ _ _ _ ?_
    unfold trU
    have hL := LrU_0a_of g5
    have hL : LrU_0 (TrU_0a l.length (encL3 l) (refT w l).length (encI (refT w l)) 1 w en) = _ := hL
    simp only [refTurns_is ho hl hw, bindO_val, hL, Sum.elim_inl]
    rw [show a + (en - enr l w (a + 1)) / s + 1 = a + 1 + (en - enr l w (a + 1)) / s by omega]

theorem fstI_congr {P R : Int → Bool} : ∀ {ts : List Int} (_ : ∀ t ∈ ts, P t = R t) (k : Int), fstI P ts k = fstI R ts k
  | [], _, _ => rfl
  | t :: r, h, k => by
    unfold fstI
    rw [h t List.mem_cons_self, fstI_congr fun x hx => h x (List.mem_cons_of_mem _ hx)]
theorem srchI_congr {P R : Int → Bool} : ∀ (f : Nat) (i j : Int), (∀ x, i ≤ x → x < j → P x = R x) → srchI P f i j = srchI R f i j
  | 0, _, _, _ => rfl
  | f + 1, i, j, h => by
    unfold srchI
    by_cases hl : i < j
    · rw [if_pos hl, if_pos hl]
      have hb : i ≤ (i + j) / 2 ∧ (i + j) / 2 < j := by omega
      generalize (i + j) / 2 = k at hb ⊢
      rw [h k hb.1 hb.2, srchI_congr f i k fun x h1 h2 => h x h1 (by omega), srchI_congr f (k + 1) j fun x h1 h2 => h x (by omega) h2]
    · rw [if_neg hl, if_neg hl]
/-- Where the program finds it not safe. -/
theorem eyeV_is {l : List Sht} (ho : Oks l) (hl : l.length ≤ 100) {w en : Int} (hw : 1 ≤ w ∧ w ≤ 1000000) (he : 0 ≤ en ∧ en ≤ 1000000000000) (hz : eyeE l w en = 0) :
    ((∀ p ∈ ptL w l, enr l w p ≤ en) ∧ eyeV l w en = (0, 12)) ∨
    ∃ a c : Int, First l w en a c ∧ enr l w a ≤ en ∧ eyeC l w en - eyeA l w en ≤ 100000000 ∧ eyeV l w en = (a + srchI (fun n => decide (enr l w (a + n + 1) > en)) (c - a).toNat 0 (c - a), 0) := by
  have eT : eyeT l w = isort (ptL w l) := by unfold eyeT; rw [trnL_eq hw ho]
  have hm : ∀ t, t ∈ isort (ptL w l) ↔ t ∈ ptL w l := fun t => (isort_perm _).mem_iff
  have eP : fstI (unB l w en) (isort (ptL w l)) 0 = fstI (fun t => decide (enr l w t > en)) (isort (ptL w l)) 0 := fstI_congr (fun t ht => by
    have := ptL_bd ho hw t ((hm t).1 ht)
    exact unB_is ho (by omega) hw ⟨by omega, by omega⟩ en) 0
  rcases first_of ho hw.1 he.1 (isort_asc (ptL w l)) hm with ⟨h1, h2⟩ | ⟨m, a, c, h1, h2, h3, h4⟩
  · left
    refine ⟨h2, ?_⟩
    unfold eyeV
    rw [if_neg (by rw [hz]; simp), eT, eP, if_pos h1]
  · right
    have ha : eyeA l w en = a := by
      unfold eyeA
      rw [eT, eP, h1, show ((m : Int) + 1 - 1).toNat = m by omega, List.getD, h2]
      rfl
    have hc : eyeC l w en = c := by
      unfold eyeC
      rw [eT, eP, h1, show ((m : Int) + 1).toNat = m + 1 by omega, List.getD, h3]
      rfl
    have ma := ptL_bd ho hw a ((hm a).1 (List.mem_iff_getElem?.2 ⟨_, h2⟩))
    have mc := ptL_bd ho hw c h4.mem
    have hlt := h4.lt
    have hle : enr l w a ≤ en := h4.low a ((hm a).1 (List.mem_iff_getElem?.2 ⟨_, h2⟩)) hlt
    refine ⟨a, c, h4, hle, by rw [ha, hc]; omega, ?_⟩
    unfold eyeV
    rw [if_neg (by rw [hz]; simp), eT, eP, if_neg (by rw [h1]; omega), ha, hc, wrap_in (n := c - a) (by omega)]
    have hs : srchI (fun n => unB l w en (RowKit.wrap64 (RowKit.wrap64 (a + n) + 1))) (c - a).toNat 0 (c - a) = srchI (fun n => decide (enr l w (a + n + 1) > en)) (c - a).toNat 0 (c - a) := srchI_congr _ _ _ fun x h1 h2 => by
      rw [wrap_in (n := a + x) (by omega), wrap_in (n := a + x + 1) (by omega)]
      exact unB_is ho (by omega) hw ⟨by omega, by omega⟩ en
    rw [hs]
    obtain ⟨r, _, e, g1, g2, _⟩ := unsafe_at ho hw.1 hle h4
    rw [e, wrap_in (n := a + r) (by omega)]
end Gv
