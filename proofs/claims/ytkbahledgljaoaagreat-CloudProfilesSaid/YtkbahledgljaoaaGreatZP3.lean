/- CloudProfiles: whatever the numbers, the constant and the points, the law answers true. -/
import Derived.Test.YtkbahledgljaoaaGreatZP2
import Derived.Test.YtkbahledgljaoaaGreatZC4
import Derived.Test.YtkbahledgljaoaaGreatA0
namespace Gv
open Go
set_option maxRecDepth 100000

theorem refProf_loop (l : List Int) (hl : l.length < 4294967296) : ∀ i, i ≤ l.length →
    Rglidepathref08_CheckProfile_0 (Tglidepathref08_CheckProfile_0a l.length (encI l) i) = (match findE (fun x => rangeE x 0 10000) (l.drop i) i with | some q => exO (Xglidepathref08_CheckProfile_0a q.1) | none => exO (Xglidepathref08_CheckProfile_0b ())) := by
  refine up_ind _ ?_ ?_
  · rw [List.drop_length]
    show _ = exO (Xglidepathref08_CheckProfile_0b ())
    refine Rglidepathref08_CheckProfile_0a_of _ _ _ ?_
    unfold Bglidepathref08_CheckProfile_0a
    rw [bif_neg (by omega)]
    rfl
  · intro i hi ih
    obtain ⟨x, hx, hd⟩ := get_drop hi
    rw [hd]
    have wk : w64 ((i : Int) + 1) = ((i + 1 : Nat) : Int) := by rw [w64_in (by omega)]; omega
    by_cases he : 0 ≤ x ∧ x ≤ 10000
    · have e0 := rangeE_in he
      simp only [findE, e0, ne_eq, not_true_eq_false, if_false]
      have step : ∀ r, Rglidepathref08_CheckProfile_0 (Tglidepathref08_CheckProfile_0a l.length (encI l) (i + 1 : Nat)) = some r → Rglidepathref08_CheckProfile_0 (Tglidepathref08_CheckProfile_0a l.length (encI l) i) = some r := by
        intro r hr
        refine Rglidepathref08_CheckProfile_0a_of _ _ _ ?_
        unfold Bglidepathref08_CheckProfile_0a
        rw [bif_pos (by omega), bif_pos (by omega)]
        simp only [Int.toNat_natCast, Nat.mul_one, encI_get, hx, Option.map_some, intC_int, bindO_val, within_is, wk]
        rw [bif_pos he]
        exact hr
      cases hf : findE (fun x => rangeE x 0 10000) (l.drop (i + 1)) (i + 1) with
      | none => rw [hf] at ih; exact step _ ih
      | some q => rw [hf] at ih; exact step _ ih
    · have e0 := rangeE_out he
      simp only [findE, e0]
      rw [if_pos (by decide)]
      show _ = exO (Xglidepathref08_CheckProfile_0a (i : Int))
      refine Rglidepathref08_CheckProfile_0a_of _ _ _ ?_
      unfold Bglidepathref08_CheckProfile_0a
      rw [bif_pos (by omega), bif_pos (by omega)]
      simp only [Int.toNat_natCast, Nat.mul_one, encI_get, hx, Option.map_some, intC_int, bindO_val, within_is]
      rw [bif_neg he]
      rfl
theorem refProf_is (l : List Int) (hl : l.length < 4294967296) : Fglidepathref08_CheckProfile [.list l.length (encI l)] = some (listIE 24 0 10000 l) := by
  refine Fglidepathref08_CheckProfile_of _ _ ?_
  unfold tglidepathref08_CheckProfile listIE
  simp only [bif_eq, bif_dec]
  by_cases h1 : l.length = 0
  · simp [h1]
  · rw [if_neg (by omega), if_neg h1]
    by_cases h2 : (24 : Int) < l.length
    · rw [if_pos (by omega), if_pos h2]
    · rw [if_neg (by omega), if_neg h2]
      have hq := refProf_loop l hl 0 (by omega)
      rw [List.drop_zero] at hq
      cases hf : findE (fun x => rangeE x 0 10000) l 0 with
      | none =>
        rw [hf] at hq
        have := Lglidepathref08_CheckProfile_0b_of (y := ()) hq
        have this : Lglidepathref08_CheckProfile_0 (Tglidepathref08_CheckProfile_0a l.length (encI l) 0) = _ := this
        rw [this]
        rfl
      | some q =>
        rw [hf] at hq
        have h2 := findE_rng 0 10000 hf
        have := Lglidepathref08_CheckProfile_0a_of (y := q.1) hq
        have this : Lglidepathref08_CheckProfile_0 (Tglidepathref08_CheckProfile_0a l.length (encI l) 0) = _ := this
        rw [this]
        show some (q.1, (2 : Int)) = some q
        rw [← h2]
theorem refConstant_is (c : Int) : Fglidepathref08_ConstantErr [.int .i64 c] = some (rangeE c 1 1000000) := by
  refine Fglidepathref08_ConstantErr_of _ ?_
  unfold tglidepathref08_ConstantErr
  simp only [within_is, bindO_val]
  by_cases h : 1 ≤ c ∧ c ≤ 1000000
  · rw [bif_pos h, rangeE_in h]
  · rw [bif_neg h, rangeE_out h]

theorem refRest_loop (l : List Int) (hl : l.length ≤ 1000) (hv : okP l) (c : Int) (hc : -100000000 ≤ c ∧ c ≤ 100000000) (n : Nat) (hn : n ≤ l.length) : ∀ i, i ≤ n →
    Rglidepathref08_Rest_0 (Tglidepathref08_Rest_0a l.length (encI l) (restL l c i) n i) = exO (Xglidepathref08_Rest_0a (restL l c n)) := by
  refine up_ind _ ?_ ?_
  · refine Rglidepathref08_Rest_0a_of _ _ _ _ _ ?_
    unfold Bglidepathref08_Rest_0a
    rw [bif_neg (by omega)]
    rfl
  · intro i hi ih
    obtain ⟨x, hx, hd⟩ := get_drop (l := l) (i := i) (by omega)
    have hb := restL_bd hl hv hc (i + 1)
    have hs := restL_succ c hx
    have wk : w64 ((i : Int) + 1) = ((i + 1 : Nat) : Int) := by rw [w64_in (by omega)]; omega
    have wr : w64 (restL l c i - x) = restL l c (i + 1) := by rw [w64_in (by omega), hs]
    refine Rglidepathref08_Rest_0a_of _ _ _ _ _ ?_
    unfold Bglidepathref08_Rest_0a
    rw [bif_pos (by omega), bif_pos (by omega)]
    simp only [Int.toNat_natCast, Nat.mul_one, encI_get, hx, Option.map_some, intC_int, bindO_val, wk, wr]
    exact ih
theorem refRest_is {l : List Int} (hl : l.length ≤ 1000) (hv : okP l) {c : Int} (hc : -100000000 ≤ c ∧ c ≤ 100000000) {n : Nat} (hn : n ≤ l.length) :
    Fglidepathref08_Rest [.list l.length (encI l), .int .i64 c, .int .i64 n] = some (restL l c n) := by
  refine Fglidepathref08_Rest_of _ _ _ _ ?_
  unfold tglidepathref08_Rest
  have hq := refRest_loop l hl hv c hc n hn 0 (by omega)
  rw [restL_zero] at hq
  have hL := Lglidepathref08_Rest_0a_of hq
  have hL : Lglidepathref08_Rest_0 (Tglidepathref08_Rest_0a l.length (encI l) c n 0) = _ := hL
  simp only [hL, bindO_val]

theorem refBreak_loop (l : List Int) (hl : l.length ≤ 1000) (hv : okP l) (c : Int) (hc : -100000000 ≤ c ∧ c ≤ 100000000) : ∀ i, i ≤ l.length → i < l.length →
    Rglidepathref08_BreakErr_0 (Tglidepathref08_BreakErr_0a l.length (encI l) c i) = if restL l c (l.length - 1) ≤ 0 then exO (Xglidepathref08_BreakErr_0a ()) else exO (Xglidepathref08_BreakErr_0b (l.length, encI l, c)) := by
  refine up_ind (P := fun i => i < l.length → Rglidepathref08_BreakErr_0 (Tglidepathref08_BreakErr_0a l.length (encI l) c i) = if restL l c (l.length - 1) ≤ 0 then exO (Xglidepathref08_BreakErr_0a ()) else exO (Xglidepathref08_BreakErr_0b (l.length, encI l, c))) _ ?_ ?_
  · intro h
    omega
  · intro i hi ih _
    have wk : w64 ((i : Int) + 1) = ((i + 1 : Nat) : Int) := by rw [w64_in (by omega)]; omega
    have hr := refRest_is hl hv hc (n := i) (by omega)
    have hbody : Bglidepathref08_BreakErr_0a (Fn env) Rglidepathref08_BreakErr_0 exO Lglidepathref08_BreakErr_0 l.length (encI l) c i =
        (if restL l c i ≤ 0 then exO (Xglidepathref08_BreakErr_0a ()) else Rglidepathref08_BreakErr_0 (Tglidepathref08_BreakErr_0a l.length (encI l) c (i + 1 : Nat))) := by
      unfold Bglidepathref08_BreakErr_0a
      rw [bif_pos (by omega)]
      simp only [hr, bindO_val, wk, bif_dec]
    have hle := restL_le hv c (l.length - 1 - i) i (by omega)
    rw [show i + (l.length - 1 - i) = l.length - 1 by omega] at hle
    by_cases h : restL l c i ≤ 0
    · rw [if_pos h] at hbody
      rw [if_pos (by omega)]
      exact Rglidepathref08_BreakErr_0a_of _ _ _ _ hbody
    · rw [if_neg h] at hbody
      by_cases hn : i + 1 < l.length
      · have := ih hn
        by_cases h2 : restL l c (l.length - 1) ≤ 0
        · rw [if_pos h2] at this ⊢
          exact Rglidepathref08_BreakErr_0a_of _ _ _ _ (hbody.trans this)
        · rw [if_neg h2] at this ⊢
          exact Rglidepathref08_BreakErr_0a_of _ _ _ _ (hbody.trans this)
      · have hi1 : i = l.length - 1 := by omega
        rw [← hi1, if_neg h]
        refine Rglidepathref08_BreakErr_0a_of _ _ _ _ (hbody.trans ?_)
        refine Rglidepathref08_BreakErr_0a_of _ _ _ _ ?_
        unfold Bglidepathref08_BreakErr_0a
        rw [bif_neg (by omega)]
        rfl
theorem refBreak_is {l : List Int} (h1 : 1 ≤ l.length) (hl : l.length ≤ 1000) (hv : okP l) {c : Int} (hc : -100000000 ≤ c ∧ c ≤ 100000000) :
    Fglidepathref08_BreakErr [.list l.length (encI l), .int .i64 c] = some (brkE l c) := by
  refine Fglidepathref08_BreakErr_of _ _ _ ?_
  unfold tglidepathref08_BreakErr
  have hq := refBreak_loop l hl hv c hc 0 (by omega) (by omega)
  have e : restL l c l.length = c - l.sum := by unfold restL; rw [List.take_length]
  have b := restL_le hv c 1 (l.length - 1) (by omega)
  rw [show l.length - 1 + 1 = l.length by omega] at b
  unfold brkE
  by_cases h : restL l c (l.length - 1) ≤ 0
  · rw [if_pos h] at hq
    have hL := Lglidepathref08_BreakErr_0a_of (y := ()) hq
    have hL : Lglidepathref08_BreakErr_0 (Tglidepathref08_BreakErr_0a l.length (encI l) c 0) = _ := hL
    simp only [hL, bindO_val, Sum.elim_inl]
    by_cases h2 : l.sum > c
    · rw [if_pos h2]
    · rw [if_neg h2, if_pos (by omega)]
  · rw [if_neg h] at hq
    have hL := Lglidepathref08_BreakErr_0b_of hq
    have hL : Lglidepathref08_BreakErr_0 (Tglidepathref08_BreakErr_0a l.length (encI l) c 0) = _ := hL
    have hr := refRest_is hl hv hc (n := l.length) (Nat.le_refl _)
    simp only [hL, bindO_val, Sum.elim_inr, hr, bif_dec]
    by_cases h2 : l.sum > c
    · rw [if_pos h2, if_pos (by omega)]
    · rw [if_neg h2, if_neg (by omega), if_neg (by omega)]

theorem refShares_loop (l : List Int) (hl : l.length ≤ 1000) (hv : okP l) (c : Int) (hc : -100000000 ≤ c ∧ c ≤ 100000000) (h : brkE l c = 0) : ∀ i, i ≤ l.length →
    Rglidepathref08_Shares_0 (Tglidepathref08_Shares_0b l.length (encI l) c i (encG ((List.range i).map (shr l c))) i i) = exO (Xglidepathref08_Shares_0b (l.length, encG (shrL l c), l.length)) := by
  refine up_ind _ ?_ ?_
  · refine Rglidepathref08_Shares_0b_of _ _ _ _ _ _ _ ?_
    unfold Bglidepathref08_Shares_0b
    rw [bif_neg (by omega)]
    rfl
  · intro i hi ih
    obtain ⟨x, hx, hd⟩ := get_drop hi
    have wk : w64 ((i : Int) + 1) = ((i + 1 : Nat) : Int) := by rw [w64_in (by omega)]; omega
    have hr := refRest_is hl hv hc (n := i) (by omega)
    have hs := (share_is hl hv hc h hx).2
    have e : encG ((List.range i).map (shr l c)) ++ [PV.int .i64 (shr l c i).1, .int .i64 (shr l c i).2] = encG ((List.range (i + 1)).map (shr l c)) := by
      rw [List.range_succ, List.map_append]
      simp [encG, enc2]
    refine Rglidepathref08_Shares_0b_of _ _ _ _ _ _ _ ?_
    unfold Bglidepathref08_Shares_0b
    rw [bif_pos (by omega), bif_pos (by omega)]
    simp only [Int.toNat_natCast, Nat.mul_one, encI_get, hx, Option.map_some, intC_int, bindO_val, hr, hs, wk]
    rw [bif_pos (by unfold big; first | exact ⟨rfl, by omega⟩ | exact ⟨trivial, by omega⟩), e]
    exact ih
theorem refShares_is {l : List Int} (h1 : 1 ≤ l.length) (hl : l.length ≤ 1000) (hv : okP l) {c : Int} (hc : -100000000 ≤ c ∧ c ≤ 100000000) (h : brkE l c = 0) :
    Fglidepathref08_Shares [.list l.length (encI l), .int .i64 c] = some (l.length, encG (shrL l c)) := by
  refine Fglidepathref08_Shares_of _ _ _ ?_
  unfold tglidepathref08_Shares
  obtain ⟨x, hx, hd⟩ := get_drop (l := l) (i := 0) (by omega)
  have hr := refRest_is hl hv hc (n := 0) (by omega)
  have hr : Fglidepathref08_Rest [.list l.length (encI l), .int .i64 c, .int .i64 (0 : Int)] = _ := hr
  have hs := (share_is hl hv hc h hx).2
  have hR : Rglidepathref08_Shares_0 (Tglidepathref08_Shares_0a l.length (encI l) c) = exO (Xglidepathref08_Shares_0b (l.length, encG (shrL l c), l.length)) := by
    refine Rglidepathref08_Shares_0a_of _ _ _ ?_
    unfold Bglidepathref08_Shares_0a
    rw [bif_pos (by omega), bif_pos (by omega)]
    simp only [encI_get, hx, Option.map_some, intC_int, bindO_val, hr, hs]
    exact refShares_loop l hl hv c hc h 1 h1
  have hL := Lglidepathref08_Shares_0b_of hR
  simp only [hL, bindO_val, Sum.elim_inr]
  rw [bif_pos (by first | exact rfl | exact trivial)]

theorem fracs_loop (l : List ZZ) (hl : l.length ≤ 1000) : ∀ i, i ≤ l.length →
    Rglidepathbase_Fracs_0 (Tglidepathbase_Fracs_0a l.length (encG l) l.length (encG l) i) = exO (Xglidepathbase_Fracs_0b ()) := by
  refine up_ind _ ?_ ?_
  · refine Rglidepathbase_Fracs_0a_of _ _ _ _ _ ?_
    unfold Bglidepathbase_Fracs_0a
    rw [bif_neg (by omega)]
    rfl
  · intro i hi ih
    obtain ⟨z, hz, hd⟩ := get_drop hi
    have wk : w64 ((i : Int) + 1) = ((i + 1 : Nat) : Int) := by rw [w64_in (by omega)]; omega
    have hb1 : (decide (((0 : Int) ≤ (i : Int)) ∧ ((i : Int) < (l.length : Int)))) = true := decide_eq_true ⟨by omega, by omega⟩
    refine Rglidepathbase_Fracs_0a_of _ _ _ _ _ ?_
    unfold Bglidepathbase_Fracs_0a
    rw [bif_pos (by omega)]
    simp only [hb1, cond_true, Int.toNat_natCast, gG0 hz, gG1 hz, intC_int, bindO_val, wk, beq_self_eq_true, Bool.and_true, Bool.not_true, cond_false]
    exact ih
theorem fracs_is (l : List ZZ) (hl : l.length ≤ 1000) : Fglidepathbase_Fracs [.list l.length (encG l), .list l.length (encG l)] = some true := by
  refine Fglidepathbase_Fracs_of _ _ _ _ ?_
  unfold tglidepathbase_Fracs
  have hq := fracs_loop l hl 0 (by omega)
  have hL := Lglidepathbase_Fracs_0b_of (y := ()) hq
  have hL : Lglidepathbase_Fracs_0 (Tglidepathbase_Fracs_0a l.length (encG l) l.length (encG l) 0) = _ := hL
  simp only [bne_self_eq_false, cond_false, hL, bindO_val, Sum.elim_inr]

theorem ptE_two (z : ZZ) : ptE z = if (1 ≤ z.1 ∧ z.1 ≤ 1000000) ∧ 0 ≤ z.2 ∧ z.2 ≤ 1000000 then 0 else 2 := by
  unfold ptE both
  by_cases h1 : 1 ≤ z.1 ∧ z.1 ≤ 1000000
  · rw [rangeE_in h1, if_neg (c := (0 : Int) ≠ 0) (by simp)]
    by_cases h2 : 0 ≤ z.2 ∧ z.2 ≤ 1000000
    · rw [rangeE_in h2, if_pos ⟨h1, h2⟩]
    · rw [rangeE_out h2, if_neg fun h => h2 h.2]
  · rw [rangeE_out h1, if_pos (by decide), if_neg fun h => h1 h.1]
theorem findE_pt {l : List ZZ} {i : Nat} {p : Int × Int} (h : findE ptE l i = some p) : p.2 = 2 := by
  obtain ⟨h1, z, _, h3⟩ := findE_some h
  rw [ptE_two] at h3
  split at h3
  · exact absurd h3.symm h1
  · exact h3.symm
theorem refPoints_loop (l : List ZZ) (hl : l.length < 4294967296) : ∀ i, i ≤ l.length →
    Rglidepathref08_PointsErr_0 (Tglidepathref08_PointsErr_0a l.length (encG l) i) = (match findE ptE (l.drop i) i with | some _ => exO (Xglidepathref08_PointsErr_0a ()) | none => exO (Xglidepathref08_PointsErr_0b ())) := by
  refine up_ind _ ?_ ?_
  · rw [List.drop_length]
    show _ = exO (Xglidepathref08_PointsErr_0b ())
    refine Rglidepathref08_PointsErr_0a_of _ _ _ ?_
    unfold Bglidepathref08_PointsErr_0a
    rw [bif_neg (by omega)]
    rfl
  · intro i hi ih
    obtain ⟨z, hz, hd⟩ := get_drop hi
    rw [hd]
    have wk : w64 ((i : Int) + 1) = ((i + 1 : Nat) : Int) := by rw [w64_in (by omega)]; omega
    have hb1 : (decide (((0 : Int) ≤ (i : Int)) ∧ ((i : Int) < (l.length : Int)))) = true := decide_eq_true ⟨by omega, by omega⟩
    have hbody : Bglidepathref08_PointsErr_0a (Fn env) Rglidepathref08_PointsErr_0 exO Lglidepathref08_PointsErr_0 l.length (encG l) i =
        (if ptE z = 0 then Rglidepathref08_PointsErr_0 (Tglidepathref08_PointsErr_0a l.length (encG l) (i + 1 : Nat)) else exO (Xglidepathref08_PointsErr_0a ())) := by
      unfold Bglidepathref08_PointsErr_0a
      rw [bif_pos (by omega)]
      simp only [hb1, cond_true, Int.toNat_natCast, Nat.add_zero, gG0 hz, gG1 hz, intC_int, bindO_val, within_is, wk, bif_dec]
      rw [ptE_two]
      by_cases h1 : 1 ≤ z.1 ∧ z.1 ≤ 1000000
      · rw [if_pos h1]
        by_cases h2 : 0 ≤ z.2 ∧ z.2 ≤ 1000000
        · rw [if_pos h2, if_pos (c := (1 ≤ z.1 ∧ z.1 ≤ 1000000) ∧ 0 ≤ z.2 ∧ z.2 ≤ 1000000) ⟨h1, h2⟩, if_pos rfl]
        · rw [if_neg h2, if_neg (c := (1 ≤ z.1 ∧ z.1 ≤ 1000000) ∧ 0 ≤ z.2 ∧ z.2 ≤ 1000000) fun h => h2 h.2, if_neg (by decide)]
      · rw [if_neg h1, if_neg (c := (1 ≤ z.1 ∧ z.1 ≤ 1000000) ∧ 0 ≤ z.2 ∧ z.2 ≤ 1000000) fun h => h1 h.1, if_neg (by decide)]
    unfold findE
    by_cases he : ptE z = 0
    · rw [if_pos he] at hbody
      rw [if_neg (c := ptE z ≠ 0) (by simp [he])]
      cases hf : findE ptE (l.drop (i + 1)) (i + 1) with
      | none => rw [hf] at ih; exact Rglidepathref08_PointsErr_0a_of _ _ _ (hbody.trans ih)
      | some q => rw [hf] at ih; exact Rglidepathref08_PointsErr_0a_of _ _ _ (hbody.trans ih)
    · rw [if_neg he] at hbody
      rw [if_pos (c := ptE z ≠ 0) he]
      exact Rglidepathref08_PointsErr_0a_of _ _ _ hbody
theorem refPoints_is (l : List ZZ) (hl : l.length < 4294967296) : Fglidepathref08_PointsErr [.list l.length (encG l)] = some (chkG l).2 := by
  refine Fglidepathref08_PointsErr_of _ _ ?_
  unfold tglidepathref08_PointsErr chkG
  simp only [bif_eq, bif_dec]
  by_cases h1 : l.length = 0
  · rw [if_pos (by omega), if_pos h1]
  · rw [if_neg (by omega), if_neg h1]
    by_cases h2 : 12 < l.length
    · rw [if_pos (by omega), if_pos h2]
    · rw [if_neg (by omega), if_neg h2]
      have hq := refPoints_loop l hl 0 (by omega)
      rw [List.drop_zero] at hq
      cases hf : findE ptE l 0 with
      | none =>
        rw [hf] at hq
        have := Lglidepathref08_PointsErr_0b_of (y := ()) hq
        have this : Lglidepathref08_PointsErr_0 (Tglidepathref08_PointsErr_0a l.length (encG l) 0) = _ := this
        simp only [this, bindO_val, Sum.elim_inr]
        rfl
      | some q =>
        rw [hf] at hq
        have h3 := findE_pt hf
        have := Lglidepathref08_PointsErr_0a_of (y := ()) hq
        have this : Lglidepathref08_PointsErr_0 (Tglidepathref08_PointsErr_0a l.length (encG l) 0) = _ := this
        simp only [this, bindO_val, Sum.elim_inl, Option.getD_some, h3]

theorem profilesLaw (l : List Int) (c : Int) (q : List ZZ) : Fglidepathlaw08_CloudProfiles [.list l.length (encI l), .int .i64 c, .list q.length (encG q)] = some true := by
  refine Fglidepathlaw08_CloudProfiles_of _ _ _ _ _ ?_
  unfold tglidepathlaw08_CloudProfiles
  simp only [awake_is, bindO_val, cond_true]
  by_cases hb : 26 < l.length ∨ 14 < q.length
  · have h54 : Lglidepathlaw08_CloudProfiles_1000054 (Tglidepathlaw08_CloudProfiles_1000054a l.length (encI l) c q.length (encG q)) = some (.inl ()) := by
      refine Lglidepathlaw08_CloudProfiles_1000054a_of (Rglidepathlaw08_CloudProfiles_1000054a_of _ _ _ _ _ ?_)
      unfold Bglidepathlaw08_CloudProfiles_1000054a
      simp only [few_is, bindO_val]
      by_cases h : 26 < l.length
      · rw [bif_neg (by omega)]
        rfl
      · rw [bif_pos (by omega), bif_pos (by omega)]
        rfl
    rw [h54]
    rfl
  · have h54 : Lglidepathlaw08_CloudProfiles_1000054 (Tglidepathlaw08_CloudProfiles_1000054a l.length (encI l) c q.length (encG q)) = some (.inr (l.length, encI l, c, q.length, encG q)) := by
      refine Lglidepathlaw08_CloudProfiles_1000054b_of (Rglidepathlaw08_CloudProfiles_1000054a_of _ _ _ _ _ ?_)
      unfold Bglidepathlaw08_CloudProfiles_1000054a
      simp only [few_is, bindO_val]
      rw [bif_pos (by omega), bif_neg (by omega)]
      rfl
    have hl : l.length ≤ 26 := by omega
    have c11 := copyI_is l (by omega)
    have c10 := checkProfile_is l (by omega)
    have c12 := undone_is l (by omega) c
    have c14 := copyP_is q (by omega)
    have c13 := constantOf_is q (by omega)
    have c15 := refProf_is l (by omega)
    have h39 : ∀ (n : Nat) (cs : List PV) (e f a b : Int), Lglidepathlaw08_CloudProfiles_1000039 (Tglidepathlaw08_CloudProfiles_1000039a l.length (encI l) c q.length (encG q) (listIE 24 0 10000 l).1 (listIE 24 0 10000 l).2 n cs e f (listIE 24 0 10000 l).1 (listIE 24 0 10000 l).2 a b) = some (.inr (l.length, encI l, c, q.length, encG q, n, cs, e, f, (listIE 24 0 10000 l).2, a, b)) := fun n cs e f a b => by
      refine Lglidepathlaw08_CloudProfiles_1000039b_of (Rglidepathlaw08_CloudProfiles_1000039a_of _ _ _ _ _ _ _ _ _ _ _ _ _ _ _ ?_)
      unfold Bglidepathlaw08_CloudProfiles_1000039a
      simp only [bne_self_eq_false, cond_false]
      rfl
    have hpe : (listIE 24 0 10000 l).2 = profE l := rfl
    simp only [hpe] at h39
    have h30 : ∀ (n : Nat) (cs : List PV) (e f a b : Int), Lglidepathlaw08_CloudProfiles_1000030 (Tglidepathlaw08_CloudProfiles_1000030a l.length (encI l) c q.length (encG q) n cs e f (both (profE l) (rangeE c 1 1000000)) a b) = some (l.length, encI l, c, q.length, encG q, n, cs, e, f, undE l c, a, b) := fun n cs e f a b => by
      refine Lglidepathlaw08_CloudProfiles_1000030a_of (Rglidepathlaw08_CloudProfiles_1000030a_of _ _ _ _ _ _ _ _ _ _ _ _ ?_)
      unfold Bglidepathlaw08_CloudProfiles_1000030a undE
      rw [bif_eq]
      by_cases h : both (profE l) (rangeE c 1 1000000) = 0
      · obtain ⟨ha, hbb⟩ := both_nil h
        obtain ⟨b1, b2, b3⟩ := prof_ok ha
        have hc := rangeE_ok hbb
        have hk := refBreak_is b1 (by omega) b3 (c := c) (by omega)
        rw [if_pos h, if_neg (c := both (profE l) (rangeE c 1 1000000) ≠ 0) (by simp [h])]
        simp only [hk, bindO_val]
        rfl
      · rw [if_neg h, if_pos (c := both (profE l) (rangeE c 1 1000000) ≠ 0) h]
        rfl
    have h26 : ∀ (f a b : Int), Lglidepathlaw08_CloudProfiles_1000026 (Tglidepathlaw08_CloudProfiles_1000026a l.length (encI l) c q.length (encG q) (undR l c).1.1 (undR l c).1.2 (undR l c).2 f (undE l c) a b) = some (.inr (q.length, encG q, f, a, b)) := fun f a b => by
      refine Lglidepathlaw08_CloudProfiles_1000026b_of (Rglidepathlaw08_CloudProfiles_1000026a_of _ _ _ _ _ _ _ _ _ _ _ _ ?_)
      unfold Bglidepathlaw08_CloudProfiles_1000026a undR
      simp only [bif_ne, bif_eq]
      by_cases h : undE l c = 0
      · have h2 : both (profE l) (rangeE c 1 1000000) = 0 := by
          unfold undE at h
          by_cases h3 : both (profE l) (rangeE c 1 1000000) = 0
          · exact h3
          · rw [if_pos h3] at h
            exact absurd h h3
        have hk : brkE l c = 0 := by
          unfold undE at h
          rw [if_neg (by simp [h2])] at h
          exact h
        obtain ⟨ha, hbb⟩ := both_nil h2
        obtain ⟨b1, b2, b3⟩ := prof_ok ha
        have hc := rangeE_ok hbb
        have c20 := refShares_is b1 (by omega) b3 (c := c) (by omega) hk
        have c19 := fracs_is (shrL l c) (by rw [shrL_len]; omega)
        rw [shrL_len] at c19
        rw [if_neg (c := undE l c ≠ 0) (by simp [h])]
        simp only [h, if_true, c20, bindO_val, c19, cond_true]
        rfl
      · rw [if_pos (c := undE l c ≠ 0) h]
        simp only [h, if_true, if_false]
        rfl
    have c21 := refPoints_is q (by omega)
    simp only [h54, bindO_val, Sum.elim_inr, c11, c10, c12, c14, c13, c15, h39, refConstant_is, both_is, hpe, h30, h26, c21]
    unfold conR
    by_cases h : (chkG q).2 = 0
    · have c22 := refConstants_is h
      rw [if_neg (c := (chkG q).2 ≠ 0) (by simp [h])]
      simp only [h, bne_self_eq_false, cond_false, c22, bindO_val]
      by_cases h2 : (conV q).1 > (conV q).2
      · rw [if_pos h2, if_pos h2]
        rfl
      · rw [if_neg h2, if_neg h2]
        simp
    · have hbb : ((chkG q).2 != 0) = true := by simp [h]
      rw [if_pos (c := (chkG q).2 ≠ 0) h]
      simp only [hbb, cond_true, beq_self_eq_true, Bool.and_true]
end Gv
