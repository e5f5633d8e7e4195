/- CloudPotentials: whatever the numbers, the penalty and the potentials, the law answers true. -/
import Derived.Test.YtkbahledgljaoaaCQ3
import Derived.Test.YtkbahledgljaoaaCQ7
import Derived.Test.YtkbahledgljaoaaA0
namespace Gv
open Go
set_option maxRecDepth 100000

theorem copyN_is (l : List Int) (hl : l.length ≤ 1000000) : Fglidepathbase_CopyInts [.list l.length (encI l)] = some (l.length, encI l) := by
  refine Fglidepathbase_CopyInts_of _ _ ?_
  unfold tglidepathbase_CopyInts
  by_cases h : l.length = 0
  · rw [bif_pos h]
    have := List.eq_nil_of_length_eq_zero h
    subst this
    rfl
  · rw [bif_neg h, bif_pos (by simp), bif_pos ⟨rfl, by unfold big; omega⟩, bif_pos rfl]
    simp

theorem potLaw_loop (l p r : List Int) (hl : l.length ≤ 1000) (hp : p.length = l.length + 1) (hr : r.length = l.length + 1) (k e : Int) : ∀ i, i ≤ p.length → (∀ q, diffE (p.drop i) (r.drop i) i = some q → (k, e) = q) →
    Rglidepathlaw08_CloudPotentials_0 (Tglidepathlaw08_CloudPotentials_0a l.length (encI l) p.length (encI p) k e (l.length + 1) (encI r) i) =
      (match diffE (p.drop i) (r.drop i) i with
      | some _ => exO (Xglidepathlaw08_CloudPotentials_0a true)
      | none => exO (Xglidepathlaw08_CloudPotentials_0b (l.length, encI l, k, e, l.length + 1, encI r))) := by
  refine up_ind _ ?_ ?_
  · intro _
    rw [List.drop_length]
    show _ = exO (Xglidepathlaw08_CloudPotentials_0b (l.length, encI l, k, e, l.length + 1, encI r))
    refine Rglidepathlaw08_CloudPotentials_0a_of _ _ _ _ _ _ _ _ _ ?_
    unfold Bglidepathlaw08_CloudPotentials_0a
    rw [bif_neg (by omega)]
    rfl
  · intro i hi ih hq
    obtain ⟨x, hx, hd⟩ := get_drop hi
    obtain ⟨y, hy, hd2⟩ := get_drop (l := r) (i := i) (by omega)
    rw [hd, hd2] at hq ⊢
    have wk : w64 ((i : Int) + 1) = ((i + 1 : Nat) : Int) := by rw [w64_in (by omega)]; omega
    have hb1 : (decide (((0 : Int) ≤ (i : Int)) ∧ ((i : Int) < (p.length : Int)))) = true := decide_eq_true ⟨by omega, by omega⟩
    have hb2 : (decide (((0 : Int) ≤ (i : Int)) ∧ ((i : Int) < ((l.length + 1 : Nat) : Int)))) = true := decide_eq_true ⟨by omega, by omega⟩
    have hbody : Bglidepathlaw08_CloudPotentials_0a (Fn env) Rglidepathlaw08_CloudPotentials_0 exO Lglidepathlaw08_CloudPotentials_0 Lglidepathlaw08_CloudPotentials_1000046 l.length (encI l) p.length (encI p) k e (l.length + 1) (encI r) i =
        (if x = y then Rglidepathlaw08_CloudPotentials_0 (Tglidepathlaw08_CloudPotentials_0a l.length (encI l) p.length (encI p) k e (l.length + 1) (encI r) (i + 1 : Nat)) else if e = 17 then if k = (i : Int) then exO (Xglidepathlaw08_CloudPotentials_0a true) else exO (Xglidepathlaw08_CloudPotentials_0a false) else exO (Xglidepathlaw08_CloudPotentials_0a false)) := by
      unfold Bglidepathlaw08_CloudPotentials_0a
      rw [bif_pos (by omega)]
      simp only [hb1, hb2, cond_true, Int.toNat_natCast, Nat.mul_one, encI_get, hx, hy, Option.map_some, intC_int, bindO_val, wk, bif_ne, bif_eq]
    unfold diffE at hq ⊢
    by_cases hxy : x = y
    · rw [if_neg (by simp [hxy])] at hq ⊢
      have h2 := ih hq
      rw [if_pos hxy] at hbody
      cases hd3 : diffE (p.drop (i + 1)) (r.drop (i + 1)) (i + 1) with
      | none =>
        rw [hd3] at h2
        exact Rglidepathlaw08_CloudPotentials_0a_of _ _ _ _ _ _ _ _ _ (hbody.trans h2)
      | some q =>
        rw [hd3] at h2
        exact Rglidepathlaw08_CloudPotentials_0a_of _ _ _ _ _ _ _ _ _ (hbody.trans h2)
    · rw [if_pos hxy] at hq ⊢
      have h3 := hq _ rfl
      rw [if_neg hxy, if_pos (congrArg Prod.snd h3), if_pos (congrArg Prod.fst h3)] at hbody
      exact Rglidepathlaw08_CloudPotentials_0a_of _ _ _ _ _ _ _ _ _ hbody

theorem potE_both (l : List Int) (pen : Int) (p : List Int) : potE l pen p = if both (profE l) (rangeE pen 0 1000000) ≠ 0 then both (profE l) (rangeE pen 0 1000000) else if p.length = l.length + 1 then 0 else 10 := by
  unfold potE first3 both
  by_cases h1 : profE l = 0 <;> by_cases h2 : rangeE pen 0 1000000 = 0 <;> simp [h1, h2]

theorem potentialsLaw (l : List Int) (pen : Int) (p : List Int) : Fglidepathlaw08_CloudPotentials [.list l.length (encI l), .int .i64 pen, .list p.length (encI p)] = some true := by
  refine Fglidepathlaw08_CloudPotentials_of _ _ _ _ _ ?_
  unfold tglidepathlaw08_CloudPotentials
  simp only [awake_is, bindO_val, cond_true]
  by_cases hb : 26 < l.length ∨ 28 < p.length
  · have h46 : Lglidepathlaw08_CloudPotentials_1000046 (Tglidepathlaw08_CloudPotentials_1000046a l.length (encI l) pen p.length (encI p)) = some (.inl ()) := by
      refine Lglidepathlaw08_CloudPotentials_1000046a_of (Rglidepathlaw08_CloudPotentials_1000046a_of _ _ _ _ _ ?_)
      unfold Bglidepathlaw08_CloudPotentials_1000046a
      simp only [few_is, bindO_val]
      by_cases h : 26 < l.length
      · rw [bif_neg (by omega)]
        rfl
      · rw [bif_pos (by omega), bif_pos (by omega)]
        rfl
    rw [h46]
    rfl
  · have h46 : Lglidepathlaw08_CloudPotentials_1000046 (Tglidepathlaw08_CloudPotentials_1000046a l.length (encI l) pen p.length (encI p)) = some (.inr (l.length, encI l, pen, p.length, encI p)) := by
      refine Lglidepathlaw08_CloudPotentials_1000046b_of (Rglidepathlaw08_CloudPotentials_1000046a_of _ _ _ _ _ ?_)
      unfold Bglidepathlaw08_CloudPotentials_1000046a
      simp only [few_is, bindO_val]
      rw [bif_pos (by omega), bif_neg (by omega)]
      rfl
    have hl : l.length ≤ 26 := by omega
    have c16 := copyN_is l (by omega)
    have c16p := copyN_is p (by omega)
    have c31 := checkPots_is l (by omega) pen p (by omega)
    have c12 := refProfErr_is l (by omega)
    have w1 : w64 ((l.length : Int) + 1) = (l.length : Int) + 1 := w64_in (by omega)
    simp only [h46, bindO_val, Sum.elim_inr, c16, c16p, c31, c12, refPen_is, both_is, w1, bif_ne]
    have hE := potE_both l pen p
    by_cases h0 : both (profE l) (rangeE pen 0 1000000) = 0
    · rw [if_pos h0]
      rw [if_neg (by simp [h0])] at hE
      by_cases hn : p.length = l.length + 1
      · rw [if_pos (by omega)]
        rw [if_pos hn] at hE
        have hpe : profE l = 0 ∧ rangeE pen 0 1000000 = 0 := by
          unfold both at h0
          by_cases h1 : profE l = 0
          · rw [if_neg (by simp [h1])] at h0
            exact ⟨h1, h0⟩
          · rw [if_pos h1] at h0
            exact absurd h0 h1
        obtain ⟨h1, h2, hv⟩ := prof_ok hpe.1
        have hp := rangeE_ok hpe.2
        have c30 := refPots_is (by omega) hv h1 hp
        have hR := potsR_len l pen l.length
        have hC : chkP l pen p = (match diffE p (potsR l pen l.length) 0 with | some q => q | none => ((potsR l pen l.length).getD l.length 0, 0)) := by
          unfold chkP
          rw [if_neg (by simp [hE])]
          cases diffE p (potsR l pen l.length) 0 <;> rfl
        have hq := potLaw_loop l p (potsR l pen l.length) (by omega) hn hR (chkP l pen p).1 (chkP l pen p).2 0 (by omega) (fun q hq => by
          rw [List.drop_zero, List.drop_zero] at hq
          rw [hC, hq])
        rw [List.drop_zero, List.drop_zero] at hq
        simp only [c30, bindO_val]
        cases hd : diffE p (potsR l pen l.length) 0 with
        | some q =>
          rw [hd] at hq
          have hL := Lglidepathlaw08_CloudPotentials_0a_of hq
          have hL : Lglidepathlaw08_CloudPotentials_0 (Tglidepathlaw08_CloudPotentials_0a l.length (encI l) p.length (encI p) (chkP l pen p).1 (chkP l pen p).2 (l.length + 1) (encI (potsR l pen l.length)) 0) = _ := hL
          simp only [hL, bindO_val, Sum.elim_inl]
        | none =>
          rw [hd] at hq
          have hL := Lglidepathlaw08_CloudPotentials_0b_of hq
          have hL : Lglidepathlaw08_CloudPotentials_0 (Tglidepathlaw08_CloudPotentials_0a l.length (encI l) p.length (encI p) (chkP l pen p).1 (chkP l pen p).2 (l.length + 1) (encI (potsR l pen l.length)) 0) = _ := hL
          obtain ⟨x, hx⟩ : ∃ x, (potsR l pen l.length)[l.length]? = some x := ⟨(potsR l pen l.length)[l.length]'(by omega), List.getElem?_eq_getElem _⟩
          have hC2 : chkP l pen p = (x, 0) := by
            rw [hC, hd]
            show ((potsR l pen l.length).getD l.length 0, (0 : Int)) = _
            rw [List.getD_eq_getElem?_getD, hx]
            rfl
          have hb1 : (decide (((0 : Int) ≤ (l.length : Int)) ∧ ((l.length : Int) < ((l.length + 1 : Nat) : Int)))) = true := decide_eq_true ⟨by omega, by omega⟩
          simp only [hL, bindO_val, Sum.elim_inr, hb1, cond_true, Int.toNat_natCast, Nat.mul_one, encI_get, hx, Option.map_some, intC_int]
          rw [hC2]
          simp
      · rw [if_neg (by omega)]
        rw [if_neg hn] at hE
        have hC : chkP l pen p = (0, 10) := by
          unfold chkP
          rw [if_pos (by rw [hE]; decide), hE]
        rw [hC]
        rfl
    · rw [if_neg h0]
      rw [if_pos h0] at hE
      have hC : chkP l pen p = (0, both (profE l) (rangeE pen 0 1000000)) := by
        unfold chkP
        rw [if_pos (by rw [hE]; exact h0), hE]
      rw [hC]
      simp
end Gv
