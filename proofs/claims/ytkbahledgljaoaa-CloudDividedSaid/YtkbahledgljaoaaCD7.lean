/- CloudDivided: whatever the numbers, the penalty and the other division, the law answers true. -/
import Derived.Test.YtkbahledgljaoaaCD6
import Derived.Test.YtkbahledgljaoaaCD5
import Derived.Test.YtkbahledgljaoaaA0
namespace Gv
open Go
set_option maxRecDepth 100000

theorem copyD_is (l : List Int) (hl : l.length ≤ 1000000) : Fglidepathbase_CopyInts [.list l.length (encI l)] = some (l.length, encI l) := by
  refine Fglidepathbase_CopyInts_of _ _ ?_
  unfold tglidepathbase_CopyInts
  by_cases h : l.length = 0
  · rw [bif_pos h]
    have := List.eq_nil_of_length_eq_zero h
    subst this
    rfl
  · rw [bif_neg h, bif_pos (by simp), bif_pos ⟨rfl, by unfold big; omega⟩, bif_pos rfl]
    simp

def endG : Option Int → Option (Ext × S)
  | some c => exO (Xglidepathlaw08_divided_0b c)
  | none => exO (Xglidepathlaw08_divided_0a ())
theorem endG_of {pen a : Int} {i : Int} {n0 n3 : Nat} {c1 c4 : List PV} : ∀ {o : Option Int}, Bglidepathlaw08_divided_0a (Fn env) Rglidepathlaw08_divided_0 exO Lglidepathlaw08_divided_0 n0 c1 pen n3 c4 a i = endG o → Rglidepathlaw08_divided_0 (Tglidepathlaw08_divided_0a n0 c1 pen n3 c4 a i) = endG o
  | some _, h => Rglidepathlaw08_divided_0a_of _ _ _ _ _ _ _ h
  | none, h => Rglidepathlaw08_divided_0a_of _ _ _ _ _ _ _ h
theorem div_loop (l b : List Int) (h0 : profE l = 0) (pen : Int) (hp : 0 ≤ pen ∧ pen ≤ 1000000) (hb : b.length ≤ 1000) : ∀ i, i ≤ b.length → ∀ (x : Nat) (a : Int), b[i]? = some (x : Int) → x < l.length → 0 ≤ a → a ≤ 20000000 * (i : Int) →
    Rglidepathlaw08_divided_0 (Tglidepathlaw08_divided_0a l.length (encI l) pen b.length (encI b) a i) = endG (dvG l pen l.length x (b.drop (i + 1)) a) := by
  obtain ⟨h1, h2, hv⟩ := prof_ok h0
  have c16 := copyD_is l (by omega)
  have wn : w64 ((l.length : Int) - 1) = (l.length : Int) - 1 := w64_in (by omega)
  refine up_ind (P := fun i => ∀ (x : Nat) (a : Int), b[i]? = some (x : Int) → x < l.length → 0 ≤ a → a ≤ 20000000 * (i : Int) → Rglidepathlaw08_divided_0 (Tglidepathlaw08_divided_0a l.length (encI l) pen b.length (encI b) a i) = endG (dvG l pen l.length x (b.drop (i + 1)) a)) _ ?_ ?_
  · intro x a hx
    rw [List.getElem?_eq_none (Nat.le_refl _)] at hx
    cases hx
  · intro i hi ih x a hx hxl ha0 ha1
    have wk : w64 ((i : Int) + 1) = ((i + 1 : Nat) : Int) := by rw [w64_in (by omega)]; omega
    have hb1 : (decide (((0 : Int) ≤ (i : Int)) ∧ ((i : Int) < (b.length : Int)))) = true := decide_eq_true ⟨by omega, by omega⟩
    refine endG_of ?_
    unfold Bglidepathlaw08_divided_0a
    rw [bif_pos (by omega), wk]
    by_cases hn : i + 1 < b.length
    · obtain ⟨y, hy, hd⟩ := get_drop hn
      have hb2 : (decide (((0 : Int) ≤ ((i + 1 : Nat) : Int)) ∧ (((i + 1 : Nat) : Int) < (b.length : Int)))) = true := decide_eq_true ⟨by omega, by omega⟩
      have wx : w64 ((x : Int) + 1) = (x : Int) + 1 := w64_in (by omega)
      rw [hd, bif_pos (by omega)]
      simp only [hb1, hb2, cond_true, Int.toNat_natCast, Nat.mul_one, encI_get, hx, hy, Option.map_some, intC_int, bindO_val, wx, wn, within_is]
      unfold dvG
      by_cases hc : (x : Int) + 1 ≤ y ∧ y ≤ (l.length : Int) - 1
      · have hyn : ((y.toNat : Nat) : Int) = y := by omega
        have wy : w64 (y - 1) = y - 1 := w64_in (by omega)
        have hs := segCost_is (l := l) (i := x) (k := y.toNat) (by omega) h0 (by omega) (by omega)
        rw [hyn] at hs
        have hbd := cand_ok (l := l) (by omega) hv hp (i := x) (k := y.toNat) (by omega) (by omega) (b := 0) (by omega)
        have hw : (decide ((0 : Int) ≤ costM (segL l x y.toNat) ∧ costM (segL l x y.toNat) ≤ 1099511627776)) = true := decide_eq_true ⟨by omega, by omega⟩
        have ws : w64 (a + costM (segL l x y.toNat)) = a + costM (segL l x y.toNat) := w64_in (by omega)
        have wp : w64 (a + costM (segL l x y.toNat) + pen) = a + (costM (segL l x y.toNat) + pen) := by rw [w64_in (by omega)]; omega
        rw [bif_pos hc, if_pos hc]
        simp only [c16, bindO_val, wy, hs, bne_self_eq_false, cond_false, hw, cond_true, ws, wp]
        exact ih y.toNat (a + (costM (segL l x y.toNat) + pen)) (by rw [hyn]; exact hy) (by omega) (by omega) (by omega)
      · rw [bif_neg hc, if_neg hc]
        rfl
    · have hi1 : i + 1 = b.length := by omega
      have hs := segCost_is (l := l) (i := x) (k := l.length) (by omega) h0 hxl (Nat.le_refl _)
      have hbd := cand_ok (l := l) (by omega) hv hp (i := x) (k := l.length) hxl (Nat.le_refl _) (b := 0) (by omega)
      have hw : (decide ((0 : Int) ≤ costM (segL l x l.length) ∧ costM (segL l x l.length) ≤ 1099511627776)) = true := decide_eq_true ⟨by omega, by omega⟩
      have ws : w64 (a + costM (segL l x l.length)) = a + costM (segL l x l.length) := w64_in (by omega)
      have wp : w64 (a + costM (segL l x l.length) + pen) = a + (costM (segL l x l.length) + pen) := by rw [w64_in (by omega)]; omega
      rw [bif_neg (by omega), List.drop_eq_nil_of_le (by omega)]
      simp only [hb1, cond_true, Int.toNat_natCast, Nat.mul_one, encI_get, hx, Option.map_some, intC_int, bindO_val, wn, c16, hs, bne_self_eq_false, cond_false, within_is, hw, ws, wp]
      unfold dvG
      rw [if_pos hxl]
      refine Rglidepathlaw08_divided_0a_of _ _ _ _ _ _ _ ?_
      unfold Bglidepathlaw08_divided_0a
      rw [bif_neg (by omega)]
      rfl

def endO : Option Int → Int × Bool
  | some c => (c, true)
  | none => (0, false)
def divO (l : List Int) (pen : Int) : List Int → Int × Bool
  | [] => (0, false)
  | x :: r => if x = 0 then endO (dvG l pen l.length 0 r 0) else (0, false)
theorem divO_zero (l : List Int) (pen : Int) (r : List Int) : divO l pen (0 :: r) = endO (dvG l pen l.length 0 r 0) := by
  show (if (0 : Int) = 0 then endO (dvG l pen l.length 0 r 0) else (0, false)) = _
  rw [if_pos rfl]
theorem divO_ne (l : List Int) (pen : Int) {x : Int} (r : List Int) (h : ¬ x = 0) : divO l pen (x :: r) = (0, false) := by
  show (if x = 0 then endO (dvG l pen l.length 0 r 0) else (0, false)) = _
  rw [if_neg h]
theorem divided_is {l : List Int} (h0 : profE l = 0) {pen : Int} (hp : 0 ≤ pen ∧ pen ≤ 1000000) (b : List Int) (hb : b.length ≤ 1000) : Fglidepathlaw08_divided [.list l.length (encI l), .int .i64 pen, .list b.length (encI b)] = some (divO l pen b) := by
  obtain ⟨h1, h2, hv⟩ := prof_ok h0
  refine Fglidepathlaw08_divided_of _ _ _ _ _ ?_
  unfold tglidepathlaw08_divided
  cases b with
  | nil => rfl
  | cons x r =>
    have hn : ((x :: r).length : Int) ≠ 0 := by rw [List.length_cons]; omega
    have hpos : (decide (((0 : Int) ≤ (0 : Int)) ∧ ((0 : Int) < ((x :: r).length : Int)))) = true := decide_eq_true ⟨by omega, by omega⟩
    have g0 : (encI (x :: r))[0]? = some (.int .i64 x) := rfl
    rw [bif_eq, if_neg hn, hpos]
    simp only [cond_true, g0, intC_int, bindO_val, bif_ne]
    by_cases hx : x = 0
    · subst hx
      rw [if_pos rfl, divO_zero]
      have hq := div_loop l (0 :: r) h0 pen hp hb 0 (by omega) 0 0 rfl (by omega) (by omega) (by omega)
      rw [show (0 :: r).drop (0 + 1) = r from rfl] at hq
      cases hd : dvG l pen l.length 0 r 0 with
      | some c =>
        rw [hd] at hq
        have hL := Lglidepathlaw08_divided_0b_of hq
        have hL : Lglidepathlaw08_divided_0 (Tglidepathlaw08_divided_0a l.length (encI l) pen (0 :: r).length (encI (0 :: r)) 0 0) = _ := hL
        simp only [hL, bindO_val, Sum.elim_inr]
        rfl
      | none =>
        rw [hd] at hq
        have hL := Lglidepathlaw08_divided_0a_of (y := ()) hq
        have hL : Lglidepathlaw08_divided_0 (Tglidepathlaw08_divided_0a l.length (encI l) pen (0 :: r).length (encI (0 :: r)) 0 0) = _ := hL
        simp only [hL, bindO_val, Sum.elim_inl]
        rfl
    · rw [if_neg hx, divO_ne l pen r hx]
theorem divO_sound {l : List Int} {pen : Int} {b : List Int} (h : (divO l pen b).2 = true) : Dv l pen l.length b (divO l pen b).1 := by
  cases b with
  | nil => cases h
  | cons x r =>
    by_cases hx : x = 0
    · subst hx
      rw [divO_zero] at h ⊢
      cases hd : dvG l pen l.length 0 r 0 with
      | some c => exact dvG_sound (Nat.le_refl _) r 0 0 c [] .none hd
      | none =>
        rw [hd] at h
        cases h
    · rw [divO_ne l pen r hx] at h
      cases h
theorem divO_complete {l : List Int} (hl : 1 ≤ l.length) {pen : Int} {b : List Int} {c : Int} (h : Dv l pen l.length b c) : divO l pen b = (c, true) := by
  rcases dvG_complete h with ⟨h1, _, _⟩ | ⟨r, rfl, hr⟩
  · omega
  · rw [divO_zero, hr]
    rfl

theorem dividedLaw (l : List Int) (pen : Int) (b : List Int) : Fglidepathlaw08_CloudDivided [.list l.length (encI l), .int .i64 pen, .list b.length (encI b)] = some true := by
  refine Fglidepathlaw08_CloudDivided_of _ _ _ _ _ ?_
  unfold tglidepathlaw08_CloudDivided
  simp only [awake_is, bindO_val, cond_true]
  by_cases hb : ¬ (l.length ≤ 26 ∧ profE l = 0 ∧ rangeE pen 0 1000000 = 0 ∧ b.length ≤ 30)
  · have h55 : Lglidepathlaw08_CloudDivided_1000055 (Tglidepathlaw08_CloudDivided_1000055a l.length (encI l) pen b.length (encI b)) = some (.inl ()) := by
      refine Lglidepathlaw08_CloudDivided_1000055a_of (Rglidepathlaw08_CloudDivided_1000055a_of _ _ _ _ _ ?_)
      unfold Bglidepathlaw08_CloudDivided_1000055a
      simp only [few_is, bindO_val]
      by_cases h1 : l.length ≤ 26
      · have c12 := refProfErr_is l (by omega)
        rw [bif_pos h1]
        simp only [c12, bindO_val, refPen_is, bif_ne]
        by_cases h2 : profE l = 0
        · rw [if_pos h2]
          by_cases h3 : rangeE pen 0 1000000 = 0
          · rw [if_pos h3, bif_pos (by omega)]
            rfl
          · rw [if_neg h3]
            rfl
        · rw [if_neg h2]
          rfl
      · rw [bif_neg h1]
        rfl
    rw [h55]
    rfl
  · have hb := Classical.not_not.1 hb
    obtain ⟨hl, h0, hpe, hbl⟩ := hb
    have hp := rangeE_ok hpe
    obtain ⟨h1, h2, hv⟩ := prof_ok h0
    have h55 : Lglidepathlaw08_CloudDivided_1000055 (Tglidepathlaw08_CloudDivided_1000055a l.length (encI l) pen b.length (encI b)) = some (.inr (l.length, encI l, pen, b.length, encI b)) := by
      refine Lglidepathlaw08_CloudDivided_1000055b_of (Rglidepathlaw08_CloudDivided_1000055a_of _ _ _ _ _ ?_)
      unfold Bglidepathlaw08_CloudDivided_1000055a
      have c12 := refProfErr_is l (by omega)
      simp only [few_is, bindO_val]
      rw [bif_pos hl]
      simp only [c12, bindO_val, refPen_is, bif_ne]
      rw [if_pos h0, if_pos hpe, bif_neg (by omega)]
      rfl
    obtain ⟨d, hd⟩ : ∃ d, (bestD l pen l.length)[l.length]? = some d := ⟨(bestD l pen l.length)[l.length]'(by rw [bestD_len]; omega), List.getElem?_eq_getElem _⟩
    have hg := bestD_good l pen l.length (Nat.le_refl _) _ _ hd
    have hdl := Dv_len hg.1
    have hP : (potsR l pen l.length)[l.length]? = some d.2 := by
      rw [← bestD_cost (by omega) hv hp l.length (Nat.le_refl _), List.getElem?_map, hd]
      rfl
    have hR := potsR_len l pen l.length
    have c16 := copyD_is l (by omega)
    have c16p := copyD_is (potsR l pen l.length) (by omega)
    rw [hR] at c16p
    have c22 := segmentsOf_is (by omega) h0 hp hd
    have c23 := potentialsOf_is (l := l) (by omega) h0 hp
    have w1 : w64 ((l.length : Int) + 1) = ((l.length + 1 : Nat) : Int) := by rw [w64_in (by omega)]; omega
    have h44 : Lglidepathlaw08_CloudDivided_1000044 (Tglidepathlaw08_CloudDivided_1000044a l.length (encI l) pen b.length (encI b) d.1.length (encI d.1) d.2 0 (l.length + 1) (encI (potsR l pen l.length)) 0) = some (.inr (l.length, encI l, pen, b.length, encI b, d.1.length, encI d.1, d.2, l.length + 1, encI (potsR l pen l.length))) := by
      refine Lglidepathlaw08_CloudDivided_1000044b_of (Rglidepathlaw08_CloudDivided_1000044a_of _ _ _ _ _ _ _ _ _ _ _ _ ?_)
      unfold Bglidepathlaw08_CloudDivided_1000044a
      have hb1 : (decide (((0 : Int) ≤ (l.length : Int)) ∧ ((l.length : Int) < ((l.length + 1 : Nat) : Int)))) = true := decide_eq_true ⟨by omega, by omega⟩
      simp only [bne_self_eq_false, cond_false, w1, hb1, cond_true, Int.toNat_natCast, Nat.mul_one, encI_get, hP, Option.map_some, intC_int, bindO_val]
      rfl
    have hC : chkP l pen (potsR l pen l.length) = (d.2, 0) := by
      have hdn : ∀ (p : List Int) (i : Nat), diffE p p i = none := by
        intro p
        induction p with
        | nil => intro i; rfl
        | cons x p ih =>
          intro i
          unfold diffE
          rw [if_neg (by simp)]
          exact ih (i + 1)
      have hE : potE l pen (potsR l pen l.length) = 0 := by
        unfold potE
        rw [if_pos hR, h0, hpe]
        rfl
      unfold chkP
      rw [if_neg (by simp [hE]), hdn]
      show ((potsR l pen l.length).getD l.length 0, (0 : Int)) = _
      rw [List.getD_eq_getElem?_getD, hP]
      rfl
    have c31 := checkPots_is l (by omega) pen (potsR l pen l.length) (by omega)
    rw [hC, hR] at c31
    have h37 : Lglidepathlaw08_CloudDivided_1000037 (Tglidepathlaw08_CloudDivided_1000037a l.length (encI l) pen b.length (encI b) d.1.length (encI d.1) d.2 (l.length + 1) (encI (potsR l pen l.length))) = some (.inr (l.length, encI l, pen, b.length, encI b, d.1.length, encI d.1, d.2)) := by
      refine Lglidepathlaw08_CloudDivided_1000037b_of (Rglidepathlaw08_CloudDivided_1000037a_of _ _ _ _ _ _ _ _ _ _ ?_)
      unfold Bglidepathlaw08_CloudDivided_1000037a
      simp only [c16, c16p, c31, bindO_val, bne_self_eq_false, cond_false]
      rfl
    have c32 := divided_is h0 hp d.1 (by omega)
    rw [divO_complete h1 hg.1] at c32
    have h26 : Lglidepathlaw08_CloudDivided_1000026 (Tglidepathlaw08_CloudDivided_1000026a l.length (encI l) pen b.length (encI b) d.1.length (encI d.1) d.2 d.2 true) = some (.inr (l.length, encI l, pen, b.length, encI b, d.1.length, encI d.1, d.2)) := by
      refine Lglidepathlaw08_CloudDivided_1000026b_of (Rglidepathlaw08_CloudDivided_1000026a_of _ _ _ _ _ _ _ _ _ _ ?_)
      unfold Bglidepathlaw08_CloudDivided_1000026a
      simp only [bne_self_eq_false, cond_false, cond_true]
      rfl
    have h19 : Lglidepathlaw08_CloudDivided_1000019 (Tglidepathlaw08_CloudDivided_1000019a l.length (encI l) pen b.length (encI b) d.1.length (encI d.1) d.2) = some (.inr (l.length, encI l, pen, d.1.length, encI d.1)) := by
      refine Lglidepathlaw08_CloudDivided_1000019b_of (Rglidepathlaw08_CloudDivided_1000019a_of _ _ _ _ _ _ _ _ ?_)
      unfold Bglidepathlaw08_CloudDivided_1000019a
      have c32b := divided_is h0 hp b (by omega)
      simp only [c32b, bindO_val]
      cases ht : (divO l pen b).2 with
      | false => rfl
      | true =>
        have hle := hg.2 _ _ (divO_sound ht)
        unfold leD at hle
        simp only at hle
        rw [cond_true, bif_neg (by omega), bif_eq]
        by_cases he : (divO l pen b).1 = d.2
        · rw [if_pos he, bif_neg (by omega)]
          rfl
        · rw [if_neg he]
          rfl
    have w7 : w64 (pen + 7) = pen + 7 := w64_in (by omega)
    simp only [h55, bindO_val, Sum.elim_inr, c16, c22, c23, h44, h37, c32, cond_true, h26, h19, w7]
    by_cases h7 : pen + 7 > 1000000
    · rw [bif_pos h7]
    · rw [bif_neg h7]
      obtain ⟨e, he⟩ : ∃ e, (bestD l (pen + 7) l.length)[l.length]? = some e := ⟨(bestD l (pen + 7) l.length)[l.length]'(by rw [bestD_len]; omega), List.getElem?_eq_getElem _⟩
      have hge := bestD_good l (pen + 7) l.length (Nat.le_refl _) _ _ he
      have c22b := segmentsOf_is (pen := pen + 7) (by omega) h0 (by omega) he
      have := more_pen hg hge
      simp only [c22b, bindO_val, beq_self_eq_true, cond_true]
      rw [bif_pos (by omega)]
end Gv
