/- Shots: their errors, and the energy of a window. -/
import Derived.Test.YtkbahledgljaoaaCE1
import Derived.Test.YtkbahledgljaoaaCE3
import Derived.Test.YtkbahledgljaoaaCS9
namespace Gv
open Go
set_option maxRecDepth 100000

theorem shtsOf_enc : ∀ l : List (Int × Int × Int), shtsOf (encL3 l) = some l
  | [] => rfl
  | (x, y, z) :: l => by
    show (shtsOf (encL3 l)).map ((x, y, z) :: ·) = _
    rw [shtsOf_enc l]
    rfl

def shotE (z : Sht) : Int := first4 (rangeE z.1 0 1000000) (rangeE z.2.1 0 1000000) (rangeE z.2.2 0 10000) (if z.1 ≥ z.2.1 then 9 else 0)
theorem shot_is (n : Nat) (cs : List PV) (z : Sht) : Fcloud_shotsError_1 [.list n cs, .agg [.int .i64 z.1, .int .i64 z.2.1, .int .i64 z.2.2]] = some (shotE z) :=
  Fcloud_shotsError_1_of n cs z.1 z.2.1 z.2.2 (by
    unfold tcloud_shotsError_1 shotE
    simp only [rangeError_is, errorIf_is, bindO_val, firstError4_is, if_true, Bool.false_eq_true, if_false]
    by_cases h : z.1 ≥ z.2.1
    · rw [bif_pos h, if_pos h]
    · rw [bif_neg h, if_neg h])

theorem shots_loop (l : List Sht) (hl : l.length < 4294967296) : ∀ i, i ≤ l.length →
    Rcloud_itemError_shots_0 (Tcloud_itemError_shots_0a l.length (encL3 l) l.length (encL3 l) l.length i) = exO (XLcloud_itemError_shots_0.fn (sumE (findE shotE (l.drop i) i))) := by
  refine up_ind _ ?_ ?_
  · refine Rcloud_itemError_shots_0a_of _ _ _ _ _ _ ?_
    unfold Bcloud_itemError_shots_0a
    rw [bif_neg (by omega), List.drop_length]
    rfl
  · intro i hi' ih
    refine Rcloud_itemError_shots_0a_of _ _ _ _ _ _ ?_
    unfold Bcloud_itemError_shots_0a
    obtain ⟨z, hz, hd⟩ := get_drop hi'
    rw [bif_pos (by omega), bif_pos (by omega)]
    simp only [Int.toNat_natCast, get0 hz, get1 hz, show i * 3 + 1 + 1 = i * 3 + 2 from rfl, get2 hz, intC_int, bindO_val, shot_is]
    rw [bif_pos (by omega), bif_pos (by right; rw [encL3_len]; omega)]
    rw [hd, w64_in (by omega), bif_ne]
    by_cases he : shotE z = 0
    · rw [if_pos he]
      simp only [findE, he, ne_eq, not_true_eq_false, if_false]
      exact ih
    · rw [if_neg he]
      simp only [findE, ne_eq, he, not_false_eq_true, if_true]
      rfl
def chkS (l : List Sht) : Int × Int := if 20 < l.length then (0, 8) else (findE shotE l 0).getD (0, 0)
theorem shotsError_is (l : List Sht) (hl : l.length < 4294967296) : Fcloud_shotsError [.list l.length (encL3 l)] = some (chkS l).2 := by
  have h1 : Fcloud_itemError_shots [.list l.length (encL3 l), .fn 109 []] = some ((findE shotE l 0).getD (0, 0)) := by
    refine Fcloud_itemError_shots_of _ _ ?_
    unfold tcloud_itemError_shots
    have := lpO_of Icloud_itemError_shots_0 XIcloud_itemError_shots_0 (shots_loop l hl 0 (by omega))
    have this : Lcloud_itemError_shots_0 (Tcloud_itemError_shots_0a l.length (encL3 l) l.length (encL3 l) l.length 0) = _ := this
    rw [this]
    simp only [bindO_val, List.drop_zero]
    cases findE shotE l 0 <;> rfl
  have h2 : Fcloud_listError_shots [.list l.length (encL3 l), .int .i64 20, .fn 109 []] = some (chkS l) := by
    refine Fcloud_listError_shots_of _ _ _ ?_
    unfold tcloud_listError_shots chkS
    simp only [h1, bindO_val]
    by_cases h : 20 < l.length
    · rw [bif_pos (by omega), if_pos h]
    · rw [bif_neg (by omega), if_neg h]
  refine Fcloud_shotsError_of _ _ ?_
  unfold tcloud_shotsError
  simp only [h2, bindO_val]

def sEnd : Option (Int × Int) → Option (Ext × S)
  | some p => exO (XrS_0a p.2)
  | none => exO (XrS_0b ())
theorem refShots_loop (l : List Sht) (hl : l.length < 4294967296) : ∀ i, i ≤ l.length →
    RrS_0 (TrS_0a l.length (encL3 l) i) = sEnd (findE shotE (l.drop i) i) := by
  refine up_ind _ ?_ ?_
  · rw [List.drop_length]
    show _ = exO (XrS_0b ())
    refine RrS_0a_of _ _ _ ?_
    unfold BrS_0a
    rw [bif_neg (by omega)]
    rfl
  · intro i hi ih
    obtain ⟨z, hz, hd⟩ := get_drop hi
    rw [hd]
    have step : ∀ r, (match shotE z with | 0 => RrS_0 (TrS_0a l.length (encL3 l) (i + 1 : Nat)) | e => exO (XrS_0a e)) = some r → RrS_0 (TrS_0a l.length (encL3 l) i) = some r := by
      intro r hr
      refine RrS_0a_of _ _ _ ?_
      unfold BrS_0a
      rw [bif_pos (by omega)]
      have hb : (decide (((0 : Int) ≤ (i : Int)) ∧ ((i : Int) < (l.length : Int)))) = true := decide_eq_true ⟨by omega, by omega⟩
      simp only [hb, cond_true, Int.toNat_natCast, Nat.add_zero, get0 hz, get1 hz, get2 hz, intC_int, bindO_val, within_is]
      have w : w64 ((i : Int) + 1) = ((i + 1 : Nat) : Int) := by rw [w64_in (by omega)]; omega
      rw [w]
      unfold shotE first4 at hr
      by_cases a : 0 ≤ z.1 ∧ z.1 ≤ 1000000
      · rw [bif_pos a]
        rw [rangeE_in a] at hr
        by_cases b : 0 ≤ z.2.1 ∧ z.2.1 ≤ 1000000
        · rw [bif_pos b]
          rw [rangeE_in b] at hr
          by_cases c : 0 ≤ z.2.2 ∧ z.2.2 ≤ 10000
          · rw [bif_pos c]
            rw [rangeE_in c] at hr
            by_cases d : z.1 ≥ z.2.1
            · rw [bif_pos d]
              rw [if_pos d] at hr
              exact hr
            · rw [bif_neg d]
              rw [if_neg d] at hr
              exact hr
          · rw [bif_neg c]
            rw [rangeE_out c] at hr
            exact hr
        · rw [bif_neg b]
          rw [rangeE_out b] at hr
          exact hr
      · rw [bif_neg a]
        rw [rangeE_out a] at hr
        exact hr
    have fin : ∀ r : Ext × S, sEnd (findE shotE (z :: l.drop (i + 1)) i) = some r → RrS_0 (TrS_0a l.length (encL3 l) i) = some r := fun r h => by
      refine step r ?_
      by_cases he : shotE z = 0
      · rw [he]
        simp only [findE, he, ne_eq, not_true_eq_false, if_false] at h
        show RrS_0 _ = _
        rw [ih]
        exact h
      · simp only [findE, ne_eq, he, not_false_eq_true, if_true] at h
        split
        · rename_i h0; exact absurd h0 he
        · exact h
    cases hc : findE shotE (z :: l.drop (i + 1)) i with
    | none => exact fin _ (by rw [hc]; rfl)
    | some p => exact fin _ (by rw [hc]; rfl)
theorem refShots_is (l : List Sht) (hl : l.length < 4294967296) : FrS [.list l.length (encL3 l)] = some (chkS l).2 := by
  refine FrS_of _ _ ?_
  unfold trS chkS
  by_cases h : 20 < l.length
  · rw [bif_pos (by omega), if_pos h]
  · rw [bif_neg (by omega), if_neg h]
    have hq := refShots_loop l hl 0 (by omega)
    rw [List.drop_zero] at hq
    cases hf : findE shotE l 0 with
    | none =>
      rw [hf] at hq
      have := LrS_0b_of (y := ()) hq
      have this : LrS_0 (TrS_0a l.length (encL3 l) 0) = _ := this
      rw [this]
      rfl
    | some p =>
      rw [hf] at hq
      have := LrS_0a_of (y := p.2) hq
      have this : LrS_0 (TrS_0a l.length (encL3 l) 0) = _ := this
      rw [this]
      rfl
theorem chkS_ok {l : List Sht} (h : (chkS l).2 = 0) : l.length ≤ 20 ∧ Oks l := by
  unfold chkS at h
  by_cases h1 : 20 < l.length
  · rw [if_pos h1] at h
    cases h
  · rw [if_neg h1] at h
    refine ⟨by omega, fun z hz => ?_⟩
    cases hf : findE shotE l 0 with
    | none =>
      have := findE_none hf z hz
      unfold shotE at this
      obtain ⟨a, b, c, d⟩ := first4_nil this
      have a := rangeE_ok a
      have b := rangeE_ok b
      have c := rangeE_ok c
      have d : z.1 < z.2.1 := by
        by_cases e : z.1 ≥ z.2.1
        · rw [if_pos e] at d; cases d
        · omega
      exact ⟨a.1, d, b.2, c.1, c.2⟩
    | some p =>
      rw [hf] at h
      exact absurd h (findE_some hf).1
theorem windowError_is (w : Int) : Fcloud_windowError [.int .i64 w] = some (rangeE w 1 1000000) :=
  Fcloud_windowError_of w (by
    unfold tcloud_windowError
    simp only [rangeError_is, bindO_val])
theorem refWindow_is (w : Int) : Fglidepathref08_WindowErr [.int .i64 w] = some (rangeE w 1 1000000) :=
  Fglidepathref08_WindowErr_of w (by
    unfold tglidepathref08_WindowErr
    simp only [within_is, bindO_val]
    by_cases h : 1 ≤ w ∧ w ≤ 1000000
    · rw [bif_pos h, rangeE_in h]
    · rw [bif_neg h, rangeE_out h])
theorem copyShots_is (l : List Sht) (hl : l.length ≤ 1000000) : Fglidepathref08_CopyShots [.list l.length (encL3 l)] = some (l.length, encL3 l) := by
  refine Fglidepathref08_CopyShots_of _ _ ?_
  unfold tglidepathref08_CopyShots
  by_cases h : l.length = 0
  · rw [bif_pos h]
    have := List.eq_nil_of_length_eq_zero h
    subst this
    rfl
  · rw [bif_neg h, bif_pos (encL3_len l), bif_pos ⟨rfl, by unfold big; omega⟩, bif_pos rfl]
    simp

/-! Energies. -/
theorem mn (a b : Int) : (if a < b then a else b) = min b a := by split <;> omega
theorem mx (a b : Int) : (if a > b then a else b) = max b a := by split <;> omega
theorem pw_bd {z : Sht} (h : OkS z) (w e : Int) : 0 ≤ z.2.2 * ovl z w e ∧ z.2.2 * ovl z w e ≤ 10000000000 := by
  refine ⟨Int.mul_nonneg h.d (ovl_nn z w e), ?_⟩
  calc z.2.2 * ovl z w e ≤ 10000 * ovl z w e := Int.mul_le_mul_of_nonneg_right h.e (ovl_nn z w e)
    _ ≤ 10000 * 1000000 := Int.mul_le_mul_of_nonneg_left (ovl_le h w e) (by omega)
theorem ovl_w {z : Sht} (h : OkS z) {w e : Int} (hw : 1 ≤ w ∧ w ≤ 1000000) (he : -10000000 ≤ e ∧ e ≤ 10000000) :
    w64 (z.2.2 * (if w64 ((if e < z.2.1 then e else z.2.1) - (if w64 (e - w) > z.1 then w64 (e - w) else z.1)) > (0 : Int) then w64 ((if e < z.2.1 then e else z.2.1) - (if w64 (e - w) > z.1 then w64 (e - w) else z.1)) else (0 : Int))) = z.2.2 * ovl z w e := by
  have a := h.a
  have b := h.b
  have c := h.c
  have w1 : w64 (e - w) = e - w := w64_in (by omega)
  have w2 : w64 (min z.2.1 e - max z.1 (e - w)) = min z.2.1 e - max z.1 (e - w) := w64_in (by omega)
  simp only [mn, mx, w1, w2]
  have := pw_bd h w e
  exact w64_in (n := z.2.2 * ovl z w e) (by omega)

theorem energy_loop {l : List Sht} (ho : Oks l) (hl : l.length ≤ 1000) {w e : Int} (hw : 1 ≤ w ∧ w ≤ 1000000) (he : -10000000 ≤ e ∧ e ≤ 10000000) : ∀ i, i ≤ l.length → ∀ c : Int, 0 ≤ c → c ≤ 10000000000 * (i : Int) →
    Rcloud_energyBefore_0 (Tcloud_energyBefore_0a e w c l.length (encL3 l) l.length i) = exO (Xcloud_energyBefore_0a (c + enr (l.drop i) w e)) := by
  refine up_ind (P := fun i => ∀ c : Int, 0 ≤ c → c ≤ 10000000000 * (i : Int) → Rcloud_energyBefore_0 (Tcloud_energyBefore_0a e w c l.length (encL3 l) l.length i) = exO (Xcloud_energyBefore_0a (c + enr (l.drop i) w e))) _ ?_ ?_
  · intro c _ _
    refine Rcloud_energyBefore_0a_of _ _ _ _ _ _ _ ?_
    unfold Bcloud_energyBefore_0a
    rw [bif_neg (by omega), List.drop_length, show c + enr [] w e = c from Int.add_zero c]
    rfl
  · intro i hi ih c h0 h1
    obtain ⟨z, hz, hd⟩ := get_drop hi
    have hz' := ho z (List.mem_of_getElem? hz)
    have hb := pw_bd hz' w e
    refine Rcloud_energyBefore_0a_of _ _ _ _ _ _ _ ?_
    unfold Bcloud_energyBefore_0a
    rw [bif_pos (by omega), bif_pos (by omega)]
    simp only [Int.toNat_natCast, get0 hz, get1 hz, show i * 3 + 1 + 1 = i * 3 + 2 from rfl, get2 hz, intC_int, bindO_val, ovl_w hz' hw he]
    have wk : w64 ((i : Int) + 1) = ((i + 1 : Nat) : Int) := by rw [w64_in (by omega)]; omega
    rw [w64_in (n := c + z.2.2 * ovl z w e) (by omega), wk, hd, show enr (z :: l.drop (i + 1)) w e = z.2.2 * ovl z w e + enr (l.drop (i + 1)) w e from rfl, ← Int.add_assoc]
    exact ih _ (by omega) (by omega)
theorem energy_is {l : List Sht} (ho : Oks l) (hl : l.length ≤ 1000) {w e : Int} (hw : 1 ≤ w ∧ w ≤ 1000000) (he : -10000000 ≤ e ∧ e ≤ 10000000) :
    Fcloud_energyBefore [.list l.length (encL3 l), .int .i64 e, .int .i64 w] = some (enr l w e) := by
  refine Fcloud_energyBefore_of _ _ _ _ ?_
  unfold tcloud_energyBefore
  have hq := energy_loop ho hl hw he 0 (by omega) 0 (by omega) (by omega)
  rw [List.drop_zero, Int.zero_add] at hq
  have hL := Lcloud_energyBefore_0a_of hq
  have hL : Lcloud_energyBefore_0 (Tcloud_energyBefore_0a e w 0 l.length (encL3 l) l.length 0) = _ := hL
  simp only [hL, bindO_val]

theorem refEnergy_loop {l : List Sht} (ho : Oks l) (hl : l.length ≤ 1000) {w e : Int} (hw : 1 ≤ w ∧ w ≤ 1000000) (he : -10000000 ≤ e ∧ e < 10000000) : ∀ i, i ≤ l.length → ∀ c : Int, 0 ≤ c → c ≤ 10000000000 * (i : Int) →
    RrE_0 (TrE_0a l.length (encL3 l) w e c i) = exO (XrE_0a (c + enr (l.drop i) w (e + 1))) := by
  refine up_ind (P := fun i => ∀ c : Int, 0 ≤ c → c ≤ 10000000000 * (i : Int) → RrE_0 (TrE_0a l.length (encL3 l) w e c i) = exO (XrE_0a (c + enr (l.drop i) w (e + 1)))) _ ?_ ?_
  · intro c _ _
    refine RrE_0a_of _ _ _ _ _ _ ?_
    unfold BrE_0a
    rw [bif_neg (by omega), List.drop_length, show c + enr [] w (e + 1) = c from Int.add_zero c]
    rfl
  · intro i hi ih c h0 h1
    obtain ⟨z, hz, hd⟩ := get_drop hi
    have hz' := ho z (List.mem_of_getElem? hz)
    have hb := pw_bd hz' w (e + 1)
    have hd' : (decide (((0 : Int) ≤ (i : Int)) ∧ ((i : Int) < (l.length : Int)))) = true := decide_eq_true ⟨by omega, by omega⟩
    have w1 : w64 (e + 1) = e + 1 := w64_in (by omega)
    refine RrE_0a_of _ _ _ _ _ _ ?_
    unfold BrE_0a
    rw [bif_pos (by omega)]
    simp only [hd', cond_true, Int.toNat_natCast, Nat.add_zero, get0 hz, get1 hz, get2 hz, intC_int, bindO_val, w1, ovl_w hz' hw (e := e + 1) ⟨by omega, by omega⟩]
    have wk : w64 ((i : Int) + 1) = ((i + 1 : Nat) : Int) := by rw [w64_in (by omega)]; omega
    rw [w64_in (n := c + z.2.2 * ovl z w (e + 1)) (by omega), wk, hd, show enr (z :: l.drop (i + 1)) w (e + 1) = z.2.2 * ovl z w (e + 1) + enr (l.drop (i + 1)) w (e + 1) from rfl, ← Int.add_assoc]
    exact ih _ (by omega) (by omega)
theorem refEnergy_is {l : List Sht} (ho : Oks l) (hl : l.length ≤ 1000) {w e : Int} (hw : 1 ≤ w ∧ w ≤ 1000000) (he : -10000000 ≤ e ∧ e < 10000000) :
    FrE [.list l.length (encL3 l), .int .i64 w, .int .i64 e] = some (enr l w (e + 1)) := by
  refine FrE_of _ _ _ _ ?_
  unfold trE
  have hq := refEnergy_loop ho hl hw he 0 (by omega) 0 (by omega) (by omega)
  rw [List.drop_zero, Int.zero_add] at hq
  have hL := LrE_0a_of hq
  have hL : LrE_0 (TrE_0a l.length (encL3 l) w e 0 0) = _ := hL
  simp only [hL, bindO_val]
end Gv
