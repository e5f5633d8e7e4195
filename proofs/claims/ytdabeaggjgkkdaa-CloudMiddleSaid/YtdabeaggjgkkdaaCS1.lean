/- The errors of numbers, the middle: what they give. -/
import Derived.Test.YtdabeaggjgkkdaaGvYk
import Derived.Test.YtdabeaggjgkkdaaCP1
namespace Gv
open Go
set_option maxRecDepth 100000

theorem errorIf_is (b : Bool) (x : Int) : Fcloud_errorIf [.bool b, .int .i64 x] = some (if b then x else 0) :=
  Fcloud_errorIf_of b x (by cases b <;> rfl)

theorem rangeError_is (x a b : Int) : Fcloud_rangeError [.int .i64 x, .int .i64 a, .int .i64 b] = some (rangeE x a b) :=
  Fcloud_rangeError_of x a b (by
    unfold tcloud_rangeError rangeE
    simp only [errorIf_is, bindO_val]
    by_cases h1 : x < a <;> by_cases h2 : b < x <;> simp [h1, h2])

theorem within_is (x a b : Int) : Fglidepathbase_Within [.int .i64 x, .int .i64 a, .int .i64 b] = some (decide (a ≤ x ∧ x ≤ b)) :=
  Fglidepathbase_Within_of x a b (by
    unfold tglidepathbase_Within
    by_cases h1 : a ≤ x <;> by_cases h2 : x ≤ b <;> simp [h1, h2])

theorem number_is (n : Nat) (cs : List PV) (x lo hi : Int) : Fcloud_within_1 [.list n cs, .int .i64 x, .imm [.int .i64 lo] 0, .imm [.int .i64 hi] 0] = some (rangeE x lo hi) :=
  Fcloud_within_1_of n cs x lo hi (by
    unfold tcloud_within_1
    simp only [rangeError_is, bindO_val])

theorem itemI_loop (lo hi : Int) (l : List Int) (hl : l.length < 4294967296) : ∀ i, i ≤ l.length →
    Rcloud_itemError_within_0 (Tcloud_itemError_within_0a l.length (encI l) lo hi l.length (encI l) l.length i) = exO (XLcloud_itemError_within_0.fn (sumE (findE (fun x => rangeE x lo hi) (l.drop i) i))) := by
  refine up_ind _ ?_ ?_
  · refine Rcloud_itemError_within_0a_of _ _ _ _ _ _ _ _ ?_
    unfold Bcloud_itemError_within_0a
    rw [bif_neg (by omega), List.drop_length]
    rfl
  · intro i hi' ih
    refine Rcloud_itemError_within_0a_of _ _ _ _ _ _ _ _ ?_
    unfold Bcloud_itemError_within_0a
    obtain ⟨x, hx, hd⟩ := get_drop hi'
    rw [bif_pos (by omega), bif_pos (by omega)]
    simp only [Int.toNat_natCast, Nat.mul_one, encI_get, hx, Option.map_some, intC_int, bindO_val, number_is]
    rw [bif_pos (by omega), bif_pos (by right; simp [encI]; omega)]
    rw [hd, w64_in (by omega), bif_ne]
    by_cases he : rangeE x lo hi = 0
    · rw [if_pos he]
      simp only [findE, he, ne_eq, not_true_eq_false, if_false]
      exact ih
    · rw [if_neg he]
      simp only [findE, ne_eq, he, not_false_eq_true, if_true]
      rfl

theorem itemI_is (lo hi : Int) (l : List Int) (hl : l.length < 4294967296) :
    Fcloud_itemError_within [.list l.length (encI l), .fn 105 [.imm [.int .i64 lo] 0, .imm [.int .i64 hi] 0]] = some ((findE (fun x => rangeE x lo hi) l 0).getD (0, 0)) := by
  refine Fcloud_itemError_within_of _ _ _ _ ?_
  unfold tcloud_itemError_within
  have := lpO_of Icloud_itemError_within_0 XIcloud_itemError_within_0 (itemI_loop lo hi l hl 0 (by omega))
  have this : Lcloud_itemError_within_0 (Tcloud_itemError_within_0a l.length (encI l) lo hi l.length (encI l) l.length 0) = _ := this
  rw [this]
  simp only [bindO_val, List.drop_zero]
  cases findE (fun x => rangeE x lo hi) l 0 <;> rfl

theorem filled_is (m lo hi : Int) (l : List Int) (hl : l.length < 4294967296) :
    Fcloud_filledError_within [.list l.length (encI l), .int .i64 m, .fn 105 [.imm [.int .i64 lo] 0, .imm [.int .i64 hi] 0]] = some (listIE m lo hi l) := by
  refine Fcloud_filledError_within_of _ _ _ _ _ ?_
  unfold tcloud_filledError_within
  have h : Fcloud_listError_within [.list l.length (encI l), .int .i64 m, .fn 105 [.imm [.int .i64 lo] 0, .imm [.int .i64 hi] 0]] = some (if m < l.length then (0, 8) else (findE (fun x => rangeE x lo hi) l 0).getD (0, 0)) := by
    refine Fcloud_listError_within_of _ _ _ _ _ ?_
    unfold tcloud_listError_within
    simp only [itemI_is lo hi l hl, bindO_val]
    by_cases h2 : m < l.length <;> simp [h2]
  simp only [h, bindO_val, bif_eq, listIE]
  by_cases h1 : l.length = 0
  · simp [h1]
  · simp [h1]

def hE (l : List Int) : Int := (listIE 15 0 20000 l).2
def hEnd : Option (Int × Int) → Option (Ext × S)
  | some _ => exO (Xglidepathref08_HeightsErr_0a ())
  | none => exO (Xglidepathref08_HeightsErr_0b ())
theorem heights_loop (l : List Int) (hl : l.length < 4294967296) : ∀ i, i ≤ l.length →
    Rglidepathref08_HeightsErr_0 (Tglidepathref08_HeightsErr_0a l.length (encI l) i) = hEnd (findE (fun x => rangeE x 0 20000) (l.drop i) i) := by
  refine up_ind _ ?_ ?_
  · rw [List.drop_length]
    show _ = exO (Xglidepathref08_HeightsErr_0b ())
    refine Rglidepathref08_HeightsErr_0a_of _ _ _ ?_
    unfold Bglidepathref08_HeightsErr_0a
    rw [bif_neg (by omega)]
    rfl
  · intro i hi ih
    obtain ⟨x, hx, hd⟩ := get_drop hi
    rw [hd]
    by_cases he : 0 ≤ x ∧ x ≤ 20000
    · have e0 := rangeE_in he
      simp only [findE, e0, ne_eq, not_true_eq_false, if_false]
      have step : ∀ r, Rglidepathref08_HeightsErr_0 (Tglidepathref08_HeightsErr_0a l.length (encI l) (i + 1 : Nat)) = some r → Rglidepathref08_HeightsErr_0 (Tglidepathref08_HeightsErr_0a l.length (encI l) i) = some r := by
        intro r hr
        refine Rglidepathref08_HeightsErr_0a_of _ _ _ ?_
        unfold Bglidepathref08_HeightsErr_0a
        rw [bif_pos (by omega), bif_pos (by omega)]
        simp only [Int.toNat_natCast, Nat.mul_one, encI_get, hx, Option.map_some, intC_int, bindO_val, within_is]
        rw [bif_pos he, w64_in (by omega)]
        exact hr
      cases hf : findE (fun x => rangeE x 0 20000) (l.drop (i + 1)) (i + 1) with
      | none => rw [hf] at ih; exact step _ ih
      | some p => rw [hf] at ih; exact step _ ih
    · have e0 := rangeE_out he
      simp only [findE, e0]
      rw [if_pos (by decide)]
      show _ = exO (Xglidepathref08_HeightsErr_0a ())
      refine Rglidepathref08_HeightsErr_0a_of _ _ _ ?_
      unfold Bglidepathref08_HeightsErr_0a
      rw [bif_pos (by omega), bif_pos (by omega)]
      simp only [Int.toNat_natCast, Nat.mul_one, encI_get, hx, Option.map_some, intC_int, bindO_val, within_is]
      rw [bif_neg he]
      rfl
theorem heights_is (l : List Int) (hl : l.length < 4294967296) : Fglidepathref08_HeightsErr [.list l.length (encI l)] = some (hE l) := by
  refine Fglidepathref08_HeightsErr_of _ _ ?_
  unfold tglidepathref08_HeightsErr hE listIE
  simp only [bif_eq, bif_dec]
  by_cases h1 : l.length = 0
  · simp [h1]
  · rw [if_neg (by omega), if_neg h1]
    by_cases h2 : (15 : Int) < l.length
    · rw [if_pos (by omega), if_pos h2]
    · rw [if_neg (by omega), if_neg h2]
      have hq := heights_loop l hl 0 (by omega)
      rw [List.drop_zero] at hq
      cases hf : findE (fun x => rangeE x 0 20000) l 0 with
      | none =>
        rw [hf] at hq
        have := Lglidepathref08_HeightsErr_0b_of (y := ()) hq
        have this : Lglidepathref08_HeightsErr_0 (Tglidepathref08_HeightsErr_0a l.length (encI l) 0) = _ := this
        rw [this]
        rfl
      | some p =>
        rw [hf] at hq
        have := Lglidepathref08_HeightsErr_0a_of (y := ()) hq
        have this : Lglidepathref08_HeightsErr_0 (Tglidepathref08_HeightsErr_0a l.length (encI l) 0) = _ := this
        rw [this]
        have := findE_rng 0 20000 hf
        show some 2 = some p.2
        rw [this]
end Gv
