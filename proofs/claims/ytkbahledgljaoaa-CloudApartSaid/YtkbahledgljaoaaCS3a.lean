import Derived.Test.YtkbahledgljaoaaGvYk
import Derived.Test.YtkbahledgljaoaaCP1
import Derived.Test.YtkbahledgljaoaaCT3
namespace Gv
open Go
set_option maxRecDepth 100000
theorem errorIf_is (b : Bool) (x : Int) : Fcloud_errorIf [.bool b, .int .i64 x] = some (if b then x else 0) :=
  Fcloud_errorIf_of b x (by cases b <;> rfl)
theorem rangeError_is (x a b : Int) : Fcloud_rangeError [.int .i64 x, .int .i64 a, .int .i64 b] = some (rangeE x a b) :=
  Fcloud_rangeError_of x a b (by
    unfold tcloud_rangeError rangeE
    simp only [errorIf_is, bindO_val]
    by_cases h1 : x < a <;> by_cases h2 : b < x <;> simp [h1, h2])
theorem within_is (x a b : Int) : Fb_Within [.int .i64 x, .int .i64 a, .int .i64 b] = some (decide (a ≤ x ∧ x ≤ b)) :=
  Fb_Within_of x a b (by
    unfold tb_Within
    by_cases h1 : a ≤ x <;> by_cases h2 : x ≤ b <;> simp [h1, h2])
theorem number_is (n : Nat) (cs : List PV) (x lo hi : Int) : Fcloud_within_1 [.list n cs, .int .i64 x, .imm [.int .i64 lo] 0, .imm [.int .i64 hi] 0] = some (rangeE x lo hi) :=
  Fcloud_within_1_of n cs x lo hi (by
    unfold tcloud_within_1
    simp only [rangeError_is, bindO_val])
theorem itemI_loop (lo hi : Int) (l : List Int) (hl : l.length < 4294967296) : ∀ i, i ≤ l.length →
    Rcloud_itemError_within_0 (Tcloud_itemError_within_0a l.length (encI l) lo hi l.length (encI l) l.length i) = exO (XLcloud_itemError_within_0.fn (sumE (findE (fun x => rangeE x lo hi) (l.drop i) i))) := by
  refine up_ind _ ?_ ?_
  · refine Rcloud_itemError_within_0a_of _ _ _ _ _ _ _ _ ?_
    unfold Bcloud_itemError_within_0a
    rw [bif_neg (by omega), List.drop_length]
    rfl
  · intro i hi' ih
    refine Rcloud_itemError_within_0a_of _ _ _ _ _ _ _ _ ?_
    unfold Bcloud_itemError_within_0a
    obtain ⟨x, hx, hd⟩ := get_drop hi'
    rw [bif_pos (by omega), bif_pos (by omega)]
    simp only [Int.toNat_natCast, Nat.mul_one, encI_get, hx, Option.map_some, intC_int, bindO_val, number_is]
    rw [bif_pos (by omega), bif_pos (by right; simp [encI]; omega)]
    rw [hd, w64_in (by omega), bif_ne]
    by_cases he : rangeE x lo hi = 0
    · rw [if_pos he]
      simp only [findE, he, ne_eq, not_true_eq_false, if_false]
      exact ih
    · rw [if_neg he]
      simp only [findE, ne_eq, he, not_false_eq_true, if_true]
      rfl
theorem itemI_is (lo hi : Int) (l : List Int) (hl : l.length < 4294967296) :
    Fcloud_itemError_within [.list l.length (encI l), .fn 105 [.imm [.int .i64 lo] 0, .imm [.int .i64 hi] 0]] = some ((findE (fun x => rangeE x lo hi) l 0).getD (0, 0)) := by
  refine Fcloud_itemError_within_of _ _ _ _ ?_
  unfold tcloud_itemError_within
  have := lpO_of Icloud_itemError_within_0 XIcloud_itemError_within_0 (itemI_loop lo hi l hl 0 (by omega))
  have this : Lcloud_itemError_within_0 (Tcloud_itemError_within_0a l.length (encI l) lo hi l.length (encI l) l.length 0) = _ := this
  rw [this]
  simp only [bindO_val, List.drop_zero]
  cases findE (fun x => rangeE x lo hi) l 0 <;> rfl
theorem filled_is (m lo hi : Int) (l : List Int) (hl : l.length < 4294967296) :
    Fcloud_filledError_within [.list l.length (encI l), .int .i64 m, .fn 105 [.imm [.int .i64 lo] 0, .imm [.int .i64 hi] 0]] = some (listIE m lo hi l) := by
  refine Fcloud_filledError_within_of _ _ _ _ _ ?_
  unfold tcloud_filledError_within
  have h : Fcloud_listError_within [.list l.length (encI l), .int .i64 m, .fn 105 [.imm [.int .i64 lo] 0, .imm [.int .i64 hi] 0]] = some (if m < l.length then (0, 8) else (findE (fun x => rangeE x lo hi) l 0).getD (0, 0)) := by
    refine Fcloud_listError_within_of _ _ _ _ _ ?_
    unfold tcloud_listError_within
    simp only [itemI_is lo hi l hl, bindO_val]
    by_cases h2 : m < l.length <;> simp [h2]
  simp only [h, bindO_val, bif_eq, listIE]
  by_cases h1 : l.length = 0
  · simp [h1]
  · simp [h1]
def hE (l : List Int) : Int := (listIE 15 0 20000 l).2
end Gv
namespace Gv
open Go
end Gv
namespace Gv
open Go
set_option maxRecDepth 100000
end Gv
