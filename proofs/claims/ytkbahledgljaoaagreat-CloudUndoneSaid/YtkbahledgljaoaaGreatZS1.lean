/- Errors, copies: what they give. -/
import Derived.Test.YtkbahledgljaoaaGreatGvYk
import Derived.Test.YtkbahledgljaoaaGreatZC5
namespace Gv
open Go
set_option maxRecDepth 100000

theorem errorIf_is (b : Bool) (x : Int) : Fcloud_errorIf [.bool b, .int .i64 x] = some (if b then x else 0) :=
  Fcloud_errorIf_of b x (by cases b <;> rfl)
theorem rangeError_is (x a b : Int) : Fcloud_rangeError [.int .i64 x, .int .i64 a, .int .i64 b] = some (rangeE x a b) :=
  Fcloud_rangeError_of x a b (by
    unfold tcloud_rangeError rangeE
    simp only [errorIf_is, bindO_val]
    by_cases h1 : x < a <;> by_cases h2 : b < x <;> simp [h1, h2])
theorem within_is (x a b : Int) : Fb_Within [.int .i64 x, .int .i64 a, .int .i64 b] = some (decide (a ≤ x ∧ x ≤ b)) :=
  Fb_Within_of x a b (by
    unfold tb_Within
    by_cases h1 : a ≤ x <;> by_cases h2 : x ≤ b <;> simp [h1, h2])
theorem firstError2_is (a b : Int) : Fcloud_firstError_2 [.list 2 [.int .i64 a, .int .i64 b]] = some (both a b) :=
  Fcloud_firstError_2_of a b (by
    unfold tcloud_firstError_2 both
    simp only [bif_ne]
    by_cases h1 : a = 0 <;> by_cases h2 : b = 0 <;> simp [h1, h2])
theorem firstError3_is (a b c : Int) : Fcloud_firstError_3 [.list 3 [.int .i64 a, .int .i64 b, .int .i64 c]] = some (first3 a b c) :=
  Fcloud_firstError_3_of a b c (by
    unfold tcloud_firstError_3 first3
    simp only [bif_ne]
    by_cases h1 : a = 0 <;> by_cases h2 : b = 0 <;> by_cases h3 : c = 0 <;> simp [h1, h2, h3])
theorem firstError4_is (a b c d : Int) : Fcloud_firstError_4 [.list 4 [.int .i64 a, .int .i64 b, .int .i64 c, .int .i64 d]] = some (first4 a b c d) :=
  Fcloud_firstError_4_of a b c d (by
    unfold tcloud_firstError_4 first4
    simp only [bif_ne]
    by_cases h1 : a = 0 <;> by_cases h2 : b = 0 <;> by_cases h3 : c = 0 <;> by_cases h4 : d = 0 <;> simp [h1, h2, h3, h4])
theorem both_is (a b : Int) : Fl8_both [.int .i64 a, .int .i64 b] = some (both a b) := by
  refine Fl8_both_of _ _ ?_
  unfold tl8_both both
  rw [bif_ne]
  by_cases h : a = 0
  · rw [if_pos h, if_neg (by simp [h])]
  · rw [if_neg h, if_pos h]
theorem few_is (l : List Int) : Fl8_few [.list l.length (encI l)] = some (decide (l.length ≤ 26)) := by
  refine Fl8_few_of _ _ ?_
  unfold tl8_few
  by_cases h : l.length ≤ 26
  · rw [bif_pos (by omega), decide_eq_true h]
  · rw [bif_neg (by omega), decide_eq_false h]
theorem copyI_is (l : List Int) (hl : l.length ≤ 1000000) : Fb_CopyInts [.list l.length (encI l)] = some (l.length, encI l) := by
  refine Fb_CopyInts_of _ _ ?_
  unfold tb_CopyInts
  by_cases h : l.length = 0
  · rw [bif_pos h]
    have := List.eq_nil_of_length_eq_zero h
    subst this
    rfl
  · rw [bif_neg h, bif_pos (by simp), bif_pos ⟨rfl, by unfold big; omega⟩, bif_pos rfl]
    simp
end Gv
