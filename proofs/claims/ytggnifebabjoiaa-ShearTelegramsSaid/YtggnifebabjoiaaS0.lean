/- Errors of the program's parts, and the specification's small functions. -/
import Derived.Test.YtggnifebabjoiaaGvYm
import Derived.Test.YtggnifebabjoiaaP1
import Derived.Test.YtggnifebabjoiaaP5
namespace Gv
open Go
set_option maxRecDepth 100000
theorem eIf_is (b : Bool) (x : Int) : FeIf [.bool b, .int .i64 x] = some (if b then x else 0) := FeIf_of b x (by cases b <;> rfl)
theorem rE_is (x lo hi : Int) : FrE [.int .i64 x, .int .i64 lo, .int .i64 hi] = some (rangeE x lo hi) :=
  FrE_of x lo hi (by
    unfold trE rangeE
    by_cases h1 : x < lo
    · rw [bif_pos h1]; simp [h1]
    · rw [bif_neg h1]
      by_cases h2 : hi < x
      · rw [bif_pos h2]; simp [h2]
      · rw [bif_neg h2]; simp [h1, h2])
theorem wE_is (x : Int) : FwE [.int .i64 x] = some (rangeE x 0 250) := FwE_of x (by unfold twE; simp only [rE_is, bindO_val])
theorem fE3_is (a b c : Int) : FfE3 [.list 3 [.int .i64 a, .int .i64 b, .int .i64 c]] = some (first3 a b c) :=
  FfE3_of a b c (by
    unfold tfE3 first3
    simp only [bif_ne]
    by_cases h1 : a = 0 <;> by_cases h2 : b = 0 <;> by_cases h3 : c = 0 <;> simp [h1, h2, h3])
theorem fE4_is (a b c d : Int) : FfE4 [.list 4 [.int .i64 a, .int .i64 b, .int .i64 c, .int .i64 d]] = some (first4 a b c d) :=
  FfE4_of a b c d (by
    unfold tfE4 first4
    simp only [bif_ne]
    by_cases h1 : a = 0 <;> by_cases h2 : b = 0 <;> by_cases h3 : c = 0 <;> by_cases h4 : d = 0 <;> simp [h1, h2, h3, h4])
theorem bWi_is (x a b : Int) : FbWi [.int .i64 x, .int .i64 a, .int .i64 b] = some (decide (a ≤ x ∧ x ≤ b)) :=
  FbWi_of x a b (by
    unfold tbWi
    by_cases h1 : a ≤ x
    · rw [bif_pos h1]
      by_cases h2 : x ≤ b
      · rw [bif_pos h2]; simp [h1, h2]
      · rw [bif_neg h2]; simp [h1, h2]
    · rw [bif_neg h1]; simp [h1])
end Gv
