/- Errors of the program's parts, and the specification's small functions. -/
import Derived.Test.YtggnifebabjoiaaGvYm
import Derived.Test.YtggnifebabjoiaaP1
import Derived.Test.YtggnifebabjoiaaP5
namespace Gv
open Go
set_option maxRecDepth 100000
abbrev Z3 := Int × Int × Int
def enc3 (z : Z3) : List PV := [.int .i64 z.1, .int .i64 z.2.1, .int .i64 z.2.2]
def encT (l : List Z3) : List PV := l.flatMap enc3
theorem eIf_is (b : Bool) (x : Int) : FeIf [.bool b, .int .i64 x] = some (if b then x else 0) := FeIf_of b x (by cases b <;> rfl)
theorem rE_is (x lo hi : Int) : FrE [.int .i64 x, .int .i64 lo, .int .i64 hi] = some (rangeE x lo hi) :=
  FrE_of x lo hi (by
    unfold trE rangeE
    by_cases h1 : x < lo
    · rw [bif_pos h1]; simp [h1]
    · rw [bif_neg h1]
      by_cases h2 : hi < x
      · rw [bif_pos h2]; simp [h2]
      · rw [bif_neg h2]; simp [h1, h2])
theorem wE_is (x : Int) : FwE [.int .i64 x] = some (rangeE x 0 250) := FwE_of x (by unfold twE; simp only [rE_is, bindO_val])
theorem fE3_is (a b c : Int) : FfE3 [.list 3 [.int .i64 a, .int .i64 b, .int .i64 c]] = some (first3 a b c) :=
  FfE3_of a b c (by
    unfold tfE3 first3
    simp only [bif_ne]
    by_cases h1 : a = 0 <;> by_cases h2 : b = 0 <;> by_cases h3 : c = 0 <;> simp [h1, h2, h3])
theorem fE4_is (a b c d : Int) : FfE4 [.list 4 [.int .i64 a, .int .i64 b, .int .i64 c, .int .i64 d]] = some (first4 a b c d) :=
  FfE4_of a b c d (by
    unfold tfE4 first4
    simp only [bif_ne]
    by_cases h1 : a = 0 <;> by_cases h2 : b = 0 <;> by_cases h3 : c = 0 <;> by_cases h4 : d = 0 <;> simp [h1, h2, h3, h4])
theorem bWi_is (x a b : Int) : FbWi [.int .i64 x, .int .i64 a, .int .i64 b] = some (decide (a ≤ x ∧ x ≤ b)) :=
  FbWi_of x a b (by
    unfold tbWi
    by_cases h1 : a ≤ x
    · rw [bif_pos h1]
      by_cases h2 : x ≤ b
      · rw [bif_pos h2]; simp [h1, h2]
      · rw [bif_neg h2]; simp [h1, h2]
    · rw [bif_neg h1]; simp [h1])
theorem bMod_is (x n : Int) (h : 0 < n) (h2 : n ≤ 4611686018427387904) : FbMod [.int .i64 x, .int .i64 n] = some (x % n) :=
  FbMod_of x n (by
    unfold tbMod
    rw [bif_pos (by omega)]
    have e : x % n = if x.tmod n < 0 then x.tmod n + n else x.tmod n := by
      rw [Int.tmod_eq_emod]
      have := Int.emod_nonneg x (by omega : n ≠ 0)
      have := Int.emod_lt_of_pos x h
      split <;> split <;> omega
    have := Int.emod_nonneg x (by omega : n ≠ 0)
    have := Int.emod_lt_of_pos x h
    rw [e] at *
    by_cases hc : x.tmod n < 0
    · rw [bif_pos hc]
      simp only [hc, if_true] at *
      rw [w64_in (by omega)]
    · rw [bif_neg hc]
      simp only [hc, if_false] at *)
end Gv
