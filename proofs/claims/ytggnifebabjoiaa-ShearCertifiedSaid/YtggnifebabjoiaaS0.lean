/- Errors of the program's parts, and the specification's small functions. -/
import Derived.Test.YtggnifebabjoiaaGvYm
import Derived.Test.YtggnifebabjoiaaP1
import Derived.Test.YtggnifebabjoiaaP5
namespace Gv
open Go
set_option maxRecDepth 100000
abbrev Z3 := Int × Int × Int
def enc3 (z : Z3) : List PV := [.int .i64 z.1, .int .i64 z.2.1, .int .i64 z.2.2]
def encT (l : List Z3) : List PV := l.flatMap enc3
theorem enc3_len (z : Z3) : (enc3 z).length = 3 := rfl
theorem encT_len (l : List Z3) : (encT l).length = l.length * 3 := flat_len enc3 3 enc3_len l
theorem encT_0 (l : List Z3) (i : Nat) : (encT l)[i * 3]? = l[i]?.map fun z => PV.int .i64 z.1 := by
  have := flat_get enc3 3 enc3_len l i 0 (by omega)
  rw [Nat.add_zero] at this
  unfold encT
  rw [this]
  cases l[i]? <;> rfl
theorem encT_1 (l : List Z3) (i : Nat) : (encT l)[i * 3 + 1]? = l[i]?.map fun z => PV.int .i64 z.2.1 := by
  unfold encT
  rw [flat_get enc3 3 enc3_len l i 1 (by omega)]
  cases l[i]? <;> rfl
theorem encT_2 (l : List Z3) (i : Nat) : (encT l)[i * 3 + 1 + 1]? = l[i]?.map fun z => PV.int .i64 z.2.2 := by
  have := flat_get enc3 3 enc3_len l i 2 (by omega)
  unfold encT
  rw [show i * 3 + 1 + 1 = i * 3 + 2 by omega, this]
  cases l[i]? <;> rfl
theorem encT_0' (l : List Z3) (i : Nat) : (encT l)[i * 3 + 0]? = l[i]?.map fun z => PV.int .i64 z.1 := encT_0 l i
theorem encT_1' (l : List Z3) (i : Nat) : (encT l)[i * 3 + 1 + 0]? = l[i]?.map fun z => PV.int .i64 z.2.1 := encT_1 l i
theorem eIf_is (b : Bool) (x : Int) : FeIf [.bool b, .int .i64 x] = some (if b then x else 0) := FeIf_of b x (by cases b <;> rfl)
theorem rE_is (x lo hi : Int) : FrE [.int .i64 x, .int .i64 lo, .int .i64 hi] = some (rangeE x lo hi) :=
  FrE_of x lo hi (by
    unfold trE rangeE
    by_cases h1 : x < lo
    · rw [bif_pos h1]; simp [h1]
    · rw [bif_neg h1]
      by_cases h2 : hi < x
      · rw [bif_pos h2]; simp [h2]
      · rw [bif_neg h2]; simp [h1, h2])
theorem lenE_is (x : Int) : FlenE [.int .i64 x] = some (rangeE x 0 50000) := FlenE_of x (by unfold tlenE; simp only [rE_is, bindO_val])
theorem wE_is (x : Int) : FwE [.int .i64 x] = some (rangeE x 0 250) := FwE_of x (by unfold twE; simp only [rE_is, bindO_val])
theorem fE2_is (a b : Int) : FfE2 [.list 2 [.int .i64 a, .int .i64 b]] = some (both a b) :=
  FfE2_of a b (by
    unfold tfE2 both
    simp only [bif_ne]
    by_cases h1 : a = 0 <;> by_cases h2 : b = 0 <;> simp [h1, h2])
theorem fE3_is (a b c : Int) : FfE3 [.list 3 [.int .i64 a, .int .i64 b, .int .i64 c]] = some (first3 a b c) :=
  FfE3_of a b c (by
    unfold tfE3 first3
    simp only [bif_ne]
    by_cases h1 : a = 0 <;> by_cases h2 : b = 0 <;> by_cases h3 : c = 0 <;> simp [h1, h2, h3])
theorem fE4_is (a b c d : Int) : FfE4 [.list 4 [.int .i64 a, .int .i64 b, .int .i64 c, .int .i64 d]] = some (first4 a b c d) :=
  FfE4_of a b c d (by
    unfold tfE4 first4
    simp only [bif_ne]
    by_cases h1 : a = 0 <;> by_cases h2 : b = 0 <;> by_cases h3 : c = 0 <;> by_cases h4 : d = 0 <;> simp [h1, h2, h3, h4])
def endE (lo hi a b : Int) : Int := both (both (rangeE a lo hi) (rangeE b lo hi)) (if b < a then 9 else 0)
theorem ee1_is (a b lo hi : Int) : Fee1 [.agg [.int .i64 a, .int .i64 b], .imm [.int .i64 lo] 0, .imm [.int .i64 hi] 0] = some (both (rangeE a lo hi) (rangeE b lo hi)) :=
  Fee1_of _ _ _ _ (by unfold tee1; simp only [rE_is, fE2_is, bindO_val])
theorem ee2_is (a b : Int) : Fee2 [.agg [.int .i64 a, .int .i64 b]] = some (if b < a then 9 else 0) :=
  Fee2_of _ _ (by
    unfold tee2
    simp only [eIf_is, bindO_val, bif_dec]
    by_cases h : b < a
    · simp [h]
    · simp [h])
theorem eeA_is (lo hi a b : Int) : FeeA [.int .i64 lo, .int .i64 hi, .list 1 [.int .i64 a, .int .i64 b]] = some (endE lo hi a b) :=
  FeeA_of _ _ _ _ (by
    unfold teeA endE
    simp only [ee1_is, ee2_is, fE2_is, bindO_val, bif_ne]
    generalize both (rangeE a lo hi) (rangeE b lo hi) = x
    generalize (if b < a then (9 : Int) else 0) = y
    by_cases h1 : x = 0 <;> by_cases h2 : y = 0 <;> simp [h1, h2])
theorem endE_of (lo hi a b : Int) : endE lo hi a b = if lo ≤ a ∧ a ≤ hi ∧ lo ≤ b ∧ b ≤ hi then (if b < a then 9 else 0) else 2 := by
  unfold endE both rangeE
  split <;> split <;> (try split) <;> (try split) <;> (try split) <;> omega
theorem endE_ok {lo hi a b : Int} (h : endE lo hi a b = 0) : lo ≤ a ∧ a ≤ b ∧ b ≤ hi := by
  rw [endE_of] at h
  split at h
  · split at h <;> omega
  · omega
theorem bWi_is (x a b : Int) : FbWi [.int .i64 x, .int .i64 a, .int .i64 b] = some (decide (a ≤ x ∧ x ≤ b)) :=
  FbWi_of x a b (by
    unfold tbWi
    by_cases h1 : a ≤ x
    · rw [bif_pos h1]
      by_cases h2 : x ≤ b
      · rw [bif_pos h2]; simp [h1, h2]
      · rw [bif_neg h2]; simp [h1, h2]
    · rw [bif_neg h1]; simp [h1])
theorem rWind_is (x : Int) : FrWind [.int .i64 x] = some (decide (-10000 ≤ x ∧ x ≤ 10000)) :=
  FrWind_of x (by
    unfold trWind
    simp only [bWi_is, bindO_val]
    by_cases h : -10000 ≤ x ∧ x ≤ 10000
    · rw [bif_pos h]; simp [h]
    · rw [bif_neg h]; simp [h])
theorem rAtE_is (x : Int) : FrAtE [.int .i64 x] = some (rangeE x 0 50000) :=
  FrAtE_of x (by
    unfold trAtE
    simp only [bWi_is, bindO_val]
    by_cases h : 0 ≤ x ∧ x ≤ 50000
    · rw [bif_pos h, rangeE_in h]
    · rw [bif_neg h, rangeE_out h])
theorem bMod_is (x n : Int) (h : 0 < n) (h2 : n ≤ 4611686018427387904) : FbMod [.int .i64 x, .int .i64 n] = some (x % n) :=
  FbMod_of x n (by
    unfold tbMod
    rw [bif_pos (by omega)]
    have e : x % n = if x.tmod n < 0 then x.tmod n + n else x.tmod n := by
      rw [Int.tmod_eq_emod]
      have := Int.emod_nonneg x (by omega : n ≠ 0)
      have := Int.emod_lt_of_pos x h
      split <;> split <;> omega
    have := Int.emod_nonneg x (by omega : n ≠ 0)
    have := Int.emod_lt_of_pos x h
    rw [e] at *
    by_cases hc : x.tmod n < 0
    · rw [bif_pos hc]
      simp only [hc, if_true] at *
      rw [w64_in (by omega)]
    · rw [bif_neg hc]
      simp only [hc, if_false] at *)
end Gv
