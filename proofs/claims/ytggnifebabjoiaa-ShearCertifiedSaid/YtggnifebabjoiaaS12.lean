import Derived.Test.YtggnifebabjoiaaS14
import Derived.Test.YtggnifebabjoiaaA0
import Derived.Test.YtggnifebabjoiaaP2
import Derived.Test.YtggnifebabjoiaaP8

/- Stretches of positions: one by one, and by gates. -/
namespace Gv
open Go
set_option maxRecDepth 100000
theorem snocG {l : List ZZ} (h : l ≠ []) : ∃ pre z, l = pre ++ [z] := ⟨l.dropLast, l.getLast h, (List.dropLast_concat_getLast h).symm⟩
def far (g : Int) (l : List Z3) (x : Int) : Prop := ∀ z ∈ l, g < z.1 - x ∨ g < x - z.1
def inG (l : List ZZ) (x : Int) : Prop := ∃ r ∈ l, r.1 ≤ x ∧ x ≤ r.2
end Gv

/- Headwinds: rounding, errors of legs and boxes; the law. -/
namespace Gv
open Go
set_option maxRecDepth 100000
theorem rangeE_iff (x a b : Int) : rangeE x a b = if a ≤ x ∧ x ≤ b then 0 else 2 := by unfold rangeE; split <;> split <;> omega
def mn (a b : Int) : Int := if b < a then b else a
def mx (a b : Int) : Int := if b > a then b else a
theorem times_is (f a b : Int) : Ftimes [.int .i64 f, .agg [.int .i64 a, .int .i64 b]] = some (mn (w64 (f * a)) (w64 (f * b)), mx (w64 (f * a)) (w64 (f * b))) := Ftimes_of _ _ _ rfl
section
variable {x y l a b c d : Int} (k1 : -1000 ≤ x ∧ x ≤ 1000) (k2 : -1000 ≤ y ∧ y ≤ 1000) (k3 : 1 ≤ l ∧ l ≤ 1000)
  (m1 : -10000 ≤ a ∧ a ≤ 10000) (m2 : -10000 ≤ b ∧ b ≤ 10000) (m3 : -10000 ≤ c ∧ c ≤ 10000) (m4 : -10000 ≤ d ∧ d ≤ 10000)
include k1 k2 k3
include m1 m2 m3 m4
end
end Gv

/- Blind stretches: the program's and the specification's; the lead. -/
namespace Gv
open Go
set_option maxRecDepth 100000
instance (g : Int) (l : List Z3) (x : Int) : Decidable (far g l x) := by unfold far; infer_instance
theorem over_lastG (pre : List ZZ) (z : ZZ) (x : Int) : over (encG (pre ++ [z])) (pre.length * 2 + 1) [.int .i64 x] = encG (pre ++ [(z.1, x)]) := by
  unfold over
  have hl0 : (encG pre).length = pre.length * 2 := flat_len enc2 2 enc2_len pre
  have e : encG (pre ++ [z]) = (encG pre ++ [PV.int .i64 z.1]) ++ [.int .i64 z.2] := by simp [encG, enc2]
  have hl : (encG pre ++ [PV.int .i64 z.1]).length = pre.length * 2 + 1 := by simp [hl0]
  rw [e, List.take_left' hl, List.drop_of_length_le (by rw [List.length_append, hl]; simp)]
  simp [encG, enc2]
theorem overO_lastG (pre : List ZZ) (z : ZZ) (x : Int) : overO (encG (pre ++ [z])) (pre.length * 2 + 1) [.int .i64 x] = some (encG (pre ++ [(z.1, x)])) := by
  rw [overO_of (by rw [encG_len]; simp; omega), over_lastG]
theorem encG_snoc2 (l : List ZZ) (a b : Int) : encG l ++ [.int .i64 a, .int .i64 b] = encG (l ++ [(a, b)]) := by simp [encG, enc2]
instance (l : List ZZ) (x : Int) : Decidable (inG l x) := by unfold inG; infer_instance
end Gv
