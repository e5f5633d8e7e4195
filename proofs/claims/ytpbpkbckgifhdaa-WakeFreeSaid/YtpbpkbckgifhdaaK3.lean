/- What two boxes have in common. -/
import Derived.Test.YtpbpkbckgifhdaaK2
namespace Gv
open Go
set_option maxRecDepth 100000
def mxV (x y : Int) : Int := if y > x then y else x
def mnV (x y : Int) : Int := if y < x then y else x
def meetV (a b : B6) : B6 := (mxV a.1 b.1, mnV a.2.1 b.2.1, mxV a.2.2.1 b.2.2.1, mnV a.2.2.2.1 b.2.2.2.1, mxV a.2.2.2.2.1 b.2.2.2.2.1, mnV a.2.2.2.2.2 b.2.2.2.2.2)
def Good (b : B6) : Prop := b.1 ≤ b.2.1 ∧ b.2.2.1 ≤ b.2.2.2.1 ∧ b.2.2.2.2.1 ≤ b.2.2.2.2.2
instance (b : B6) : Decidable (Good b) := by unfold Good; infer_instance
def zero6 : B6 := (0, 0, 0, 0, 0, 0)
def app7 {α : Type} (b : B6) (x : α) : Int × Int × Int × Int × Int × Int × α := (b.1, b.2.1, b.2.2.1, b.2.2.2.1, b.2.2.2.2.1, b.2.2.2.2.2, x)
theorem meet_is (a b : B6) : Fmeet [enc6 a, enc6 b] = some (meetV a b) := Fmeet_of _ _ _ _ _ _ _ _ _ _ _ _ rfl
theorem isEm_is (b : B6) : FisEm [enc6 b] = some (decide (¬ Good b)) := by
  refine FisEm_of _ _ _ _ _ _ ?_
  unfold tisEm
  have h := orC_is b.1 b.2.1 b.2.2.1 b.2.2.2.1 b.2.2.2.2.1 b.2.2.2.2.2
  simp only [h, bindO_val, first_ord]
  unfold ord3
  by_cases hg : Good b
  · have hg' := hg
    unfold Good at hg'
    rw [if_pos hg']; simp [hg]
  · have hg' := hg
    unfold Good at hg'
    rw [if_neg hg']; simp [hg]
theorem rmt_is (a b c d : Int) : Frmt [.agg [.int .i64 a, .int .i64 b], .agg [.int .i64 c, .int .i64 d]] = some (mxV a c, mnV b d, decide (mxV a c ≤ mnV b d)) := by
  refine Frmt_of _ _ _ _ ?_
  unfold trmt
  unfold mxV mnV
  by_cases h : (if c > a then c else a) ≤ (if d < b then d else b)
  · rw [bif_pos h]; simp [h]
  · rw [bif_neg h]; simp [h]
def meetB (a b : B6) : B6 := if Good (meetV a b) then meetV a b else zero6
theorem rMeet_is (a b : B6) : FrMeet [enc6 a, enc6 b] = some (app7 (meetB a b) (decide (Good (meetV a b)))) := by
  refine FrMeet_of _ _ _ _ _ _ _ _ _ _ _ _ ?_
  unfold trMeet
  simp only [rmt_is, bindO_val]
  unfold meetB app7
  by_cases h1 : mxV a.1 b.1 ≤ mnV a.2.1 b.2.1 <;> by_cases h2 : mxV a.2.2.1 b.2.2.1 ≤ mnV a.2.2.2.1 b.2.2.2.1 <;> by_cases h3 : mxV a.2.2.2.2.1 b.2.2.2.2.1 ≤ mnV a.2.2.2.2.2 b.2.2.2.2.2 <;>
    simp [h1, h2, h3, Good, meetV, zero6]
end Gv
