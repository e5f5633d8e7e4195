/- The law about rules, states and the next state. -/
import Derived.Test.YtggnifebabjoiaaA0
import Derived.Test.YtggnifebabjoiaaS5
import Derived.Test.YtggnifebabjoiaaP7b
namespace Gv
open Go
set_option maxRecDepth 100000
def Vd (s : St5) : Prop := (0 ≤ s.2.1 ∧ s.2.1 ≤ 62500) ∧ (0 ≤ s.2.2.1 ∧ s.2.2.1 ≤ 1000000000000) ∧ (-1 ≤ s.2.2.2.1 ∧ s.2.2.2.1 ≤ 1000000000000) ∧ (-1 ≤ s.2.2.2.2 ∧ s.2.2.2.2 ≤ 1000000000000) ∧
  (s.1 = true → s.2.1 > 0 ∧ s.2.2.1 ≤ s.2.2.2.1 ∧ s.2.2.2.2 ≤ s.2.2.2.1 ∧ (s.2.2.2.2 = -1 ∨ s.2.2.1 ≤ s.2.2.2.2)) ∧ (s.1 = false → s.2.2.1 = 0 ∧ s.2.2.2.2 = -1)
theorem stateE_vd {s : St5} : stateE s = 0 ↔ Vd s := by
  obtain ⟨b, n, si, h, q⟩ := s
  unfold stateE posV Vd
  cases b with
  | true =>
    simp only [if_true, decide_eq_true_eq, Bool.true_eq_false, false_implies, and_true, true_implies]
    split
    · split
      · simp_all
      · simp_all
    · constructor
      · intro h; omega
      · intro h; simp_all
  | false =>
    simp only [if_false, decide_eq_true_eq, Bool.false_eq_true, false_implies, true_and, true_implies]
    split
    · split
      · simp_all
      · simp_all
    · constructor
      · intro h; omega
      · intro h; simp_all
theorem hear_vd {r : R4} {s : St5} {e : Z3} (hr : ruleE r = 0) (hs : Vd s) (he : eventE e = 0) (hh : s.2.2.2.1 < e.1) (hn : (hearV r s e).2.1 ≤ 62500) : Vd (hearV r s e) := by
  have hr := ruleE_ok hr
  have he := eventE_ok he
  obtain ⟨b, n, si, h, q⟩ := s
  obtain ⟨ra, cl, ho, ti⟩ := r
  obtain ⟨at_, lo, hi⟩ := e
  unfold Vd at hs
  simp only at hr he hh hs
  have w1 : w64 (n + 1) = n + 1 := w64_in (by omega)
  unfold hearV hear3 hear2 listenV passV at hn ⊢
  unfold Vd
  cases b with
  | true =>
    simp only [true_implies, Bool.true_eq_false, false_implies, and_true] at hs
    by_cases h0 : ti < w64 (at_ - h)
    · by_cases h5 : ra ≤ lo
      · simp [h0, h5, w1] at hn ⊢; omega
      · simp [h0, h5, w1] at hn ⊢; omega
    · by_cases h1 : cl ≤ hi
      · simp [h0, h1, w1] at hn ⊢; omega
      · by_cases h2 : q = -1
        · by_cases h3 : ho ≤ w64 (at_ - at_) <;> by_cases h5 : ra ≤ lo <;> simp [-Int.sub_self, h0, h1, h2, h3, h5, w1] at hn ⊢ <;> omega
        · by_cases h3 : ho ≤ w64 (at_ - q) <;> by_cases h5 : ra ≤ lo <;> simp [h0, h1, h2, h3, h5, w1] at hn ⊢ <;> omega
  | false =>
    simp only [Bool.false_eq_true, false_implies, true_implies, true_and] at hs
    by_cases h5 : ra ≤ lo
    · simp [h5, w1] at hn ⊢; omega
    · simp [h5, w1] at hn ⊢; omega
theorem nx' (r : R4) (b : Bool) (n si h q x y z : Int) : Fnext [encR4 r, .agg [.bool b, .int .i64 n, .int .i64 si, .int .i64 h, .int .i64 q], .agg [.int .i64 x, .int .i64 y, .int .i64 z]] = some (nextV r (b, n, si, h, q) (x, y, z)) := next_is r (b, n, si, h, q) (x, y, z)
end Gv
