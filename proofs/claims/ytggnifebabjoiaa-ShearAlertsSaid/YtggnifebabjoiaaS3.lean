/- The state after an event; the program's and the specification's. -/
import Derived.Test.YtggnifebabjoiaaS1
namespace Gv
open Go
set_option maxRecDepth 100000
abbrev flat6 (s : St5) (e : Int) : Bool × Int × Int × Int × Int × Int := (s.1, s.2.1, s.2.2.1, s.2.2.2.1, s.2.2.2.2, e)
abbrev zero6 (e : Int) : Bool × Int × Int × Int × Int × Int := (false, 0, 0, 0, 0, e)
theorem rCalm_is (s : St5) : FrCalm [encS5 s] = some (false, s.2.1, 0, s.2.2.2.1, -1) := FrCalm_of _ _ _ _ _ rfl
theorem rExp_is (r : R4) (s : St5) (t : Int) : FrExp [encR4 r, encS5 s, .int .i64 t] = some (passV r s t) := by
  refine FrExp_of _ _ _ _ _ _ _ _ _ _ ?_
  have hc := rCalm_is s
  obtain ⟨b, n, si, h, q⟩ := s
  obtain ⟨ra, cl, ho, ti⟩ := r
  unfold trExp passV
  cases b with
  | true =>
    have hc' : FrCalm [.agg [.bool true, .int .i64 n, .int .i64 si, .int .i64 h, .int .i64 q]] = some (false, n, 0, h, -1) := hc
    simp only [cond_true, hc', bindO_val, bif_dec]
    by_cases h0 : w64 (t - h) > ti <;> simp [h0]
  | false => simp
theorem rFst_is : FrFst [] = some (false, 0, 0, -1, -1) := FrFst_of rfl
def rNextV (r : R4) (s : St5) (e : Z3) : Bool × Int × Int × Int × Int × Int :=
  if e.1 ≤ s.2.2.2.1 then zero6 9 else
  if (hear2 r (passV r s e.1) e).1 = false ∧ r.1 ≤ e.2.1 ∧ (hear2 r (passV r s e.1) e).2.1 = 62500 then zero6 15 else flat6 (hearV r s e) 0
theorem calm' (b : Bool) (n si h q : Int) : FrCalm [.agg [.bool b, .int .i64 n, .int .i64 si, .int .i64 h, .int .i64 q]] = some (false, n, 0, h, -1) := rCalm_is (b, n, si, h, q)
theorem exp' (r : R4) (b : Bool) (n si h q t : Int) : FrExp [encR4 r, .agg [.bool b, .int .i64 n, .int .i64 si, .int .i64 h, .int .i64 q], .int .i64 t] = some (passV r (b, n, si, h, q) t) := rExp_is r (b, n, si, h, q) t
theorem rNext_is (r : R4) (s : St5) (e : Z3) : FrNext [encR4 r, encS5 s, encE3 e] = some (rNextV r s e) := by
  refine FrNext_of _ _ _ _ _ _ _ _ _ _ _ _ ?_
  have hx := exp' r
  obtain ⟨b, n, si, h, q⟩ := s
  obtain ⟨ra, cl, ho, ti⟩ := r
  obtain ⟨at_, lo, hi⟩ := e
  simp only [encR4] at hx
  unfold trNext rNextV hearV
  by_cases hord : at_ ≤ h
  · rw [bif_pos hord, if_pos hord]
  · rw [bif_neg hord, if_neg hord]
    cases b with
    | true =>
      simp only [cond_true, hx, bindO_val, calm']
      generalize passV (ra, cl, ho, ti) (true, n, si, h, q) at_ = s1
      obtain ⟨b1, n1, si1, h1, q1⟩ := s1
      unfold hear3 hear2 listenV
      cases b1 with
      | true =>
        by_cases k1 : hi < cl
        · have k1' : ¬ cl ≤ hi := by omega
          by_cases k2 : q1 = -1
          · by_cases k3 : w64 (at_ - at_) ≥ ho <;> by_cases k5 : lo ≥ ra <;> by_cases k6 : n1 = 62500 <;> simp [-Int.sub_self, bif_eq, k1, k1', k2, k3, k5, k6]
          · by_cases k3 : w64 (at_ - q1) ≥ ho <;> by_cases k5 : lo ≥ ra <;> by_cases k6 : n1 = 62500 <;> simp [-Int.sub_self, bif_eq, k1, k1', k2, k3, k5, k6]
        · have k1' : cl ≤ hi := by omega
          simp [bif_eq, k1, k1']
      | false => by_cases k5 : lo ≥ ra <;> by_cases k6 : n1 = 62500 <;> simp [bif_eq, k5, k6]
    | false =>
      simp only [cond_false, hx, bindO_val, calm']
      have : passV (ra, cl, ho, ti) (false, n, si, h, q) at_ = (false, n, si, h, q) := by simp [passV]
      rw [this]
      unfold hear3 hear2
      by_cases k5 : lo ≥ ra <;> by_cases k6 : n = 62500 <;> simp [bif_eq, k5, k6]
end Gv
