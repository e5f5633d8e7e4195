/- Alerts: the state after an event, and at a tick; the program's and the specification's. -/
import Derived.Test.YtggnifebabjoiaaS0
import Derived.Test.YtggnifebabjoiaaP3
namespace Gv
open Go
set_option maxRecDepth 100000
abbrev R4 := Int × Int × Int × Int
abbrev St5 := Bool × Int × Int × Int × Int
abbrev encR4 (r : R4) : PV := .agg [.int .i64 r.1, .int .i64 r.2.1, .int .i64 r.2.2.1, .int .i64 r.2.2.2]
abbrev encE3 (e : Z3) : PV := .agg [.int .i64 e.1, .int .i64 e.2.1, .int .i64 e.2.2]
def passV (r : R4) (s : St5) (t : Int) : St5 := if s.1 = true ∧ r.2.2.2 < w64 (t - s.2.2.2.1) then (false, s.2.1, 0, s.2.2.2.1, -1) else s
def listenV (r : R4) (s : St5) (e : Z3) : St5 :=
  if r.2.1 ≤ e.2.2 then (s.1, s.2.1, s.2.2.1, s.2.2.2.1, -1) else
  if r.2.2.1 ≤ w64 (e.1 - (if s.2.2.2.2 = -1 then e.1 else s.2.2.2.2)) then (false, s.2.1, 0, s.2.2.2.1, -1)
  else (s.1, s.2.1, s.2.2.1, s.2.2.2.1, if s.2.2.2.2 = -1 then e.1 else s.2.2.2.2)
def hear2 (r : R4) (s : St5) (e : Z3) : St5 := if s.1 = true then listenV r s e else s
def hear3 (r : R4) (s : St5) (e : Z3) : St5 := if s.1 = false ∧ r.1 ≤ e.2.1 then (true, w64 (s.2.1 + 1), e.1, e.1, s.2.2.2.2) else (s.1, s.2.1, s.2.2.1, e.1, s.2.2.2.2)
def hearV (r : R4) (s : St5) (e : Z3) : St5 := hear3 r (hear2 r (passV r s e.1) e) e
def ruleE (r : R4) : Int := if (1 ≤ r.1 ∧ r.1 ≤ 20000) ∧ (0 ≤ r.2.1 ∧ r.2.1 ≤ 20000) ∧ (0 ≤ r.2.2.1 ∧ r.2.2.1 ≤ 100000) ∧ (1 ≤ r.2.2.2 ∧ r.2.2.2 ≤ 100000) then (if r.2.1 > r.1 then 9 else 0) else 2
theorem ruleE_ok {r : R4} (h : ruleE r = 0) : 1 ≤ r.1 ∧ r.1 ≤ 20000 ∧ 0 ≤ r.2.1 ∧ r.2.1 ≤ r.1 ∧ 0 ≤ r.2.2.1 ∧ r.2.2.1 ≤ 100000 ∧ 1 ≤ r.2.2.2 ∧ r.2.2.2 ≤ 100000 := by
  unfold ruleE at h
  split at h
  · split at h <;> omega
  · omega
theorem rangeE_if (x a b : Int) : rangeE x a b = if a ≤ x ∧ x ≤ b then 0 else 2 := by unfold rangeE; split <;> split <;> omega
theorem cRule_is (r : R4) : FcRule [encR4 r] = some (ruleE r) := by
  refine FcRule_of _ _ _ _ ?_
  unfold tcRule
  simp only [rE_is, eIf_is, fE5_is, bindO_val, bif_dec, rangeE_if]
  unfold first5 ruleE
  by_cases h1 : 1 ≤ r.1 ∧ r.1 ≤ 20000 <;> by_cases h2 : 0 ≤ r.2.1 ∧ r.2.1 ≤ 20000 <;> by_cases h3 : 0 ≤ r.2.2.1 ∧ r.2.2.1 ≤ 100000 <;> by_cases h4 : 1 ≤ r.2.2.2 ∧ r.2.2.2 ≤ 100000 <;> by_cases h5 : r.2.1 > r.1 <;>
    simp only [h1, h2, h3, h4, h5, if_true, if_false, and_self, and_false, false_and, and_true, true_and, ne_eq, not_true_eq_false, Bool.false_eq_true] <;> rfl
theorem rRuE_is (r : R4) : FrRuE [encR4 r] = some (ruleE r) := by
  refine FrRuE_of _ _ _ _ ?_
  unfold trRuE ruleE
  simp only [bWi_is, bindO_val, bif_dec]
  by_cases h1 : 1 ≤ r.1 ∧ r.1 ≤ 20000 <;> by_cases h2 : 0 ≤ r.2.1 ∧ r.2.1 ≤ 20000 <;> by_cases h3 : 0 ≤ r.2.2.1 ∧ r.2.2.1 ≤ 100000 <;> by_cases h4 : 1 ≤ r.2.2.2 ∧ r.2.2.2 ≤ 100000 <;> by_cases h5 : r.2.1 > r.1 <;>
    simp only [h1, h2, h3, h4, h5, if_true, if_false, and_self, and_false, false_and, and_true, true_and]
def eventE (e : Z3) : Int := both (rangeE e.1 0 1000000000000) (endE (-20000) 20000 e.2.1 e.2.2)
theorem eventE_ok {e : Z3} (h : eventE e = 0) : 0 ≤ e.1 ∧ e.1 ≤ 1000000000000 ∧ -20000 ≤ e.2.1 ∧ e.2.1 ≤ e.2.2 ∧ e.2.2 ≤ 20000 := by
  obtain ⟨h1, h2⟩ := both_nil h
  have := rangeE_ok h1
  have := endE_ok h2
  omega
theorem evE_is (e : Z3) : FevE [encE3 e] = some (eventE e) := by
  refine FevE_of _ _ _ ?_
  unfold tevE
  simp only [rE_is, eeA_is, fE2_is, bindO_val]
  rfl
theorem rEvE_is (e : Z3) : FrEvE [encE3 e] = some (eventE e) := by
  refine FrEvE_of _ _ _ ?_
  obtain ⟨a, lo, hi⟩ := e
  unfold trEvE eventE both
  simp only [bTick_is, rIsL_is, bindO_val, bif_dec, rangeE_if, endE_of]
  by_cases h1 : 0 ≤ a ∧ a ≤ 1000000000000 <;> by_cases h2 : -20000 ≤ lo ∧ lo ≤ 20000 <;> by_cases h3 : -20000 ≤ hi ∧ hi ≤ 20000 <;> by_cases h4 : lo > hi <;> simp [h1, h2, h3, h4]
end Gv
