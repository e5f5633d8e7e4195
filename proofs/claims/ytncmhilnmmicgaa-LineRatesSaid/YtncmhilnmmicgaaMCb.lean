/- Light cases, and the bias of an estimator. -/
import Derived.Test.YtncmhilnmmicgaaMC3
namespace Gv
open Go
set_option maxRecDepth 100000

theorem light_is (s v : List Int) {n d : Int} (hd : I64 d) : FLwlight [.agg [.list s.length (encI s), .list v.length (encI v), .int .i64 n, .int .i64 d]] =
    some (decide (s.length ≤ 20) && (decide (v.length ≤ 20) && (decide (caE s v n d ≠ 0) || decide (cnt s v ≤ 256)))) := by
  refine FLwlight_of _ _ _ _ _ _ ?_
  unfold tLwlight
  simp only [short_is, refCaseErr_is s v hd, bindO_val, bif_dec, bif_ne]
  by_cases h1 : s.length ≤ 20
  · by_cases h2 : v.length ≤ 20
    · rw [if_pos h1, if_pos h2, decide_eq_true h1, decide_eq_true h2, Bool.true_and, Bool.true_and]
      by_cases h3 : caE s v n d = 0
      · simp only [h3, if_true, refCasesC (ca_ok h3), bindO_val, ne_eq, not_true_eq_false, decide_false, Bool.false_or]
        by_cases h4 : cnt s v ≤ 256
        · rw [if_pos (by omega), decide_eq_true h4]
        · rw [if_neg (by omega), decide_eq_false h4]
      · simp only [h3, if_false, ne_eq, not_false_eq_true, decide_true, Bool.true_or]
    · rw [if_pos h1, if_neg h2, decide_eq_false h2, Bool.false_and, Bool.and_false]
  · rw [if_neg h1, decide_eq_false h1, Bool.false_and]

def biE (s v : List Int) (n d kind : Int) : Int := both (caE s v n d) (if kind = 0 ∨ kind = 3 then 0 else 14)
def biR (s v : List Int) (n d kind : Int) : Int × (Int × Int) := if biE s v n d kind ≠ 0 then (0, (0, biE s v n d kind)) else ((biF s v n d kind).1, ((biF s v n d kind).2, 0))
theorem biasOf_is (s v : List Int) (hs : s.length < 4294967296) (hv : v.length < 4294967296) {n d : Int} (hd : I64 d) (kind : Int) :
    Fline_BiasOf [.agg [.list s.length (encI s), .list v.length (encI v), .int .i64 n, .int .i64 d], .int .i64 kind] = some (biR s v n d kind) := by
  refine Fline_BiasOf_of _ _ _ _ _ _ _ ?_
  unfold tline_BiasOf biR biE
  have good : kind = 0 ∨ kind = 3 → caE s v n d = 0 → ∃ L, Lline_BiasOf_3000045 (Tline_BiasOf_3000045a (cnt s v) (en2 (caF s v) (cnt s v)) 0 s.length (encI s) v.length (encI v) n d kind 0) = some L ∧ L = (s.length, encI s, v.length, encI v, n, d, kind, bsT s v kind) := by
    intro hk h0
    have c := ca_ok h0
    have hr : rangeE kind 0 3 = 0 := rangeE_in (by omega)
    have := Lline_BiasOf_3000045a_of (bias_loop c hr 0 (by omega) 0 (by omega) (by omega))
    rw [Nat.sub_zero, show ((0 : Nat) : Int) = 0 from rfl, Int.zero_add] at this
    exact ⟨_, this, rfl⟩
  have low : caE s v n d = 0 → Fline_lowest [.int .i64 (bsT s v kind), .int .i64 (cnt s v)] = some (lowF (bsT s v kind) (cnt s v)) := by
    intro h0
    have c := ca_ok h0
    have b := bb_ok c kind
    have b0 := b.s0; have b1 := b.s1; have hp := cnt_pos c; have hc := c.cs
    exact lowest_is (by unfold Bd; omega) (by unfold Bd; omega) (by omega)
  by_cases k0 : kind = 0
  · have hk : kind = 0 ∨ kind = 3 := .inl k0
    rw [bif_eq, if_pos k0, if_pos hk]
    simp only [checkCase_is s v hs hv hd, lnFirst2_is, bindO_val, bif_ne]
    have e : both (caE s v n d) 0 = caE s v n d := by unfold both; split <;> omega
    rw [e]
    by_cases h0 : caE s v n d = 0
    · obtain ⟨L, l1, rfl⟩ := good hk h0
      have c := ca_ok h0
      simp only [h0, if_true, ne_eq, not_true_eq_false, if_false, casesIt_is c, l1, countC c, low h0, bias_low c kind, bindO_val]
    · simp only [h0, if_false, ne_eq, not_false_eq_true, if_true]
  · rw [bif_eq, if_neg k0]
    by_cases k3 : kind = 3
    · have hk : kind = 0 ∨ kind = 3 := .inr k3
      rw [bif_eq, if_pos k3, if_pos hk]
      simp only [checkCase_is s v hs hv hd, lnFirst2_is, bindO_val, bif_ne]
      have e : both (caE s v n d) 0 = caE s v n d := by unfold both; split <;> omega
      rw [e]
      by_cases h0 : caE s v n d = 0
      · obtain ⟨L, l1, rfl⟩ := good hk h0
        have c := ca_ok h0
        simp only [h0, if_true, ne_eq, not_true_eq_false, if_false, casesIt_is c, l1, countC c, low h0, bias_low c kind, bindO_val]
      · simp only [h0, if_false, ne_eq, not_false_eq_true, if_true]
    · have hk : ¬ (kind = 0 ∨ kind = 3) := by omega
      rw [bif_eq, if_neg k3, if_neg hk]
      simp only [checkCase_is s v hs hv hd, lnFirst2_is, bindO_val, bif_ne]
      have e : both (caE s v n d) 14 ≠ 0 := by unfold both; split <;> omega
      rw [if_neg e, if_pos e]

def kdE (kind : Int) : Int := if rangeE kind 0 3 = 0 then 0 else 14
theorem eq3 (a b c : Int) : ((a == a) && ((b == b) && ((c == c) && true))) = true := by simp
end Gv
