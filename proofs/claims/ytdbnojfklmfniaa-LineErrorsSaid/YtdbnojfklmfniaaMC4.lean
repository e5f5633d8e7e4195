/- Errors of estimators: the law. -/
import Derived.Test.YtdbnojfklmfniaaMCb
import Derived.Test.YtdbnojfklmfniaaM16
namespace Gv
open Go
set_option maxRecDepth 100000

theorem er26 (s v : List Int) (n d kind e f a b x y z : Int) :
    RLwLineErrors_1000026 (TLwLineErrors_1000026a kind e f (caE s v n d) s.length (encI s) v.length (encI v) n d a b x y z) =
      exO (XLwLineErrors_1000026a (kind, e, f, both (caE s v n d) (kdE kind), s.length, encI s, v.length, encI v, n, d, a, b, x, y, z)) := by
  refine RLwLineErrors_1000026a_of _ _ _ _ _ _ _ _ _ _ _ _ _ _ _ ?_
  unfold BLwLineErrors_1000026a both
  rw [bif_eq]
  by_cases h : caE s v n d = 0
  · rw [if_pos h, if_neg (by rw [h]; exact fun h => h rfl)]
    simp only [refKindErr_is, bindO_val]
    rfl
  · rw [if_neg h, if_pos h]
    rfl
theorem er15 {s v : List Int} {n d : Int} (c : Ca s v n d) {kind : Int} (hk : rangeE kind 0 3 = 0) (e a b : Int) :
    RLwLineErrors_1000015 (TLwLineErrors_1000015a kind e 0 s.length (encI s) v.length (encI v) n d a b (wsT s v n d kind).1.1 (wsT s v n d kind).1.2 (wsT s v n d kind).2) =
      exO (XLwLineErrors_1000015b (kind, e, s.length, encI s, v.length, encI v, n, d, a, b)) := by
  refine RLwLineErrors_1000015a_of _ _ _ _ _ _ _ _ _ _ _ _ _ _ ?_
  unfold BLwLineErrors_1000015a
  simp only [bif_ne, if_true, refWorst_is c hk, bindO_val, eq3, Bool.not_true, cond_false]
  rfl
theorem er8a (s v : List Int) (n d : Int) {kind : Int} (h : ¬ (kind = 0 ∨ kind = 3)) :
    RLwLineErrors_1000008 (TLwLineErrors_1000008a kind 14 s.length (encI s) v.length (encI v) n d 0 0) = exO (XLwLineErrors_1000008a true) := by
  refine RLwLineErrors_1000008a_of _ _ _ _ _ _ _ _ _ _ ?_
  unfold BLwLineErrors_1000008a
  simp only [bif_ne, bif_eq]
  rw [if_neg (by omega), if_neg (by omega), if_pos trivial]
  rfl
theorem er8b (s v : List Int) (n d e a b : Int) {kind : Int} (h : kind = 0 ∨ kind = 3) :
    RLwLineErrors_1000008 (TLwLineErrors_1000008a kind e s.length (encI s) v.length (encI v) n d a b) = exO (XLwLineErrors_1000008b (kind, e, s.length, encI s, v.length, encI v, n, d, a, b)) := by
  refine RLwLineErrors_1000008a_of _ _ _ _ _ _ _ _ _ _ ?_
  unfold BLwLineErrors_1000008a
  simp only [bif_ne]
  by_cases h0 : kind = 0
  · rw [if_pos h0]
    rfl
  · rw [if_neg h0, if_pos (by omega)]
    rfl

theorem errorsLaw (s v : List Int) {n d : Int} (hd : I64 d) (kind : Int) :
    FLwLineErrors [.agg [.list s.length (encI s), .list v.length (encI v), .int .i64 n, .int .i64 d], .int .i64 kind] = some true := by
  refine FLwLineErrors_of _ _ _ _ _ _ _ ?_
  unfold tLwLineErrors
  simp only [awakeL_is, bindO_val, cond_true, light_is s v hd]
  by_cases hl : (decide (s.length ≤ 20) && (decide (v.length ≤ 20) && (decide (caE s v n d ≠ 0) || decide (cnt s v ≤ 256)))) = true
  · have h1 : s.length ≤ 20 := by simp at hl; exact hl.1
    have h2 : v.length ≤ 20 := by simp at hl; exact hl.2.1
    rw [hl, cond_true]
    have l26 := fun e f a b x y z => LLwLineErrors_1000026a_of (er26 s v n d kind e f a b x y z)
    simp only [copyCase_is s v (by omega) (by omega), biasOf_is s v (by omega) (by omega) hd, worstOfAll_is s v (by omega) (by omega) hd, refCaseErr_is s v hd, l26, bindO_val, bif_ne, bif_eq]
    rw [show (if rangeE kind 0 3 = 0 then (0 : Int) else 14) = kdE kind from rfl]
    by_cases he : both (caE s v n d) (kdE kind) = 0
    · obtain ⟨h3, h4⟩ := both_nil he
      have c := ca_ok h3
      have hk : rangeE kind 0 3 = 0 := by
        unfold kdE at h4
        split at h4
        · assumption
        · cases h4
      have l15 := fun e a b => LLwLineErrors_1000015b_of (er15 c hk e a b)
      simp only [he, if_true, ne_eq, not_true_eq_false, if_false, l15, bindO_val, Sum.elim_inr]
      by_cases hb : kind = 0 ∨ kind = 3
      · have be : biE s v n d kind = 0 := by unfold biE; rw [both_zero h3, if_pos hb]
        have R : biR s v n d kind = ((biF s v n d kind).1, ((biF s v n d kind).2, 0)) := by unfold biR; rw [if_neg (by rw [be]; exact fun h => h rfl)]
        have l8 := fun e a b => LLwLineErrors_1000008b_of (er8b s v n d e a b hb)
        simp only [R, l8, bindO_val, Sum.elim_inr, if_true, refBias_is c hk, eq2, cond_true]
      · have be : biE s v n d kind = 14 := by unfold biE; rw [both_zero h3, if_neg hb]
        have R : biR s v n d kind = (0, (0, 14)) := by unfold biR; rw [be, if_pos (by omega)]
        have l8 := LLwLineErrors_1000008a_of (er8a s v n d hb)
        simp only [R, l8, bindO_val, Sum.elim_inl]
    · have be : biE s v n d kind = both (caE s v n d) (kdE kind) := by
        unfold biE
        by_cases h3 : caE s v n d = 0
        · rw [both_zero h3, both_zero h3]
          rw [both_zero h3] at he
          unfold kdE at he ⊢
          split at he
          · exact absurd rfl he
          · rename_i h5
            rw [if_neg h5, if_neg]
            intro q
            exact h5 (rangeE_in (by omega))
        · rw [both_not h3, both_not h3]
      have R : biR s v n d kind = (0, (0, both (caE s v n d) (kdE kind))) := by unfold biR; rw [be, if_pos he]
      simp only [R, he, if_false, ne_eq, not_false_eq_true, if_true]
      rfl
  · rw [show (decide (s.length ≤ 20) && (decide (v.length ≤ 20) && (decide (caE s v n d ≠ 0) || decide (cnt s v ≤ 256)))) = false by simpa using hl]
    rfl
end Gv
