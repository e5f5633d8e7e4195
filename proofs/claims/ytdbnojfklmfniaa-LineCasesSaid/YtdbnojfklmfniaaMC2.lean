/- Cases: the law. -/
import Derived.Test.YtdbnojfklmfniaaMC1
import Derived.Test.YtdbnojfklmfniaaM14
namespace Gv
open Go
set_option maxRecDepth 100000

def c43 (s v : List Int) (n d x : Int) : (Int × Nat × List PV × Nat × List PV × Int × Int) ⊕ Unit :=
  if s.length ≤ 20 ∧ v.length ≤ 20 then .inl (x, s.length, encI s, v.length, encI v, n, d) else .inr ()
theorem cs43 (s v : List Int) (n d x : Int) :
    RLwLineCases_1000043 (TLwLineCases_1000043a x s.length (encI s) v.length (encI v) n d) = exO (XLLwLineCases_1000043.fn (c43 s v n d x)) := by
  refine RLwLineCases_1000043a_of _ _ _ _ _ _ _ ?_
  unfold BLwLineCases_1000043a c43
  simp only [short_is, bindO_val, bif_dec]
  by_cases h1 : s.length ≤ 20
  · by_cases h2 : v.length ≤ 20
    · rw [if_pos h1, if_pos h2, if_pos ⟨h1, h2⟩]; rfl
    · rw [if_pos h1, if_neg h2, if_neg (fun k => h2 k.2)]; rfl
  · rw [if_neg h1, if_neg (fun k => h1 k.1)]; rfl
theorem cs28 (s v : List Int) (n d x a b e m : Int) (k : Nat) (c : List PV) :
    RLwLineCases_1000028 (TLwLineCases_1000028a x a b e k c m a b s.length (encI s) v.length (encI v) n d) =
      exO (XLwLineCases_1000028b (x, e, k, c, m, s.length, encI s, v.length, encI v, n, d)) := by
  refine RLwLineCases_1000028a_of _ _ _ _ _ _ _ _ _ _ _ _ _ _ _ ?_
  unfold BLwLineCases_1000028a
  simp only [bif_ne, if_true]
  rfl
theorem cs12 (s v : List Int) (n d x m : Int) (k : Nat) (c : List PV) :
    RLwLineCases_1000012 (TLwLineCases_1000012a x k c m (caE s v n d) s.length (encI s) v.length (encI v) n d) =
      exO (XLwLineCases_1000012a (x, k, c, m, nyE s v n d x, s.length, encI s, v.length, encI v, n, d)) := by
  refine RLwLineCases_1000012a_of _ _ _ _ _ _ _ _ _ _ _ ?_
  unfold BLwLineCases_1000012a nyE
  rw [bif_eq]
  by_cases h : caE s v n d = 0
  · have ca := ca_ok h
    have h2 := ca.sp.len; have h3 := ca.nz.pos; have h4 := ca.nz.len; have h5 := ca.cs
    rw [if_pos h, if_neg (by rw [h]; exact fun h => h rfl)]
    simp only [refCases_is v ⟨h3, h4⟩ s.length h2, bindO_val, show v.length ^ s.length = cnt s v from rfl]
    rw [if_neg (by omega), w64_in (by omega)]
    simp only [within_is, bindO_val, bif_dec]
    by_cases h6 : rangeE x 0 ((cnt s v : Int) - 1) = 0
    · rw [if_pos h6, if_pos h6, h]; rfl
    · rw [if_neg h6, if_neg h6]; rfl
  · rw [if_neg h, if_pos h]; rfl

theorem casesLaw (s v : List Int) {n d : Int} (hd : I64 d) (x : Int) :
    FLwLineCases [.agg [.list s.length (encI s), .list v.length (encI v), .int .i64 n, .int .i64 d], .int .i64 x] = some true := by
  refine FLwLineCases_of _ _ _ _ _ _ _ ?_
  unfold tLwLineCases
  have q := lpO_of ILwLineCases_1000043 XILwLineCases_1000043 (cs43 s v n d x)
  have q : LLwLineCases_1000043 (TLwLineCases_1000043a x s.length (encI s) v.length (encI v) n d) = _ := q
  simp only [awakeL_is, bindO_val, cond_true, q]
  unfold c43
  by_cases hl : s.length ≤ 20 ∧ v.length ≤ 20
  · rw [if_pos hl]
    have l28 := fun e m k c => LLwLineCases_1000028b_of (cs28 s v n d x (nzP v).1 (nzP v).2 e m k c)
    have l12 := fun m k c => LLwLineCases_1000012a_of (cs12 s v n d x m k c)
    simp only [Sum.elim_inl, copyNoise_is v (by omega), checkNoise_is v (by omega), copyCase_is s v (by omega) (by omega), checkCase_is s v (by omega) (by omega) hd, noisyOf_is s v (by omega) (by omega) hd, refCheckNoise_is, bindO_val, l28, Sum.elim_inr, refCaseErr_is s v hd, bif_ne, if_true, l12, bif_eq]
    unfold nyR
    by_cases he : nyE s v n d x = 0
    · have h0 : caE s v n d = 0 := by
        unfold nyE at he
        split at he
        · contradiction
        · rename_i h; simpa using h
      have h6 : rangeE x 0 ((cnt s v : Int) - 1) = 0 := by
        unfold nyE at he
        rw [if_neg (by rw [h0]; exact fun h => h rfl)] at he
        split at he
        · assumption
        · cases he
      have h7 := rangeE_ok h6
      have ca := ca_ok h0
      have h1 := ca.sp.pos; have h2 := ca.sp.len; have h3 := ca.nz.pos; have h4 := ca.nz.len; have h5 := ca.cs
      have nl : (nzL s v x).length = s.length := tabI_len _ _
      have li := lints_refl (nzL s v x) (by rw [nl]; omega)
      rw [nl] at li
      simp only [he, ne_eq, not_true_eq_false, if_false, if_true, refNoisy_is s v (by omega) (by omega) ca.sp.sm ca.nz.sm (d := x) (by omega), bindO_val, li, cond_true]
    · simp only [he, ne_eq, not_false_eq_true, if_true, if_false]
      rfl
  · rw [if_neg hl]
    rfl
end Gv
