/- An error is accepted as the greatest one: the program's and the specification's, and the law. -/
import Derived.Test.YtdbnojfklmfniaaGreatMCb
import Derived.Test.YtdbnojfklmfniaaGreatM19
namespace Gv
open Go
set_option maxRecDepth 100000

/-- The first case with a greater error, of so many from one on. -/
def cwG (f : Nat → Int × Int) (w : Int × Int) : Nat → Nat → Option Nat
  | 0, _ => none
  | n + 1, i => if w.1 * (f i).2 < (f i).1 * w.2 then some i else cwG f w n (i + 1)
def cwS (s v : List Int) (n d kind : Int) (w : Int × Int) (x : Int) (o : Option Nat) : Int ⊕ (Nat × List PV × Nat × List PV × Int × Int × Int × Int × Int × Int) := match o with
  | some k => .inl (k : Int)
  | none => .inr (s.length, encI s, v.length, encI v, n, d, kind, w.1, w.2, x)
theorem cwo_loop {s v : List Int} {n d : Int} (c : Ca s v n d) {kind : Int} (hk : rangeE kind 0 3 = 0) {w : Int × Int} (hw : Fb w) (x : Int) : ∀ i, i ≤ cnt s v →
    Rline_CheckWorst_3000059 (Tline_CheckWorst_3000059a (cnt s v) (en2 (caF s v) (cnt s v)) i s.length (encI s) v.length (encI v) n d kind w.1 w.2 x) =
      exO (XLline_CheckWorst_3000059.fn (cwS s v n d kind w x (cwG (ofN s v n d kind) w (cnt s v - i) i))) := by
  have hc := c.cs
  refine up_ind _ ?_ ?_
  · refine Rline_CheckWorst_3000059a_of _ _ _ _ _ _ _ _ _ _ _ _ _ ?_
    unfold Bline_CheckWorst_3000059a
    rw [bif_neg (by omega), Nat.sub_self]
    rfl
  · intro i hi ih
    refine Rline_CheckWorst_3000059a_of _ _ _ _ _ _ _ _ _ _ _ _ _ ?_
    unfold Bline_CheckWorst_3000059a
    have hb : Fb (ofN s v n d kind i) := ofFb c kind i
    have er : Fline_errorIn [.list s.length (encI (nzL s v (i : Int))), .int .i64 kind, .agg [.int .i64 n, .int .i64 d]] = some (ofN s v n d kind i) := errorIn_is c hk i
    rw [bif_pos (by omega), bif_pos (by omega), show cnt s v - i = (cnt s v - (i + 1)) + 1 by omega, cwG]
    simp only [Int.toNat_natCast, en2_0 (caF s v) hi, en2_1 (caF s v) hi, caF, intC_int, listC_list, bindO_val, er, isLess_is hw hb]
    by_cases h : w.1 * (ofN s v n d kind i).2 < (ofN s v n d kind i).1 * w.2
    · rw [bif_pos h, if_pos h]
      rfl
    · rw [bif_neg h, if_neg h, w64_in (by omega)]
      exact ih
def cwT (s v : List Int) (n d kind : Int) (w : Int × Int) (x : Int) (o : Option Nat) : Int ⊕ (Nat × List PV × Nat × List PV × Int × Int × Int × Int × Int) := match o with
  | some k => .inl (k : Int)
  | none => .inr (s.length, encI s, v.length, encI v, n, d, w.1, w.2, x)
theorem rcw_loop {s v : List Int} {n d : Int} (c : Ca s v n d) {kind : Int} (hk : rangeE kind 0 3 = 0) {w : Int × Int} (hw : Fb w) (x : Int) : ∀ i, i ≤ cnt s v →
    RRfCheckWorst_0 (TRfCheckWorst_0a kind i s.length (encI s) v.length (encI v) n d w.1 w.2 x) =
      exO (XLRfCheckWorst_0.fn (cwT s v n d kind w x (cwG (ofN s v n d kind) w (cnt s v - i) i))) := by
  have hc := c.cs
  refine up_ind _ ?_ ?_
  · refine RRfCheckWorst_0a_of _ _ _ _ _ _ _ _ _ _ _ ?_
    unfold BRfCheckWorst_0a
    simp only [refCasesC c, bindO_val]
    rw [bif_neg (by omega), Nat.sub_self]
    rfl
  · intro i hi ih
    refine RRfCheckWorst_0a_of _ _ _ _ _ _ _ _ _ _ _ ?_
    unfold BRfCheckWorst_0a
    have hb : Fb (ofN s v n d kind i) := ofFb c kind i
    have of : FRfOff [.agg [.list s.length (encI s), .list v.length (encI v), .int .i64 n, .int .i64 d], .int .i64 kind, .int .i64 i] = some (ofN s v n d kind i) := refOff_is c hk (k := (i : Int)) (by omega)
    simp only [refCasesC c, bindO_val]
    rw [bif_pos (by omega), show cnt s v - i = (cnt s v - (i + 1)) + 1 by omega, cwG]
    simp only [of, bindO_val, cmp_is (fb_mul hb hw) (fb_mul hw hb)]
    unfold cmpF
    by_cases h : w.1 * (ofN s v n d kind i).2 < (ofN s v n d kind i).1 * w.2
    · rw [if_neg (by omega), if_pos h, bif_pos (by omega), if_pos h]
      rfl
    · rw [if_neg h, if_neg h, w64_in (by omega)]
      by_cases h2 : (ofN s v n d kind i).1 * w.2 < w.1 * (ofN s v n d kind i).2
      · rw [if_pos h2, bif_neg (by omega)]
        exact ih
      · rw [if_neg h2, bif_neg (by omega)]
        exact ih

/-- What is found of a worst, for a valid case and kind. -/
def cwV (s v : List Int) (n d kind : Int) (w : Int × Int) (x : Int) : Int × Int :=
  if loQ w.1 w.2 ∧ 0 ≤ w.1 then
    if rangeE x 0 ((cnt s v : Int) - 1) = 0 then
      if ofF s v n d kind x = w then (match cwG (ofN s v n d kind) w (cnt s v) 0 with
        | some k => ((k : Int), 17)
        | none => (0, 0)) else (0, 13)
    else (0, 6)
  else (0, 3)
theorem ne_pair {f w : Int × Int} (h : ¬ f = w) : ((f.1 == w.1) && ((f.2 == w.2) && true)) = false := by
  by_cases h1 : f.1 = w.1
  · have h2 : f.2 ≠ w.2 := fun q => h (Prod.ext h1 q)
    simp [h2]
  · simp [h1]
theorem refCw_is {s v : List Int} {n d : Int} (c : Ca s v n d) {kind : Int} (hk : rangeE kind 0 3 = 0) (w : Int × Int) (hw : I64 w.2) (x : Int) :
    FRfCheckWorst [.agg [.list s.length (encI s), .list v.length (encI v), .int .i64 n, .int .i64 d], .int .i64 kind, .agg [.int .i64 w.1, .int .i64 w.2, .int .i64 x]] = some (cwV s v n d kind w x) := by
  refine FRfCheckWorst_of _ _ _ _ _ _ _ _ _ _ ?_
  unfold tRfCheckWorst cwV
  have hc := c.cs; have hp := cnt_pos c
  simp only [refIsLowest_is hw, bindO_val, bif_dec]
  by_cases h1 : loQ w.1 w.2
  · rw [if_pos h1]
    by_cases h2 : w.1 < 0
    · rw [if_pos h2, if_neg (fun k => by omega)]
    · rw [if_neg h2, if_pos ⟨h1, by omega⟩]
      simp only [refCasesC c, bindO_val]
      rw [w64_in (by omega)]
      simp only [within_is, bindO_val, bif_dec]
      by_cases h3 : rangeE x 0 ((cnt s v : Int) - 1) = 0
      · have h4 := rangeE_ok h3
        rw [if_pos h3, if_pos h3]
        simp only [refOff_is c hk (k := x) (by omega), bindO_val]
        by_cases h5 : ofF s v n d kind x = w
        · have fb : Fb w := by rw [← h5]; exact of_bd c kind x
          have lp := lpO_of IRfCheckWorst_0 XIRfCheckWorst_0 (rcw_loop c hk fb x 0 (by omega))
          have lp : LRfCheckWorst_0 (TRfCheckWorst_0a kind 0 s.length (encI s) v.length (encI v) n d w.1 w.2 x) = some (cwT s v n d kind w x (cwG (ofN s v n d kind) w (cnt s v - 0) 0)) := lp
          rw [Nat.sub_zero] at lp
          rw [if_pos h5, h5, eq2, Bool.not_true, cond_false, lp]
          cases cwG (ofN s v n d kind) w (cnt s v) 0 <;> rfl
        · rw [if_neg h5, ne_pair h5, Bool.not_false, cond_true]
      · rw [if_neg h3, if_neg h3]
  · rw [if_neg h1, if_neg (fun k => h1 k.1)]

def cwE (s v : List Int) (n d kind : Int) : Int := both (caE s v n d) (kdE kind)
theorem cwOf_is (s v : List Int) (hs : s.length < 4294967296) (hv : v.length < 4294967296) {n d : Int} (hd : I64 d) (kind : Int) (w : Int × Int) (hw : I64 w.2) (x : Int) :
    Fline_CheckWorst [.agg [.list s.length (encI s), .list v.length (encI v), .int .i64 n, .int .i64 d], .int .i64 kind, .agg [.int .i64 w.1, .int .i64 w.2, .int .i64 x]] =
      some (if cwE s v n d kind ≠ 0 then (0, cwE s v n d kind) else cwV s v n d kind w x) := by
  refine Fline_CheckWorst_of _ _ _ _ _ _ _ _ _ _ ?_
  unfold tline_CheckWorst
  have f0 : first3 (caE s v n d) (kdE kind) 0 = cwE s v n d kind := by
    unfold first3 cwE both
    split
    · rfl
    · split
      · rfl
      · rename_i h; exact (Decidable.not_not.1 h).symm
  have f3 : first3 (caE s v n d) (kdE kind) 3 = if cwE s v n d kind ≠ 0 then cwE s v n d kind else 3 := by
    unfold first3 cwE both
    by_cases h1 : caE s v n d = 0 <;> by_cases h2 : kdE kind = 0 <;> simp [h1, h2]
  simp only [checkCase_is s v hs hv hd, kindError_is, isLowest_is hw, bindO_val, bif_dec, lnFirst3_is]
  rw [show (if rangeE kind 0 3 = 0 then (0 : Int) else 14) = kdE kind from rfl, f0, f3]
  simp only [bif_ne]
  by_cases he : cwE s v n d kind = 0
  · obtain ⟨e1, e2⟩ := both_nil he
    have c := ca_ok e1
    have hk : rangeE kind 0 3 = 0 := by
      unfold kdE at e2
      split at e2
      · assumption
      · cases e2
    have hc := c.cs; have hp := cnt_pos c
    simp only [he, ne_eq, not_true_eq_false, if_false, show ¬ (3 : Int) = 0 from by omega, if_true]
    unfold cwV
    by_cases h1 : loQ w.1 w.2
    · rw [if_pos h1]
      by_cases h2 : w.1 < 0
      · rw [if_pos h2, if_neg (fun k => by omega)]
      · rw [if_neg h2, if_pos ⟨h1, by omega⟩]
        simp only [hasNoCase_is s v c.nz.len c.sp.len, bindO_val, bif_dec]
        by_cases h3 : rangeE x 0 ((cnt s v : Int) - 1) = 0
        · have h4 := rangeE_ok h3
          rw [if_neg (by rw [h3]; exact fun h => h rfl), if_pos h3]
          simp only [noisyC c (k := x) (by omega), errorIn_is c hk x, bindO_val]
          by_cases h5 : ofF s v n d kind x = w
          · have fb : Fb w := by rw [← h5]; exact of_bd c kind x
            have lp := lpO_of Iline_CheckWorst_3000059 XIline_CheckWorst_3000059 (cwo_loop c hk fb x 0 (by omega))
            have lp : Lline_CheckWorst_3000059 (Tline_CheckWorst_3000059a (cnt s v) (en2 (caF s v) (cnt s v)) 0 s.length (encI s) v.length (encI v) n d kind w.1 w.2 x) = some (cwS s v n d kind w x (cwG (ofN s v n d kind) w (cnt s v - 0) 0)) := lp
            rw [Nat.sub_zero] at lp
            rw [if_pos h5, h5, eq2, Bool.not_true, cond_false]
            simp only [casesIt_is c, lp, bindO_val]
            cases cwG (ofN s v n d kind) w (cnt s v) 0 <;> rfl
          · rw [if_neg h5, ne_pair h5, Bool.not_false, cond_true]
        · rw [if_pos h3, if_neg h3]
    · rw [if_neg h1, if_neg (fun k => h1 k.1)]
  · simp only [he, ne_eq, not_false_eq_true, if_true, if_false]
    split <;> try rfl
    split <;> rfl

theorem pr14 (s v : List Int) (n d kind a b x : Int) (w : Int × Int) :
    RLwLineProved_1000014 (TLwLineProved_1000014a kind a b (caE s v n d) s.length (encI s) v.length (encI v) n d w.1 w.2 x) =
      exO (XLwLineProved_1000014a (kind, a, b, cwE s v n d kind, s.length, encI s, v.length, encI v, n, d, w.1, w.2, x)) := by
  refine RLwLineProved_1000014a_of _ _ _ _ _ _ _ _ _ _ _ _ _ ?_
  unfold BLwLineProved_1000014a cwE both
  rw [bif_eq]
  by_cases h : caE s v n d = 0
  · rw [if_pos h, if_neg (by rw [h]; exact fun h => h rfl)]
    simp only [refKindErr_is, bindO_val]
    rfl
  · rw [if_neg h, if_pos h]
    rfl
theorem provedLaw (s v : List Int) {n d : Int} (hd : I64 d) (kind : Int) (w : Int × Int) (hw : I64 w.2) (x : Int) :
    FLwLineProved [.agg [.list s.length (encI s), .list v.length (encI v), .int .i64 n, .int .i64 d], .int .i64 kind, .agg [.int .i64 w.1, .int .i64 w.2, .int .i64 x]] = some true := by
  refine FLwLineProved_of _ _ _ _ _ _ _ _ _ _ ?_
  unfold tLwLineProved
  simp only [awakeL_is, bindO_val, cond_true, light_is s v hd]
  by_cases hl : (decide (s.length ≤ 20) && (decide (v.length ≤ 20) && (decide (caE s v n d ≠ 0) || decide (cnt s v ≤ 256)))) = true
  · have h1 : s.length ≤ 20 := by simp at hl; exact hl.1
    have h2 : v.length ≤ 20 := by simp at hl; exact hl.2.1
    rw [hl, cond_true]
    have l14 := fun a b => LLwLineProved_1000014a_of (pr14 s v n d kind a b x w)
    simp only [copyCase_is s v (by omega) (by omega), cwOf_is s v (by omega) (by omega) hd kind w hw x, refCaseErr_is s v hd, l14, bindO_val, bif_ne, bif_eq]
    by_cases he : cwE s v n d kind = 0
    · obtain ⟨e1, e2⟩ := both_nil he
      have hk : rangeE kind 0 3 = 0 := by
        unfold kdE at e2
        split at e2
        · assumption
        · cases e2
      simp only [he, ne_eq, not_true_eq_false, if_false, if_true, refCw_is (ca_ok e1) hk w hw x, bindO_val]
    · simp only [he, ne_eq, not_false_eq_true, if_true, if_false]
  · rw [show (decide (s.length ≤ 20) && (decide (v.length ≤ 20) && (decide (caE s v n d ≠ 0) || decide (cnt s v ≤ 256)))) = false by simpa using hl]
    rfl
end Gv
