/- MR1, MR2, MR3, MR4. -/
import Derived.Test.YtkbbilbpejbmiaaMC5
import Derived.Test.YtkbbilbpejbmiaaCC
import Derived.Test.YtkbbilbpejbmiaaM21
import Derived.Test.YtkbbilbpejbmiaaM22
/- The false rate of a noise, and the threshold for a risk. -/
namespace Gv
open Go
set_option maxRecDepth 100000

/-- A line without a signal. -/
def zs (n : Nat) : List Int := List.replicate n 0
theorem zs_len (n : Nat) : (zs n).length = n := by simp [zs]

theorem noiseOn_is (v : List Int) (n : Nat) (hn : n ≤ 1000) : Fline_noiseOn [.agg [.list v.length (encI v)], .int .i64 n] = some (((zs n).length, encI (zs n)), ((v.length, encI v), ((0 : Int), (0 : Int)))) := by
  refine Fline_noiseOn_of _ _ _ ?_
  unfold tline_noiseOn
  rw [bif_pos ⟨rfl, by omega, by unfold big; omega⟩, rep_I, bif_pos (by simp [encI])]
  have : (encI (List.replicate (n : Int).toNat 0)).length = n := by simp [encI]
  simp only [Int.toNat_natCast, Nat.mul_one, List.drop_zero, zs_len]
  rw [List.take_of_length_le (by simp [encI])]
  rfl

theorem ca_zs {v : List Int} (hv : Nz v) {n : Nat} (h1 : 1 ≤ n) (h2 : n ≤ 16) (hc : cnt (zs n) v ≤ 4096) : Ca (zs n) v 0 1 := by
  refine ⟨⟨by rw [zs_len]; omega, by rw [zs_len]; omega, fun x hx => ?_⟩, hv, fun x hx => ?_, hc, by decide, by omega, by omega⟩
  · have := List.eq_of_mem_replicate hx
    omega
  · have := List.eq_of_mem_replicate hx
    omega

theorem reaching_t {s v : List Int} {n d : Int} (c : Ca s v n d) (t t1 t2 : Int) : Fline_reaching [.agg [.list s.length (encI s), .list v.length (encI v), .int .i64 t1, .int .i64 t2], .int .i64 t] = some (rcT s v t) := by
  refine Fline_reaching_of _ _ _ _ _ _ _ ?_
  unfold tline_reaching
  have := Lline_reaching_3000021a_of (reach_loop c t t1 t2 0 (by omega) 0 (by omega) (by omega))
  rw [Nat.sub_zero, show ((0 : Nat) : Int) = 0 from rfl] at this
  simp only [casesIt_is c, this, bindO_val]
  rfl
theorem rateOf_t {s v : List Int} {n d : Int} (c : Ca s v n d) (t t1 t2 : Int) : Fline_rateOf [.agg [.list s.length (encI s), .list v.length (encI v), .int .i64 t1, .int .i64 t2], .int .i64 t] = some (lowF (rcT s v t) (cnt s v)) := by
  refine Fline_rateOf_of _ _ _ _ _ _ _ ?_
  unfold tline_rateOf
  simp only [reaching_t c, countC c, (rate_low c t).1, bindO_val]

/-- Whether a threshold keeps a risk. -/
def keeps (s v : List Int) (r t : Int) : Prop := 1000 * rcT s v t ≤ r * cnt s v
instance (s v : List Int) (r t : Int) : Decidable (keeps s v r t) := by unfold keeps; exact inferInstance
theorem rcT_bd (s v : List Int) (t : Int) : 0 ≤ rcT s v t ∧ rcT s v t ≤ cnt s v := by
  have := rcG_bd s v t (cnt s v) 0 0
  unfold rcT
  omega
theorem keepsRisk_is {s v : List Int} {n d : Int} (c : Ca s v n d) {r : Int} (hr : 0 ≤ r ∧ r ≤ 1000) (t t1 t2 : Int) :
    Fline_keepsRisk [.int .i64 t, .imm [.list s.length (encI s), .list v.length (encI v), .int .i64 t1, .int .i64 t2] 0, .imm [.int .i64 r] 0] = some (decide (keeps s v r t)) := by
  refine Fline_keepsRisk_of _ _ _ _ _ _ _ _ ?_
  unfold tline_keepsRisk
  have hb := rcT_bd s v t
  have hc := c.cs
  have h1 : 0 ≤ r * cnt s v := Int.mul_nonneg hr.1 (by omega)
  have h2 : r * cnt s v ≤ 1000 * 4096 := Int.mul_le_mul hr.2 (by omega) (by omega) (by omega)
  simp only [reaching_t c, countC c, bindO_val]
  rw [w64_in (by omega), w64_in (by omega)]
  unfold keeps
  by_cases h : 1000 * rcT s v t ≤ r * cnt s v
  · rw [bif_pos h, decide_eq_true h]
  · rw [bif_neg h, decide_eq_false h]

theorem maxI_loop (l : List Int) (hl : l.length ≤ 1000) : ∀ i, i ≤ l.length → ∀ m : Int,
    Rline_MaxI_0 (Tline_MaxI_0a l.length (encI l) m i) = exO (Xline_MaxI_0a (maxF m (l.drop i))) := by
  refine up_ind _ ?_ ?_
  · intro m
    refine Rline_MaxI_0a_of _ _ _ _ ?_
    unfold Bline_MaxI_0a
    rw [bif_neg (by omega), List.drop_length]
    rfl
  · intro i hi ih m
    obtain ⟨x, hx, hd⟩ := get_drop hi
    refine Rline_MaxI_0a_of _ _ _ _ ?_
    unfold Bline_MaxI_0a
    rw [bif_pos (by omega), bif_pos (by omega)]
    simp only [Int.toNat_natCast, Nat.mul_one, encI_get, hx, Option.map_some, intC_int, bindO_val]
    rw [hd, w64_in (by omega)]
    exact ih _
theorem maxI_is (l : List Int) (h1 : 1 ≤ l.length) (hl : l.length ≤ 1000) : Fline_MaxI [.list l.length (encI l)] = some (maxL l) := by
  refine Fline_MaxI_of _ _ ?_
  unfold tline_MaxI
  rw [bif_neg (by omega), bif_pos (by omega)]
  simp only [encI_get, get_getD 0 (show 0 < l.length by omega), Option.map_some, intC_int, bindO_val]
  have := Lline_MaxI_0a_of (maxI_loop l hl 1 (by omega) (l.getD 0 0))
  rw [show ((1 : Nat) : Int) = 1 from rfl] at this
  rw [this, max_split h1]
  rfl

/-- What has been found when a candidate is looked at: by the program, by the specification. -/
def stP (s v : List Int) (r m x : Int) : Int := if keeps s v r (x + 1) then (if x + 1 < m then x + 1 else m) else m
def thP (s v : List Int) (r : Int) : List Int → Int → Int
  | [], m => m
  | x :: l, m => thP s v r l (stP s v r m x)
def stR (s v : List Int) (r m x : Int) : Int := if keeps s v r (x + 1) then (if m < 0 then x + 1 else if x + 1 < m then x + 1 else m) else m
def thR (s v : List Int) (r : Int) : List Int → Int → Int
  | [], m => m
  | x :: l, m => thR s v r l (stR s v r m x)

theorem thR_pos (s v : List Int) (r : Int) : ∀ (l : List Int) (m : Int), (∀ x ∈ l, -1 ≤ x) → (0 ≤ m ∨ ∃ x ∈ l, keeps s v r (x + 1)) → 0 ≤ thR s v r l m
  | [], m, _, h => by
    rcases h with h | ⟨x, hx, _⟩
    · exact h
    · simp at hx
  | x :: l, m, hl, h => by
    have hx := hl x (by simp)
    refine thR_pos s v r l _ (fun y hy => hl y (by simp [hy])) ?_
    unfold stR
    by_cases hk : keeps s v r (x + 1)
    · left
      rw [if_pos hk]
      split
      · omega
      · split <;> omega
    · rw [if_neg hk]
      rcases h with h | ⟨y, hy, hk2⟩
      · exact .inl h
      · rcases List.mem_cons.1 hy with rfl | hy
        · exact absurd hk2 hk
        · exact .inr ⟨y, hy, hk2⟩

theorem th_same (s v : List Int) (r M : Int) : ∀ (l : List Int) (p q : Int), (∀ x ∈ l, -1 ≤ x ∧ x + 1 ≤ M) → ((q < 0 ∧ p = M) ∨ (0 ≤ q ∧ p = q)) → 0 ≤ thR s v r l q → thP s v r l p = thR s v r l q
  | [], p, q, _, h, h0 => by
    simp only [thP, thR] at h0 ⊢
    omega
  | x :: l, p, q, hl, h, h0 => by
    have hx := hl x (by simp)
    simp only [thP, thR] at h0 ⊢
    refine th_same s v r M l _ _ (fun y hy => hl y (by simp [hy])) ?_ h0
    unfold stP stR
    by_cases hk : keeps s v r (x + 1)
    · rw [if_pos hk, if_pos hk]
      rcases h with ⟨h1, rfl⟩ | ⟨h1, rfl⟩
      · right
        rw [if_pos h1]
        refine ⟨by omega, ?_⟩
        split <;> omega
      · right
        rw [if_neg (by omega)]
        refine ⟨?_, rfl⟩
        split <;> omega
    · rw [if_neg hk, if_neg hk]
      exact h

theorem thr_loop {s v : List Int} {n d : Int} (c : Ca s v n d) {r : Int} (hr : 0 ≤ r ∧ r ≤ 1000) (t1 t2 : Int) (l : List Int) (hl : l.length ≤ 1000) (hb : ∀ x ∈ l, -1 ≤ x ∧ x ≤ 1000) : ∀ i, i ≤ l.length → ∀ m : Int,
    Rline_ThresholdFor_0 (Tline_ThresholdFor_0b m l.length (encI l) l.length i r s.length (encI s) v.length (encI v) t1 t2) =
      exO (Xline_ThresholdFor_0a (thP s v r (l.drop i) m, false, r, false, s.length, encI s, v.length, encI v, t1, t2)) := by
  refine up_ind _ ?_ ?_
  · intro m
    refine Rline_ThresholdFor_0b_of _ _ _ _ _ _ _ _ _ _ _ _ ?_
    unfold Bline_ThresholdFor_0b
    rw [bif_neg (by omega), List.drop_length]
    rfl
  · intro i hi ih m
    obtain ⟨x, hx, hd⟩ := get_drop hi
    have hxb := hb x (List.mem_of_getElem? hx)
    refine Rline_ThresholdFor_0b_of _ _ _ _ _ _ _ _ _ _ _ _ ?_
    unfold Bline_ThresholdFor_0b
    rw [bif_pos (by omega), bif_pos (by omega)]
    simp only [Int.toNat_natCast, Nat.mul_one, encI_get, hx, Option.map_some, intC_int, bindO_val]
    rw [w64_in (n := x + 1) (by omega)]
    simp only [keepsRisk_is c hr, bindO_val]
    rw [hd, w64_in (by omega), thP]
    have := ih (stP s v r m x)
    unfold stP at this ⊢
    by_cases hk : keeps s v r (x + 1)
    · rw [bif_pos hk]
      rw [if_pos hk] at this ⊢
      exact this
    · rw [bif_neg hk]
      rw [if_neg hk] at this ⊢
      exact this
end Gv

/- False rates and thresholds, whole; the errors. -/
namespace Gv
open Go
set_option maxRecDepth 100000

theorem caseCount_anyL (s v : List Int) (hs : s.length ≤ 16) (t1 t2 : Int) : ∀ i, i ≤ s.length → ∀ a : Int, ∃ k : Int,
    Rline_caseCount_0 (Tline_caseCount_0a a s.length i s.length (encI s) v.length (encI v) t1 t2) = exO (Xline_caseCount_0a (k, s.length, encI s, v.length, encI v, t1, t2)) := by
  refine up_ind _ ?_ ?_
  · intro a
    refine ⟨a, Rline_caseCount_0a_of _ _ _ _ _ _ _ _ _ ?_⟩
    unfold Bline_caseCount_0a
    rw [bif_neg (by omega)]
    rfl
  · intro i hi ih a
    obtain ⟨k, h⟩ := ih (w64 (a * (v.length : Int)))
    refine ⟨k, Rline_caseCount_0a_of _ _ _ _ _ _ _ _ _ ?_⟩
    unfold Bline_caseCount_0a
    rw [bif_pos (by omega), w64_in (n := (i : Int) + 1) (by omega)]
    exact h
theorem casesError_any (s v : List Int) (hs : s.length ≤ 16) (t1 t2 : Int) : ∃ e, Fline_casesError [.agg [.list s.length (encI s), .list v.length (encI v), .int .i64 t1, .int .i64 t2]] = some e := by
  obtain ⟨k, h⟩ := caseCount_anyL s v hs t1 t2 0 (by omega) 1
  have q : Fline_caseCount [.agg [.list s.length (encI s), .list v.length (encI v), .int .i64 t1, .int .i64 t2]] = some k := by
    refine Fline_caseCount_of _ _ _ _ _ _ ?_
    unfold tline_caseCount
    have h := Lline_caseCount_0a_of h
    rw [show ((0 : Nat) : Int) = 0 from rfl] at h
    simp only [h, bindO_val]
  refine ⟨if 4096 < k then 8 else 0, Fline_casesError_of _ _ _ _ _ _ ?_⟩
  unfold tline_casesError
  simp only [q, bindO_val]
  by_cases h : 4096 < k
  · rw [bif_pos (by omega), if_pos h]
  · rw [bif_neg (by omega), if_neg h]

/-- The error of so many lines. -/
def lnE (v : List Int) (n : Int) : Int := if rangeE n 1 16 ≠ 0 then rangeE n 1 16 else if 4096 < cnt (zs n.toNat) v then 8 else 0
theorem linesError_is (v : List Int) (hv : v.length ≤ 4) (n : Int) : Fline_linesError [.agg [.list v.length (encI v)], .int .i64 n] = some (lnE v n) := by
  refine Fline_linesError_of _ _ _ ?_
  unfold tline_linesError lnE
  simp only [lnRangeError_is, bindO_val, bif_ne]
  by_cases h : rangeE n 1 16 = 0
  · obtain ⟨h1, h2⟩ := rangeE_ok h
    obtain ⟨k, rfl⟩ : ∃ k : Nat, n = k := ⟨n.toNat, by omega⟩
    simp only [h, ne_eq, not_true_eq_false, if_true, if_false, noiseOn_is v k (by omega), bindO_val, casesError_is (zs k) v hv (by rw [zs_len]; omega), Int.toNat_natCast]
  · simp only [h, ne_eq, not_false_eq_true, if_true, if_false]
theorem linesError_any (v : List Int) (n : Int) : ∃ e, Fline_linesError [.agg [.list v.length (encI v)], .int .i64 n] = some e := by
  by_cases h : rangeE n 1 16 = 0
  · obtain ⟨h1, h2⟩ := rangeE_ok h
    obtain ⟨k, rfl⟩ : ∃ k : Nat, n = k := ⟨n.toNat, by omega⟩
    obtain ⟨e, he⟩ := casesError_any (zs k) v (by rw [zs_len]; omega) 0 0
    refine ⟨e, Fline_linesError_of _ _ _ ?_⟩
    unfold tline_linesError
    simp only [lnRangeError_is, bindO_val, bif_ne, h, ne_eq, not_true_eq_false, if_true, if_false, noiseOn_is v k (by omega), he]
  · refine ⟨rangeE n 1 16, Fline_linesError_of _ _ _ ?_⟩
    unfold tline_linesError
    simp only [lnRangeError_is, bindO_val, bif_ne, h, ne_eq, not_false_eq_true, if_true, if_false]
theorem refLinesErr_is {v : List Int} (hv : Nz v) (n : Int) : FRfLinesErr [.agg [.list v.length (encI v)], .int .i64 n] = some (lnE v n) := by
  refine FRfLinesErr_of _ _ _ ?_
  unfold tRfLinesErr lnE
  simp only [within_is, bindO_val, bif_dec]
  by_cases h : rangeE n 1 16 = 0
  · obtain ⟨h1, h2⟩ := rangeE_ok h
    obtain ⟨k, rfl⟩ : ∃ k : Nat, n = k := ⟨n.toNat, by omega⟩
    simp only [h, ne_eq, not_true_eq_false, if_true, if_false, refCases_is v ⟨hv.pos, hv.len⟩ k (by omega), bindO_val, Int.toNat_natCast]
    have hc : cnt (zs k) v = v.length ^ k := by unfold cnt; rw [zs_len]
    by_cases h4 : 4096 < v.length ^ k
    · rw [if_pos h4, if_pos (by omega), if_pos (by rw [hc]; exact h4)]
    · rw [if_neg h4, if_neg (by omega), if_neg (by rw [hc]; exact h4)]
  · simp only [h, ne_eq, not_false_eq_true, if_true, if_false]
    rw [rangeE_out fun q => h (rangeE_in q)]

/-- The case of a noise alone, where there is no error. -/
theorem lnE_ok {v : List Int} (hv : Nz v) {n : Int} (h : lnE v n = 0) : ∃ k : Nat, n = k ∧ 1 ≤ k ∧ k ≤ 16 ∧ Ca (zs k) v 0 1 := by
  unfold lnE at h
  split at h
  · contradiction
  · rename_i h0
    obtain ⟨h1, h2⟩ := rangeE_ok (show rangeE n 1 16 = 0 by simpa using h0)
    obtain ⟨k, rfl⟩ : ∃ k : Nat, n = k := ⟨n.toNat, by omega⟩
    split at h
    · omega
    · rename_i h4
      rw [Int.toNat_natCast] at h4
      exact ⟨k, rfl, by omega, by omega, ca_zs hv (by omega) (by omega) (by omega)⟩

theorem falseRate_bad (v : List Int) (hv : v.length < 4294967296) (h0 : nzE v ≠ 0) (n t : Int) : Fline_FalseRate [.agg [.list v.length (encI v)], .int .i64 n, .int .i64 t] = some (0, (0, nzE v)) := by
  obtain ⟨e, he⟩ := linesError_any v n
  refine Fline_FalseRate_of _ _ _ _ ?_
  unfold tline_FalseRate
  simp only [noiseError_is v hv, he, threshE_is, lnFirst3_is, bindO_val, bif_ne]
  have : first3 (nzE v) e (rangeE t 0 11000) = nzE v := by unfold first3; rw [if_pos h0]
  simp only [this, h0, ne_eq, not_false_eq_true, if_true, if_false]
def frE2 (v : List Int) (n t : Int) : Int := both (lnE v n) (rangeE t 0 11000)
theorem first3_z {a b c : Int} (h : a = 0) : first3 a b c = both b c := by subst h; simp [first3, both]
theorem falseRate_is {v : List Int} (h0 : nzE v = 0) (n t : Int) : Fline_FalseRate [.agg [.list v.length (encI v)], .int .i64 n, .int .i64 t] =
    some (if frE2 v n t ≠ 0 then (0, (0, frE2 v n t)) else ((lowF (rcT (zs n.toNat) v t) (cnt (zs n.toNat) v)).1, ((lowF (rcT (zs n.toNat) v t) (cnt (zs n.toNat) v)).2, 0))) := by
  have hv := nz_ok h0
  have hl := hv.len
  refine Fline_FalseRate_of _ _ _ _ ?_
  unfold tline_FalseRate
  simp only [noiseError_is v (by omega), linesError_is v hl, threshE_is, lnFirst3_is, bindO_val, bif_ne, first3_z h0]
  rw [show both (lnE v n) (rangeE t 0 11000) = frE2 v n t from rfl]
  by_cases h : frE2 v n t = 0
  · obtain ⟨h1, _⟩ := both_nil h
    obtain ⟨k, rfl, k1, k2, c⟩ := lnE_ok hv h1
    simp only [h, ne_eq, not_true_eq_false, if_true, if_false, noiseOn_is v k (by omega), rateOf_t c, bindO_val, Int.toNat_natCast]
  · simp only [h, ne_eq, not_false_eq_true, if_true, if_false]
theorem refFalseRate_is {v : List Int} {k : Nat} (hk : k ≤ 16) (c : Ca (zs k) v 0 1) (t : Int) : FRfFalseRate [.agg [.list v.length (encI v)], .int .i64 k, .int .i64 t] = some (lowF (rcT (zs k) v t) (cnt (zs k) v)) := by
  refine FRfFalseRate_of _ _ _ _ ?_
  unfold tRfFalseRate
  rw [bif_pos ⟨rfl, by omega, by unfold big; omega⟩, rep_I, bif_pos (by simp [encI])]
  simp only [Int.toNat_natCast, Nat.mul_one, List.drop_zero]
  rw [List.take_of_length_le (by simp [encI])]
  have q := refRate_is c t
  rw [zs_len] at q
  rw [show List.replicate k (0 : Int) = zs k from rfl]
  simp only [q, bindO_val]
end Gv

/- The threshold for a risk: the program's and the specification's. -/
namespace Gv
open Go
set_option maxRecDepth 100000

theorem zs_getD (n i : Nat) : (zs n).getD i 0 = 0 := by
  simp only [zs, List.getD_eq_getElem?_getD, List.getElem?_replicate]
  split <;> rfl
theorem getD_max {v : List Int} (hv : Nz v) (j : Nat) : v.getD j 0 ≤ maxL v := by
  by_cases hj : j < v.length
  · exact maxL_ge (getD_mem hj)
  · rw [List.getD_eq_getElem?_getD, List.getElem?_eq_none (by omega)]
    exact (hv.sm _ (maxL_mem hv.pos)).1
theorem rcG_zero {s v : List Int} {t : Int} (h : ∀ i : Int, anyG t (nzL s v i) = false) : ∀ n i w, rcG s v t n i w = w
  | 0, _, _ => rfl
  | n + 1, i, w => by
    rw [rcG, rcG_zero h n]
    unfold rcS
    rw [h]
    rfl
theorem keeps_top {v : List Int} (hv : Nz v) (k : Nat) {r : Int} (hr : 0 ≤ r) : keeps (zs k) v r (maxL v + 1) := by
  have h : rcT (zs k) v (maxL v + 1) = 0 := by
    unfold rcT
    refine rcG_zero (fun i => ?_) _ _ _
    rw [Bool.eq_false_iff]
    intro hx
    unfold anyG at hx
    rw [List.any_eq_true] at hx
    obtain ⟨x, hx, hm⟩ := hx
    have hm := of_decide_eq_true hm
    obtain ⟨j, _, rfl⟩ := tabI_mem hx
    unfold nzF at hm
    rw [zs_getD] at hm
    have := getD_max hv ((dgI v.length i j).tmod v.length).toNat
    omega
  unfold keeps
  rw [h]
  have := Int.mul_nonneg hr (show (0 : Int) ≤ cnt (zs k) v by omega)
  omega

theorem keeps_low {s v : List Int} {n d : Int} (c : Ca s v n d) {r : Int} (hr : 0 ≤ r ∧ r ≤ 1000) (t : Int) :
    w64 (1000 * (lowF (rcT s v t) (cnt s v)).1) ≤ w64 (r * (lowF (rcT s v t) (cnt s v)).2) ↔ keeps s v r t := by
  have hp := cnt_pos c; have hc := c.cs
  have hb := rcT_bd s v t
  have hg := gcd_pos (n := rcT s v t) (show (0 : Int) < cnt s v by omega)
  obtain ⟨a1, a2⟩ := lowF_mul (rcT s v t) (cnt s v)
  have hd := lowF_den (n := rcT s v t) (show (0 : Int) < cnt s v by omega)
  have ha : 0 ≤ (lowF (rcT s v t) (cnt s v)).1 := by
    by_cases h : 0 ≤ (lowF (rcT s v t) (cnt s v)).1
    · exact h
    · have := Int.mul_neg_of_neg_of_pos (show (lowF (rcT s v t) (cnt s v)).1 < 0 by omega) hg
      omega
  have l1 := Int.mul_le_mul_of_nonneg_left (show (1 : Int) ≤ (Int.gcd (rcT s v t) (cnt s v) : Int) by omega) ha
  have l2 := Int.mul_le_mul_of_nonneg_left (show (1 : Int) ≤ (Int.gcd (rcT s v t) (cnt s v) : Int) by omega) (show 0 ≤ (lowF (rcT s v t) (cnt s v)).2 by omega)
  have r1 : 0 ≤ r * (lowF (rcT s v t) (cnt s v)).2 := Int.mul_nonneg hr.1 (by omega)
  have r2 : r * (lowF (rcT s v t) (cnt s v)).2 ≤ 1000 * 4096 := Int.mul_le_mul hr.2 (by omega) (by omega) (by omega)
  rw [w64_in (by omega), w64_in (by omega)]
  unfold keeps
  have e1 : 1000 * rcT s v t = 1000 * (lowF (rcT s v t) (cnt s v)).1 * (Int.gcd (rcT s v t) (cnt s v) : Int) := by rw [Int.mul_assoc, a1]
  have e2 : r * (cnt s v : Int) = r * (lowF (rcT s v t) (cnt s v)).2 * (Int.gcd (rcT s v t) (cnt s v) : Int) := by rw [Int.mul_assoc, a2]
  rw [e1, e2]
  exact (Int.mul_le_mul_right hg).symm

theorem thr_first {s v : List Int} {n d : Int} (c : Ca s v n d) {r : Int} (hr : 0 ≤ r ∧ r ≤ 1000) (t1 t2 : Int) (x : Int) (l : List Int) (hl : (x :: l).length ≤ 1000) (hb : ∀ y ∈ x :: l, -1 ≤ y ∧ y ≤ 1000) (n4 : Nat) (c5 : List PV) (m : Int) :
    Rline_ThresholdFor_0 (Tline_ThresholdFor_0a m (x :: l).length (encI (x :: l)) (x :: l).length n4 c5 r s.length (encI s) v.length (encI v) t1 t2) =
      exO (Xline_ThresholdFor_0a (thP s v r (x :: l) m, false, r, false, s.length, encI s, v.length, encI v, t1, t2)) := by
  have hxb := hb x (by simp)
  have hlen : (x :: l).length = l.length + 1 := rfl
  refine Rline_ThresholdFor_0a_of _ _ _ _ _ _ _ _ _ _ _ _ _ ?_
  unfold Bline_ThresholdFor_0a
  rw [bif_pos (by omega), bif_pos (by omega)]
  have h0 : (encI (x :: l))[0]? = some (.int .i64 x) := rfl
  simp only [h0, intC_int, bindO_val]
  rw [w64_in (n := x + 1) (by omega)]
  simp only [keepsRisk_is c hr, bindO_val]
  have := thr_loop c hr t1 t2 (x :: l) hl hb 1 (by omega) (stP s v r m x)
  rw [show (x :: l).drop 1 = l from rfl, show ((1 : Nat) : Int) = 1 from rfl] at this
  rw [thP]
  unfold stP at this ⊢
  by_cases hk : keeps s v r (x + 1)
  · rw [bif_pos hk]
    rw [if_pos hk] at this ⊢
    exact this
  · rw [bif_neg hk]
    rw [if_neg hk] at this ⊢
    exact this

theorem threshold_bad (v : List Int) (hv : v.length < 4294967296) (h0 : nzE v ≠ 0) (n r : Int) : Fline_ThresholdFor [.agg [.list v.length (encI v)], .int .i64 n, .int .i64 r] = some (0, nzE v) := by
  obtain ⟨e, he⟩ := linesError_any v n
  refine Fline_ThresholdFor_of _ _ _ _ ?_
  unfold tline_ThresholdFor
  simp only [noiseError_is v hv, he, lnRangeError_is, lnFirst3_is, bindO_val, bif_ne]
  have : first3 (nzE v) e (rangeE r 0 1000) = nzE v := by unfold first3; rw [if_pos h0]
  simp only [this, h0, ne_eq, not_false_eq_true, if_true, if_false]
def thE (v : List Int) (n r : Int) : Int := both (lnE v n) (rangeE r 0 1000)
theorem threshold_is {v : List Int} (h0 : nzE v = 0) (n r : Int) : Fline_ThresholdFor [.agg [.list v.length (encI v)], .int .i64 n, .int .i64 r] =
    some (if thE v n r ≠ 0 then (0, thE v n r) else (thP (zs n.toNat) v r (-1 :: v) (maxL v + 1), 0)) := by
  have hv := nz_ok h0
  have hl := hv.len
  refine Fline_ThresholdFor_of _ _ _ _ ?_
  unfold tline_ThresholdFor
  simp only [noiseError_is v (by omega), linesError_is v hl, lnRangeError_is, lnFirst3_is, bindO_val, bif_ne, first3_z h0]
  rw [show both (lnE v n) (rangeE r 0 1000) = thE v n r from rfl]
  by_cases h : thE v n r = 0
  · obtain ⟨h1, h2⟩ := both_nil h
    obtain ⟨k, rfl, k1, k2, c⟩ := lnE_ok hv h1
    have hr := rangeE_ok h2
    have hm := hv.sm _ (maxL_mem hv.pos)
    have hc : Fconcat [.list 2 [.list 1 [.int .i64 (-1)], .list v.length (encI v)]] = some ((-1 :: v).length, encI (-1 :: v)) := by
      have := concat_is [[-1], v] (by simp) (by simp; omega)
      rw [show ([[-1], v] : List (List Int)).flatten = -1 :: v by simp] at this
      exact this
    have ht := Lline_ThresholdFor_0a_of (thr_first c hr 0 0 (-1) v (by simp; omega) (fun y hy => by
      rcases List.mem_cons.1 hy with rfl | hy
      · omega
      · have := hv.sm y hy; omega) v.length (encI v) (maxL v + 1))
    simp only [h, ne_eq, not_true_eq_false, if_true, if_false, noiseOn_is v k (by omega), maxI_is v hv.pos (by omega), hc, bindO_val, Int.toNat_natCast]
    rw [w64_in (n := maxL v + 1) (by omega), ht, bindO_val]
  · simp only [h, ne_eq, not_false_eq_true, if_true, if_false]

theorem refThr_loop {v : List Int} (hv : Nz v) {k : Nat} (hk : k ≤ 16) (c : Ca (zs k) v 0 1) {r : Int} (hr : 0 ≤ r ∧ r ≤ 1000) : ∀ i, i ≤ v.length → ∀ m : Int,
    RRfThreshold_0 (TRfThreshold_0a k r m i v.length (encI v)) = exO (XRfThreshold_0a (thR (zs k) v r (v.drop i) m, v.length, encI v)) := by
  have hl := hv.len
  refine up_ind _ ?_ ?_
  · intro m
    refine RRfThreshold_0a_of _ _ _ _ _ _ ?_
    unfold BRfThreshold_0a
    rw [bif_neg (by omega), List.drop_length]
    rfl
  · intro i hi ih m
    obtain ⟨x, hx, hd⟩ := get_drop hi
    have hxb := hv.sm x (List.mem_of_getElem? hx)
    refine RRfThreshold_0a_of _ _ _ _ _ _ ?_
    unfold BRfThreshold_0a
    rw [bif_pos (by omega), bif_pos (by omega), bif_pos (by omega)]
    simp only [Int.toNat_natCast, Nat.mul_one, encI_get, hx, Option.map_some, intC_int, bindO_val]
    rw [w64_in (n := x + 1) (by omega), w64_in (n := (i : Int) + 1) (by omega)]
    simp only [refFalseRate_is hk c, bindO_val]
    rw [hd, thR]
    have := ih (stR (zs k) v r m x)
    unfold stR at this ⊢
    by_cases hq : keeps (zs k) v r (x + 1)
    · rw [bif_pos ((keeps_low c hr _).2 hq)]
      rw [if_pos hq] at this ⊢
      by_cases h1 : m < 0
      · rw [bif_pos h1]
        rw [if_pos h1] at this ⊢
        exact this
      · rw [bif_neg h1]
        rw [if_neg h1] at this ⊢
        by_cases h2 : x + 1 < m
        · rw [bif_pos h2]
          rw [if_pos h2] at this ⊢
          exact this
        · rw [bif_neg h2]
          rw [if_neg h2] at this ⊢
          exact this
    · rw [bif_neg (fun h => hq ((keeps_low c hr _).1 h))]
      rw [if_neg hq] at this ⊢
      exact this
theorem refThreshold_is {v : List Int} (hv : Nz v) {k : Nat} (hk : k ≤ 16) (c : Ca (zs k) v 0 1) {r : Int} (hr : 0 ≤ r ∧ r ≤ 1000) :
    FRfThreshold [.agg [.list v.length (encI v)], .int .i64 k, .int .i64 r] = some (thP (zs k) v r (-1 :: v) (maxL v + 1)) := by
  have hm := hv.sm _ (maxL_mem hv.pos)
  have same := th_same (zs k) v r (maxL v + 1) (-1 :: v) (maxL v + 1) (-1) (fun x hx => by
      rcases List.mem_cons.1 hx with rfl | hx
      · omega
      · have := hv.sm x hx; have := maxL_ge hx; omega) (.inl ⟨by omega, rfl⟩)
    (thR_pos _ _ _ _ _ (fun x hx => by
      rcases List.mem_cons.1 hx with rfl | hx
      · omega
      · have := hv.sm x hx; omega) (.inr ⟨maxL v, by simp [maxL_mem hv.pos], keeps_top hv k hr.1⟩))
  have first : RRfThreshold_0 (TRfThreshold_0a k r (-1) (-1) v.length (encI v)) = exO (XRfThreshold_0a (thR (zs k) v r (-1 :: v) (-1), v.length, encI v)) := by
    refine RRfThreshold_0a_of _ _ _ _ _ _ ?_
    unfold BRfThreshold_0a
    rw [bif_pos (by omega), bif_neg (by omega)]
    simp only [refFalseRate_is hk c, bindO_val]
    have := refThr_loop hv hk c hr 0 (by omega) (stR (zs k) v r (-1) (-1))
    rw [List.drop_zero] at this
    rw [thR]
    unfold stR at this ⊢
    rw [show ((-1 : Int) + 1) = 0 from rfl] at this ⊢
    rw [show w64 (0 : Int) = 0 from rfl]
    by_cases hq : keeps (zs k) v r 0
    · rw [bif_pos ((keeps_low c hr _).2 hq), bif_pos (by omega)]
      rw [if_pos hq, if_pos (by omega)] at this ⊢
      exact this
    · rw [bif_neg (fun h => hq ((keeps_low c hr _).1 h))]
      rw [if_neg hq] at this ⊢
      exact this
  refine FRfThreshold_of _ _ _ _ ?_
  unfold tRfThreshold
  rw [LRfThreshold_0a_of first, bindO_val, same]
end Gv

/- The law LineRates. -/
namespace Gv
open Go
set_option maxRecDepth 100000

theorem lr41 (v : List Int) (n t r : Int) : ∃ z, LLwLineRates_1000041 (TLwLineRates_1000041a n v.length (encI v) t r) = some z ∧ (z = .inl () ∨ (v.length ≤ 20 ∧ z = .inr (n, v.length, encI v, t, r))) := by
  have key : ∃ z, (z = .inl () ∨ (v.length ≤ 20 ∧ z = .inr (n, v.length, encI v, t, r))) ∧ RLwLineRates_1000041 (TLwLineRates_1000041a n v.length (encI v) t r) = exO (XLLwLineRates_1000041.fn z) := by
    by_cases h1 : v.length ≤ 20
    · by_cases h2 : nzE v = 0
      · have hv := nz_ok h2
        by_cases h3 : rangeE n 1 16 = 0
        · obtain ⟨k1, k2⟩ := rangeE_ok h3
          obtain ⟨k, rfl⟩ : ∃ k : Nat, n = k := ⟨n.toNat, by omega⟩
          by_cases h4 : rangeE (if 4096 < v.length ^ k then 4097 else ((v.length ^ k : Nat) : Int)) 513 4096 = 0
          · refine ⟨.inl (), .inl rfl, RLwLineRates_1000041a_of _ _ _ _ _ ?_⟩
            unfold BLwLineRates_1000041a
            simp only [short_is, refNoiseErr_is, within_is, refCases_is v ⟨hv.pos, hv.len⟩ k (by omega), h1, h2, h3, h4, decide_true, bindO_val, cond_true, beq_self_eq_true]
            rfl
          · refine ⟨.inr (k, v.length, encI v, t, r), .inr ⟨h1, rfl⟩, RLwLineRates_1000041a_of _ _ _ _ _ ?_⟩
            unfold BLwLineRates_1000041a
            simp only [short_is, refNoiseErr_is, within_is, refCases_is v ⟨hv.pos, hv.len⟩ k (by omega), h1, h2, h3, h4, decide_true, decide_false, bindO_val, cond_true, cond_false, beq_self_eq_true]
            rfl
        · refine ⟨.inr (n, v.length, encI v, t, r), .inr ⟨h1, rfl⟩, RLwLineRates_1000041a_of _ _ _ _ _ ?_⟩
          unfold BLwLineRates_1000041a
          simp only [short_is, refNoiseErr_is, within_is, h1, h2, h3, decide_true, decide_false, bindO_val, cond_true, cond_false, beq_self_eq_true]
          rfl
      · refine ⟨.inr (n, v.length, encI v, t, r), .inr ⟨h1, rfl⟩, RLwLineRates_1000041a_of _ _ _ _ _ ?_⟩
        unfold BLwLineRates_1000041a
        simp only [short_is, refNoiseErr_is, h1, decide_true, bindO_val, cond_true, bif_eq, h2, if_false]
        rfl
    · refine ⟨.inl (), .inl rfl, RLwLineRates_1000041a_of _ _ _ _ _ ?_⟩
      unfold BLwLineRates_1000041a
      simp only [short_is, h1, decide_false, bindO_val, cond_false]
      rfl
  obtain ⟨z, h, hz⟩ := key
  exact ⟨z, lpO_of ILwLineRates_1000041 XILwLineRates_1000041 hz, h⟩

theorem lr28 {v : List Int} (n e a b t r x y : Int) (h : nzE v = 0 → Nz v) :
    LLwLineRates_1000028 (TLwLineRates_1000028a n e a b (nzE v) v.length (encI v) t r x y) = some (n, e, a, b, both (nzE v) (lnE v n), v.length, encI v, t, r, x, y) := by
  refine LLwLineRates_1000028a_of (RLwLineRates_1000028a_of _ _ _ _ _ _ _ _ _ _ _ ?_)
  unfold BLwLineRates_1000028a both
  rw [bif_eq]
  by_cases h0 : nzE v = 0
  · rw [if_pos h0, if_neg (by omega)]
    simp only [refLinesErr_is (h h0), bindO_val]
    rfl
  · rw [if_neg h0, if_pos h0]
    rfl

theorem lr17 {v : List Int} {k : Nat} (hk : k ≤ 16) (c : Ca (zs k) v 0 1) (t r a b x y : Int)
    (h : rangeE t 0 11000 ≠ 0 ∧ x = 0 ∧ y = 0 ∨ rangeE t 0 11000 = 0 ∧ x = (lowF (rcT (zs k) v t) (cnt (zs k) v)).1 ∧ y = (lowF (rcT (zs k) v t) (cnt (zs k) v)).2) :
    LLwLineRates_1000017 (TLwLineRates_1000017a k (rangeE t 0 11000) a b v.length (encI v) t r x y) = some (.inr (k, a, b, v.length, encI v, t, r)) := by
  refine LLwLineRates_1000017b_of (RLwLineRates_1000017a_of _ _ _ _ _ _ _ _ _ _ ?_)
  unfold BLwLineRates_1000017a
  simp only [refThreshE_is, bindO_val]
  rcases h with ⟨h, rfl, rfl⟩ | ⟨h, rfl, rfl⟩
  · have h1 : (rangeE t 0 11000 != 0) = true := by simpa using h
    have h2 : (rangeE t 0 11000 == 0) = false := by simpa using h
    have h3 : (rangeE t 0 11000 != rangeE t 0 11000) = false := by simp
    rw [h1, h2, h3]
    rfl
  · rw [h]
    simp only [refFalseRate_is hk c, bindO_val, beq_self_eq_true, bne_self_eq_false, Bool.and_self, Bool.not_true, cond_true, cond_false]
    rfl

theorem ratesLaw (v : List Int) (n t r : Int) : FLwLineRates [.agg [.list v.length (encI v)], .int .i64 n, .agg [.int .i64 t, .int .i64 r]] = some true := by
  refine FLwLineRates_of _ _ _ _ _ ?_
  unfold tLwLineRates
  simp only [awakeL_is, bindO_val, cond_true]
  obtain ⟨z, hz, hs⟩ := lr41 v n t r
  rw [hz, bindO_val]
  rcases hs with rfl | ⟨hl, rfl⟩
  · rfl
  · simp only [Sum.elim_inr, copyNoise_is v (by omega), bindO_val, refNoiseErr_is]
    by_cases h0 : nzE v = 0
    · have hv := nz_ok h0
      simp only [falseRate_is h0, threshold_is h0, bindO_val, lr28 n _ _ _ t r _ _ (fun _ => hv)]
      have e1 : both (nzE v) (lnE v n) = lnE v n := both_zero h0
      simp only [e1]
      by_cases h1 : lnE v n = 0
      · obtain ⟨k, rfl, k1, k2, c⟩ := lnE_ok hv h1
        have f1 : frE2 v k t = rangeE t 0 11000 := both_zero h1
        have f2 : thE v k r = rangeE r 0 1000 := both_zero h1
        have n1 : (lnE v (k : Int) != 0) = false := by simp [h1]
        rw [n1, cond_false, f1, f2, Int.toNat_natCast]
        have e17 : ∀ a b, LLwLineRates_1000017 (TLwLineRates_1000017a k
            (if rangeE t 0 11000 ≠ 0 then ((0 : Int), ((0 : Int), rangeE t 0 11000)) else ((lowF (rcT (zs k) v t) (cnt (zs k) v)).1, ((lowF (rcT (zs k) v t) (cnt (zs k) v)).2, 0))).2.2 a b v.length (encI v) t r
            (if rangeE t 0 11000 ≠ 0 then ((0 : Int), ((0 : Int), rangeE t 0 11000)) else ((lowF (rcT (zs k) v t) (cnt (zs k) v)).1, ((lowF (rcT (zs k) v t) (cnt (zs k) v)).2, 0))).1
            (if rangeE t 0 11000 ≠ 0 then ((0 : Int), ((0 : Int), rangeE t 0 11000)) else ((lowF (rcT (zs k) v t) (cnt (zs k) v)).1, ((lowF (rcT (zs k) v t) (cnt (zs k) v)).2, 0))).2.1) = some (.inr (k, a, b, v.length, encI v, t, r)) := by
          intro a b
          by_cases ht : rangeE t 0 11000 = 0
          · rw [if_neg (by omega)]
            have := lr17 k2 c t r a b _ _ (.inr ⟨ht, rfl, rfl⟩)
            rw [ht] at this
            exact this
          · rw [if_pos ht]
            exact lr17 k2 c t r a b 0 0 (.inl ⟨ht, rfl, rfl⟩)
        simp only [e17, bindO_val, Sum.elim_inr, within_is]
        by_cases hr : rangeE r 0 1000 = 0
        · rw [if_neg (by omega), hr]
          simp only [decide_true, cond_true, beq_self_eq_true, refThreshold_is hv k2 c (rangeE_ok hr), bindO_val]
        · rw [if_pos hr]
          have h2 : rangeE r 0 1000 = 2 := rangeE_out fun q => hr (rangeE_in q)
          rw [h2]
          rfl
      · have f1 : frE2 v n t = lnE v n := both_not h1
        have f2 : thE v n r = lnE v n := both_not h1
        have n1 : (lnE v n != 0) = true := by simpa using h1
        rw [f1, f2, if_pos h1, if_pos h1, n1]
        simp only [cond_true, beq_self_eq_true, Bool.and_self]
    · simp only [falseRate_bad v (by omega) h0, threshold_bad v (by omega) h0, bindO_val, lr28 n _ _ _ t r _ _ (fun h => absurd h h0)]
      have e1 : both (nzE v) (lnE v n) = nzE v := both_not h0
      have n1 : (nzE v != 0) = true := by simpa using h0
      rw [e1, n1]
      simp only [cond_true, beq_self_eq_true, Bool.and_self]
end Gv

