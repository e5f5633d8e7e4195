/- Spectra: their errors, peaks, and what is left without a background; the program's and the specification's. -/
import Derived.Test.YtkbbilbpejbmiaaGvYm
import Derived.Test.YtkbbilbpejbmiaaM1
namespace Gv
open Go
set_option maxRecDepth 100000

theorem short_is (l : List Int) : FLwshort [.list l.length (encI l)] = some (decide (l.length ≤ 20)) := by
  refine FLwshort_of _ _ ?_
  unfold tLwshort
  by_cases h : l.length ≤ 20
  · rw [bif_pos (by omega), decide_eq_true h]
  · rw [bif_neg (by omega), decide_eq_false h]
theorem lnErrorIf_is (b : Bool) (x : Int) : Fline_errorIf [.bool b, .int .i64 x] = some (if b then x else 0) :=
  Fline_errorIf_of b x (by cases b <;> rfl)
theorem outside_is (x lo hi : Int) : Fline_outside_1 [.int .i64 x, .imm [.int .i64 lo] 0, .imm [.int .i64 hi] 0] = some (decide (rangeE x lo hi ≠ 0)) :=
  Fline_outside_1_of x lo hi (by
    unfold tline_outside_1 rangeE
    by_cases h1 : x < lo
    · rw [bif_pos h1]; simp [h1]
    · rw [bif_neg h1]
      by_cases h2 : hi < x
      · rw [bif_pos h2]; simp [h2]
      · rw [bif_neg h2]; simp [h1, h2])
theorem lnRangeError_is (x lo hi : Int) : Fline_rangeError [.int .i64 x, .int .i64 lo, .int .i64 hi] = some (rangeE x lo hi) :=
  Fline_rangeError_of x lo hi (by
    unfold tline_rangeError
    simp only [outside_is, bindO_val]
    by_cases h : rangeE x lo hi = 0
    · rw [bif_neg (by simpa using h), h]
    · rw [bif_pos h]
      unfold rangeE at h ⊢
      split
      · rfl
      · rename_i h2; rw [if_neg h2] at h; exact absurd rfl h)
theorem lnFirst2_is (a b : Int) : Fline_firstError_2 [.list 2 [.int .i64 a, .int .i64 b]] = some (both a b) :=
  Fline_firstError_2_of a b (by
    unfold tline_firstError_2 both
    simp only [bif_ne]
    by_cases h1 : a = 0 <;> by_cases h2 : b = 0 <;> simp [h1, h2])
theorem lnFirst3_is (a b c : Int) : Fline_firstError_3 [.list 3 [.int .i64 a, .int .i64 b, .int .i64 c]] = some (first3 a b c) :=
  Fline_firstError_3_of a b c (by
    unfold tline_firstError_3 first3
    simp only [bif_ne]
    by_cases h1 : a = 0 <;> by_cases h2 : b = 0 <;> by_cases h3 : c = 0 <;> simp [h1, h2, h3])
theorem within_is (x a b : Int) : FBsWithin [.int .i64 x, .int .i64 a, .int .i64 b] = some (decide (rangeE x a b = 0)) :=
  FBsWithin_of x a b (by
    unfold tBsWithin
    by_cases h1 : a ≤ x
    · rw [bif_pos h1]
      by_cases h2 : x ≤ b
      · rw [bif_pos h2, rangeE_in ⟨h1, h2⟩]; rfl
      · rw [bif_neg h2, rangeE_out (fun h => h2 h.2)]; rfl
    · rw [bif_neg h1, rangeE_out (fun h => h1 h.1)]; rfl)

theorem findE_idx {β : Type} {f : β → Int} : ∀ {l : List β} {i : Nat} {p : Int × Int}, findE f l i = some p → (i : Int) ≤ p.1
  | [], _, _, h => by simp [findE] at h
  | x :: l, i, p, h => by
    simp only [findE] at h
    split at h
    · simp at h; subst h; exact Int.le_refl _
    · have := findE_idx h; omega

def sumI (o : Option (Int × Int)) : Int ⊕ Unit := match o with
  | some p => .inl p.1
  | none => .inr ()

theorem index_loop (lo hi : Int) (l : List Int) (hl : l.length < 4294967296) : ∀ i, i ≤ l.length →
    Rline_IndexFunc_out_0 (Tline_IndexFunc_out_0a l.length (encI l) lo hi l.length i) = exO (XLline_IndexFunc_out_0.fn (sumI (findE (fun x => rangeE x lo hi) (l.drop i) i))) := by
  refine up_ind _ ?_ ?_
  · refine Rline_IndexFunc_out_0a_of _ _ _ _ _ _ ?_
    unfold Bline_IndexFunc_out_0a
    rw [bif_neg (by omega), List.drop_length]
    rfl
  · intro i hi' ih
    obtain ⟨x, hx, hd⟩ := get_drop hi'
    refine Rline_IndexFunc_out_0a_of _ _ _ _ _ _ ?_
    unfold Bline_IndexFunc_out_0a
    rw [bif_pos (by omega), bif_pos (by omega)]
    simp only [Int.toNat_natCast, Nat.mul_one, encI_get, hx, Option.map_some, intC_int, bindO_val, outside_is]
    rw [hd, w64_in (by omega)]
    by_cases he : rangeE x lo hi = 0
    · rw [bif_neg (by simpa using he)]
      simp only [findE, he, ne_eq, not_true_eq_false, if_false]
      exact ih
    · rw [bif_pos he]
      simp only [findE, ne_eq, he, not_false_eq_true, if_true]
      rfl

theorem index_is (lo hi : Int) (l : List Int) (hl : l.length < 4294967296) :
    Fline_IndexFunc_out [.list l.length (encI l), .fn 100 [.imm [.int .i64 lo] 0, .imm [.int .i64 hi] 0]] = some (match findE (fun x => rangeE x lo hi) l 0 with | some p => p.1 | none => -1) := by
  refine Fline_IndexFunc_out_of _ _ _ _ ?_
  unfold tline_IndexFunc_out
  have := lpO_of Iline_IndexFunc_out_0 XIline_IndexFunc_out_0 (index_loop lo hi l hl 0 (by omega))
  have this : Lline_IndexFunc_out_0 (Tline_IndexFunc_out_0a l.length (encI l) lo hi l.length 0) = _ := this
  rw [this]
  simp only [bindO_val, List.drop_zero]
  cases findE (fun x => rangeE x lo hi) l 0 <;> rfl

theorem numbers_is (m lo hi : Int) (l : List Int) (hl : l.length < 4294967296) :
    Fline_numbersError [.list l.length (encI l), .int .i64 m, .fn 100 [.imm [.int .i64 lo] 0, .imm [.int .i64 hi] 0]] = some (listIE m lo hi l) := by
  refine Fline_numbersError_of _ _ _ _ _ ?_
  unfold tline_numbersError listIE
  simp only [lnFirst2_is, bindO_val, index_is lo hi l hl, bif_eq, bif_ne, bif_dec, both]
  by_cases h1 : l.length = 0
  · simp [h1]
  · have h1' : ¬ (l.length : Int) = 0 := by omega
    by_cases h2 : m < l.length
    · simp [h1, h2]
    · simp only [h1', h1, h2, if_false, gt_iff_lt, ne_eq, not_true_eq_false, if_true]
      cases hf : findE (fun x => rangeE x lo hi) l 0 with
      | none => simp
      | some p =>
        have a1 := findE_rng lo hi hf
        have a2 := findE_idx hf
        simp only [ge_iff_le, Option.getD_some]
        rw [if_pos (by simpa using a2)]
        rw [← a1]

def spP (l : List Int) : Int × Int := listIE 16 0 10000 l
def spE (l : List Int) : Int := (spP l).2
theorem checkSp_is (l : List Int) (hl : l.length < 4294967296) : Fline_CheckSpectrum [.list l.length (encI l)] = some (spP l) := by
  refine Fline_CheckSpectrum_of _ _ ?_
  unfold tline_CheckSpectrum
  simp only [numbers_is 16 0 10000 l hl, bindO_val]
  rfl
theorem spError_is (l : List Int) (hl : l.length < 4294967296) : Fline_spectrumError [.list l.length (encI l)] = some (spE l) := by
  refine Fline_spectrumError_of _ _ ?_
  unfold tline_spectrumError
  simp only [checkSp_is l hl, bindO_val]
  rfl
theorem spE_ok {l : List Int} (h : spE l = 0) : 1 ≤ l.length ∧ l.length ≤ 16 ∧ ∀ x ∈ l, 0 ≤ x ∧ x ≤ 10000 := by
  obtain ⟨a, b, c⟩ := listIE_ok h
  exact ⟨a, by omega, c⟩

/-! ### Peaks -/

theorem maxS_loop (l : List Int) (hl : l.length ≤ 1000) : ∀ i, i ≤ l.length → ∀ m : Int,
    Rline_MaxS_0 (Tline_MaxS_0a l.length (encI l) m i) = exO (Xline_MaxS_0a (maxF m (l.drop i))) := by
  refine up_ind _ ?_ ?_
  · intro m
    refine Rline_MaxS_0a_of _ _ _ _ ?_
    unfold Bline_MaxS_0a
    rw [bif_neg (by omega), List.drop_length]
    rfl
  · intro i hi ih m
    obtain ⟨x, hx, hd⟩ := get_drop hi
    refine Rline_MaxS_0a_of _ _ _ _ ?_
    unfold Bline_MaxS_0a
    rw [bif_pos (by omega), bif_pos (by omega)]
    simp only [Int.toNat_natCast, Nat.mul_one, encI_get, hx, Option.map_some, intC_int, bindO_val]
    rw [hd, w64_in (by omega)]
    exact ih _
theorem max_split {l : List Int} (h : 1 ≤ l.length) : maxL l = maxF (l.getD 0 0) (l.drop 1) := by
  cases l with
  | nil => simp at h
  | cons x l => rfl
theorem maxS_is (l : List Int) (h1 : 1 ≤ l.length) (hl : l.length ≤ 1000) : Fline_MaxS [.list l.length (encI l)] = some (maxL l) := by
  refine Fline_MaxS_of _ _ ?_
  unfold tline_MaxS
  rw [bif_neg (by omega), bif_pos (by omega)]
  simp only [encI_get, get_getD 0 (show 0 < l.length by omega), Option.map_some, intC_int, bindO_val]
  have := Lline_MaxS_0a_of (maxS_loop l hl 1 (by omega) (l.getD 0 0))
  rw [show ((1 : Nat) : Int) = 1 from rfl] at this
  rw [this, max_split h1]
  rfl
def sumN (o : Option Nat) : Int ⊕ Unit := match o with
  | some k => .inl (k : Int)
  | none => .inr ()
theorem indexS_loop (v : Int) (l : List Int) (hl : l.length ≤ 1000) : ∀ i, i ≤ l.length →
    Rline_IndexS_0 (Tline_IndexS_0a l.length (encI l) v l.length i) = exO (XLline_IndexS_0.fn (sumN (firstV v (l.drop i) i))) := by
  refine up_ind _ ?_ ?_
  · refine Rline_IndexS_0a_of _ _ _ _ _ ?_
    unfold Bline_IndexS_0a
    rw [bif_neg (by omega), List.drop_length]
    rfl
  · intro i hi ih
    obtain ⟨x, hx, hd⟩ := get_drop hi
    refine Rline_IndexS_0a_of _ _ _ _ _ ?_
    unfold Bline_IndexS_0a
    rw [bif_pos (by omega), bif_pos (by omega)]
    simp only [Int.toNat_natCast, Nat.mul_one, encI_get, hx, Option.map_some, intC_int, bindO_val, bif_eq]
    rw [hd, w64_in (by omega)]
    by_cases he : v = x
    · simp only [firstV, he, if_true]
      rfl
    · simp only [firstV, he, if_false]
      exact ih
theorem peak_is (l : List Int) (h1 : 1 ≤ l.length) (hl : l.length ≤ 1000) : Fline_peak [.list l.length (encI l)] = some (pkL l : Int) := by
  refine Fline_peak_of _ _ ?_
  unfold tline_peak
  have f : Fline_IndexS [.list l.length (encI l), .int .i64 (maxL l)] = some (pkL l : Int) := by
    refine Fline_IndexS_of _ _ _ ?_
    unfold tline_IndexS
    have := lpO_of Iline_IndexS_0 XIline_IndexS_0 (indexS_loop (maxL l) l hl 0 (by omega))
    rw [List.drop_zero, (pkL_spec h1).1] at this
    have this : Lline_IndexS_0 (Tline_IndexS_0a l.length (encI l) (maxL l) l.length 0) = _ := this
    rw [this]
    rfl
  simp only [maxS_is l h1 hl, f, bindO_val]
def pkR (l : List Int) : Int × Int := if spE l ≠ 0 then (0, spE l) else ((pkL l : Int), 0)
def isMax (l : List Int) (m : Int) (i : Nat) : Bool := decide (l.getD i 0 = m)

def pksL (l : List Int) : List Int := colI (isMax l (maxL l)) l.length 0
/-! ### Without a background -/

/-! ### The specification's -/

theorem lcopyI_is (l : List Int) (hl : l.length ≤ 1000000) : FBsCopyInts [.list l.length (encI l)] = some (l.length, encI l) := by
  refine FBsCopyInts_of _ _ ?_
  unfold tBsCopyInts
  by_cases h : l.length = 0
  · rw [bif_pos h]
    have := List.eq_nil_of_length_eq_zero h
    subst this
    rfl
  · rw [bif_neg h, bif_pos (by simp), bif_pos (by simp only [big]; omega), bif_pos rfl]
    simp
theorem lints_loop (l : List Int) (hl : l.length < 4294967296) : ∀ i, i ≤ l.length →
    RBsInts_0 (TBsInts_0a l.length (encI l) l.length (encI l) i) = exO (XBsInts_0b ()) := by
  refine up_ind _ ?_ ?_
  · refine RBsInts_0a_of _ _ _ _ _ ?_
    unfold BBsInts_0a
    rw [bif_neg (by omega)]
    rfl
  · intro i hi ih
    obtain ⟨x, hx, hd⟩ := get_drop hi
    refine RBsInts_0a_of _ _ _ _ _ ?_
    unfold BBsInts_0a
    rw [bif_pos (by omega), bif_pos (by omega)]
    simp only [Int.toNat_natCast, Nat.mul_one, encI_get, hx, Option.map_some, intC_int, bindO_val]
    rw [bif_pos (by omega), bif_ne, if_pos rfl, w64_in (by omega)]
    exact ih
theorem lints_refl (l : List Int) (hl : l.length < 4294967296) : FBsInts [.list l.length (encI l), .list l.length (encI l)] = some true := by
  refine FBsInts_of _ _ _ _ ?_
  unfold tBsInts
  rw [bif_ne, if_pos rfl]
  have := LBsInts_0b_of (lints_loop l hl 0 (by omega))
  rw [show ((0 : Nat) : Int) = 0 from rfl] at this
  rw [this]
  rfl

theorem refSp_loop (l : List Int) (hl : l.length < 4294967296) : ∀ i, i ≤ l.length →
    RRfCheckSpectrum_0 (TRfCheckSpectrum_0a l.length (encI l) i) = exO (XLRfCheckSpectrum_0.fn (sumI (findE (fun x => rangeE x 0 10000) (l.drop i) i))) := by
  refine up_ind _ ?_ ?_
  · refine RRfCheckSpectrum_0a_of _ _ _ ?_
    unfold BRfCheckSpectrum_0a
    rw [bif_neg (by omega), List.drop_length]
    rfl
  · intro i hi ih
    obtain ⟨x, hx, hd⟩ := get_drop hi
    refine RRfCheckSpectrum_0a_of _ _ _ ?_
    unfold BRfCheckSpectrum_0a
    rw [bif_pos (by omega), bif_pos (by omega)]
    simp only [Int.toNat_natCast, Nat.mul_one, encI_get, hx, Option.map_some, intC_int, bindO_val, within_is]
    rw [hd, w64_in (by omega)]
    by_cases he : rangeE x 0 10000 = 0
    · rw [bif_pos he]
      simp only [findE, he, ne_eq, not_true_eq_false, if_false]
      exact ih
    · rw [bif_neg he]
      simp only [findE, ne_eq, he, not_false_eq_true, if_true]
      rfl
theorem refCheckSp_is (l : List Int) : FRfCheckSpectrum [.list l.length (encI l)] = some (spP l) := by
  refine FRfCheckSpectrum_of _ _ ?_
  unfold tRfCheckSpectrum spP listIE
  rw [bif_eq]
  by_cases h1 : l.length = 0
  · rw [if_pos (by omega), if_pos h1]
  · rw [if_neg (by omega), if_neg h1]
    by_cases h2 : (16 : Int) < l.length
    · rw [bif_pos (by omega), if_pos h2]
    · rw [bif_neg (by omega), if_neg h2]
      have := lpO_of IRfCheckSpectrum_0 XIRfCheckSpectrum_0 (refSp_loop l (by omega) 0 (by omega))
      have this : LRfCheckSpectrum_0 (TRfCheckSpectrum_0a l.length (encI l) 0) = _ := this
      rw [this]
      simp only [bindO_val, List.drop_zero]
      cases hf : findE (fun x => rangeE x 0 10000) l 0 with
      | none => rfl
      | some p =>
        have a1 := findE_rng 0 10000 hf
        show some (p.1, (2 : Int)) = some p
        rw [← a1]
theorem refSpErr_is (l : List Int) : FRfSpectrumErr [.list l.length (encI l)] = some (spE l) := by
  refine FRfSpectrumErr_of _ _ ?_
  unfold tRfSpectrumErr
  simp only [refCheckSp_is l, bindO_val]
  rfl
/-! The specification's peaks -/

def allLe (x : Int) : List Int → Bool
  | [] => true
  | y :: l => decide (y ≤ x) && allLe x l
theorem allLe_iff (x : Int) : ∀ (l : List Int), allLe x l = true ↔ ∀ y ∈ l, y ≤ x
  | [] => by simp [allLe]
  | y :: l => by simp [allLe, allLe_iff x l]
theorem allLe_max {l : List Int} {x : Int} (h : x ∈ l) : allLe x l = decide (x = maxL l) := by
  have h1 : 1 ≤ l.length := by cases l <;> simp at h ⊢
  by_cases he : x = maxL l
  · rw [decide_eq_true he, allLe_iff]
    intro y hy
    rw [he]
    exact maxL_ge hy
  · rw [decide_eq_false he]
    cases ha : allLe x l with
    | false => rfl
    | true =>
      have := (allLe_iff x l).1 ha _ (maxL_mem h1)
      have := maxL_ge h
      omega

theorem pk2a_loop (l : List Int) (hl : l.length ≤ 1000) (i : Nat) (hi : i < l.length) : ∀ k, k ≤ l.length → ∀ b : Bool,
    RRfPeaks_2 (TRfPeaks_2a l.length (encI l) i b k) = exO (XRfPeaks_2a (l.length, encI l, i, b && allLe (l.getD i 0) (l.drop k))) := by
  refine up_ind _ ?_ ?_
  · intro b
    refine RRfPeaks_2a_of _ _ _ _ _ ?_
    unfold BRfPeaks_2a
    rw [bif_neg (by omega), List.drop_length]
    simp only [allLe, Bool.and_true]
    rfl
  · intro k hk ih b
    obtain ⟨x, hx, hd⟩ := get_drop hk
    refine RRfPeaks_2a_of _ _ _ _ _ ?_
    unfold BRfPeaks_2a
    rw [bif_pos (by omega), hd, w64_in (by omega)]
    cases b with
    | false =>
      have := ih false
      simp only [Bool.false_and] at this
      simp only [cond_false, Bool.false_and]
      exact this
    | true =>
      simp only [cond_true, Bool.true_and, allLe]
      rw [bif_pos (by omega)]
      simp only [Int.toNat_natCast, Nat.mul_one, encI_get, hx, get_getD 0 hi, Option.map_some, intC_int, bindO_val]
      rw [bif_pos (by omega)]
      by_cases h : x ≤ l.getD i 0
      · have := ih true
        simp only [Bool.true_and] at this
        rw [bif_pos h, decide_eq_true h, Bool.true_and]
        exact this
      · have := ih false
        simp only [Bool.false_and] at this
        rw [bif_neg h, decide_eq_false h, Bool.false_and]
        exact this
theorem pk2b_loop (l acc : List Int) (hl : l.length ≤ 1000) (i : Nat) (hi : i < l.length) : ∀ k, k ≤ l.length → ∀ b : Bool,
    RRfPeaks_2 (TRfPeaks_2b l.length (encI l) acc.length (encI acc) i b k acc.length) = exO (XRfPeaks_2b (l.length, encI l, acc.length, encI acc, i, b && allLe (l.getD i 0) (l.drop k), acc.length)) := by
  refine up_ind _ ?_ ?_
  · intro b
    refine RRfPeaks_2b_of _ _ _ _ _ _ _ _ ?_
    unfold BRfPeaks_2b
    rw [bif_neg (by omega), List.drop_length]
    simp only [allLe, Bool.and_true]
    rfl
  · intro k hk ih b
    obtain ⟨x, hx, hd⟩ := get_drop hk
    refine RRfPeaks_2b_of _ _ _ _ _ _ _ _ ?_
    unfold BRfPeaks_2b
    rw [bif_pos (by omega), hd, w64_in (by omega)]
    cases b with
    | false =>
      have := ih false
      simp only [Bool.false_and] at this
      simp only [cond_false, Bool.false_and]
      exact this
    | true =>
      simp only [cond_true, Bool.true_and, allLe]
      rw [bif_pos (by omega)]
      simp only [Int.toNat_natCast, Nat.mul_one, encI_get, hx, get_getD 0 hi, Option.map_some, intC_int, bindO_val]
      rw [bif_pos (by omega)]
      by_cases h : x ≤ l.getD i 0
      · have := ih true
        simp only [Bool.true_and] at this
        rw [bif_pos h, decide_eq_true h, Bool.true_and]
        exact this
      · have := ih false
        simp only [Bool.false_and] at this
        rw [bif_neg h, decide_eq_false h, Bool.false_and]
        exact this

def tRP (l : List Int) (acc : List Int) (i : Int) : Q :=
  if acc = [] then TRfPeaks_0a l.length (encI l) i
  else TRfPeaks_0b l.length (encI l) acc.length (encI acc) i acc.length
def xRP (acc : List Int) : Ext × Q :=
  if acc = [] then XRfPeaks_0a ()
  else XRfPeaks_0b (acc.length, encI acc, acc.length)

theorem rp_loop (l : List Int) (hl : l.length ≤ 1000) : ∀ i, i ≤ l.length → ∀ acc : List Int, acc.length ≤ i →
    RRfPeaks_0 (tRP l acc i) = exO (xRP (acc ++ colI (isMax l (maxL l)) (l.length - i) i)) := by
  refine up_ind _ ?_ ?_
  · intro acc ha
    rw [Nat.sub_self]
    unfold colI tRP xRP
    rw [List.append_nil]
    by_cases hn : acc = []
    · rw [if_pos hn, if_pos hn]
      refine RRfPeaks_0a_of _ _ _ ?_
      unfold BRfPeaks_0a
      rw [bif_neg (by omega)]
      rfl
    · rw [if_neg hn, if_neg hn]
      refine RRfPeaks_0b_of _ _ _ _ _ _ ?_
      unfold BRfPeaks_0b
      rw [bif_neg (by omega)]
      rfl
  · intro i hi ih acc ha
    have hm : allLe (l.getD i 0) l = isMax l (maxL l) i := allLe_max (getD_mem hi)
    have step : ∀ r, RRfPeaks_0 (tRP l (if isMax l (maxL l) i then acc ++ [(i : Int)] else acc) (i + 1 : Nat)) = some r → RRfPeaks_0 (tRP l acc i) = some r := by
      intro r hr
      unfold tRP at hr ⊢
      by_cases hn : acc = []
      · rw [if_pos hn]
        refine RRfPeaks_0a_of _ _ _ ?_
        unfold BRfPeaks_0a
        have h2 := pk2a_loop l hl i hi 0 (by omega) true
        rw [List.drop_zero, Bool.true_and, hm] at h2
        have h2 := LRfPeaks_2a_of h2
        rw [show ((0 : Nat) : Int) = 0 from rfl] at h2
        rw [bif_pos (by omega), h2]
        simp only [bindO_val, Sum.elim_inl]
        rw [w64_in (by omega)]
        cases hb : isMax l (maxL l) i with
        | true =>
          rw [hb, if_pos rfl, if_neg (by simp)] at hr
          subst hn
          exact hr
        | false =>
          rw [hb] at hr
          simp only [Bool.false_eq_true, if_false] at hr
          rw [if_pos hn] at hr
          exact hr
      · rw [if_neg hn]
        refine RRfPeaks_0b_of _ _ _ _ _ _ ?_
        unfold BRfPeaks_0b
        have h2 := pk2b_loop l acc hl i hi 0 (by omega) true
        rw [List.drop_zero, Bool.true_and, hm] at h2
        have h2 := LRfPeaks_2b_of h2
        rw [show ((0 : Nat) : Int) = 0 from rfl] at h2
        rw [bif_pos (by omega), h2]
        simp only [bindO_val, Sum.elim_inr]
        rw [w64_in (by omega)]
        cases hb : isMax l (maxL l) i with
        | true =>
          rw [hb, if_pos rfl, if_neg (by simp), List.length_append] at hr
          rw [cond_true, bif_pos ⟨trivial, by simp only [big]; omega⟩, encI_snoc]
          exact hr
        | false =>
          rw [hb] at hr
          simp only [Bool.false_eq_true, if_false] at hr
          rw [if_neg hn] at hr
          exact hr
    obtain ⟨k, hk⟩ : ∃ k, l.length - i = k + 1 := ⟨l.length - i - 1, by omega⟩
    have hk2 : l.length - (i + 1) = k := by omega
    rw [hk2] at ih
    rw [hk]
    unfold colI
    cases hb : isMax l (maxL l) i with
    | true =>
      rw [hb, if_pos rfl] at step
      rw [if_pos rfl]
      have := ih (acc ++ [(i : Int)]) (by simp; omega)
      rw [List.append_assoc] at this
      exact step _ this
    | false =>
      rw [hb, if_neg (by simp)] at step
      rw [if_neg (by simp)]
      exact step _ (ih acc (by omega))

theorem refPeaks_is (l : List Int) (hl : l.length ≤ 1000) : FRfPeaks [.list l.length (encI l)] = some ((pksL l).length, encI (pksL l)) := by
  refine FRfPeaks_of _ _ ?_
  unfold tRfPeaks
  have h := rp_loop l hl 0 (by omega) [] (by simp)
  rw [Nat.sub_zero, List.nil_append] at h
  have h : RRfPeaks_0 (TRfPeaks_0a l.length (encI l) 0) = exO (xRP (pksL l)) := h
  by_cases hc : pksL l = []
  · rw [show xRP (pksL l) = XRfPeaks_0a () from if_pos hc] at h
    rw [LRfPeaks_0a_of h, hc]
    rfl
  · rw [show xRP (pksL l) = _ from if_neg hc] at h
    rw [LRfPeaks_0b_of h]
    simp only [bindO_val, Sum.elim_inr, decide_true, cond_true]

theorem pks_first {l : List Int} (h : 1 ≤ l.length) : ∃ r, pksL l = (pkL l : Int) :: r := by
  obtain ⟨h1, h2, h3, h4⟩ := pkL_spec h
  refine colI_first (by omega) (by omega) (decide_eq_true h3) fun j _ hj => decide_eq_false ?_
  have := h4 j hj
  omega
theorem refPeak_is (l : List Int) (h1 : 1 ≤ l.length) (hl : l.length ≤ 1000) : FRfPeak [.list l.length (encI l)] = some (pkL l : Int) := by
  refine FRfPeak_of _ _ ?_
  unfold tRfPeak
  obtain ⟨r, hr⟩ := pks_first h1
  simp only [refPeaks_is l hl, bindO_val]
  rw [bif_pos (by rw [hr]; simp), hr]
  rfl
end Gv
