/- Locked loops, as far as they are asked for without rows. -/
import Derived.Test.YtpfdbblfpmebcaaGvYk
import Derived.Test.YtpfdbblfpmebcaaQ1
namespace Gv
open Go
set_option maxRecDepth 100000

theorem errorIf_is (b : Bool) (x : Int) : Fpulse_errorIf [.bool b, .int .i64 x] = some (if b then x else 0) :=
  Fpulse_errorIf_of b x (by cases b <;> rfl)

theorem rangeError_is (x a b : Int) : Fpulse_rangeError [.int .i64 x, .int .i64 a, .int .i64 b] = some (rangeE x a b) :=
  Fpulse_rangeError_of x a b (by
    unfold tpulse_rangeError rangeE
    by_cases h1 : x < a <;> by_cases h2 : b < x <;> simp [h1, h2])

theorem firstError2_is (a b : Int) : Fpulse_firstError_2 [.list 2 [.int .i64 a, .int .i64 b]] = some (both a b) :=
  Fpulse_firstError_2_of a b (by
    unfold tpulse_firstError_2 both
    simp only [bif_ne]
    by_cases h1 : a = 0 <;> by_cases h2 : b = 0 <;> simp [h1, h2])

theorem within_is (x a b : Int) : Fglidepathbase_Within [.int .i64 x, .int .i64 a, .int .i64 b] = some (decide (a ≤ x ∧ x ≤ b)) :=
  Fglidepathbase_Within_of x a b (by
    unfold tglidepathbase_Within
    by_cases h1 : a ≤ x <;> by_cases h2 : x ≤ b <;> simp [h1, h2])

theorem firstError4_is (a b c d : Int) : Fpulse_firstError_4 [.list 4 [.int .i64 a, .int .i64 b, .int .i64 c, .int .i64 d]] = some (first4 a b c d) :=
  Fpulse_firstError_4_of a b c d (by
    unfold tpulse_firstError_4 first4
    simp only [bif_ne]
    by_cases h1 : a = 0 <;> by_cases h2 : b = 0 <;> by_cases h3 : c = 0 <;> by_cases h4 : d = 0 <;> simp [h1, h2, h3, h4])

theorem number_is (x lo hi : Int) : Fpulse_numberError_1 [.int .i64 x, .imm [.int .i64 lo] 0, .imm [.int .i64 hi] 0] = some (rangeE x lo hi) :=
  Fpulse_numberError_1_of x lo hi (by
    unfold tpulse_numberError_1
    simp only [rangeError_is, bindO_val])

theorem itemI_loop (lo hi : Int) (l : List Int) (hl : l.length < 4294967296) : ∀ i, i ≤ l.length →
    Rpulse_itemError_int__0 (Tpulse_itemError_int__0a lo hi l.length (encI l) l.length i) = exO (XLpulse_itemError_int__0.fn (sumE (findE (fun x => rangeE x lo hi) (l.drop i) i))) := by
  refine up_ind _ ?_ ?_
  · refine Rpulse_itemError_int__0a_of _ _ _ _ _ _ ?_
    unfold Bpulse_itemError_int__0a
    rw [bif_neg (by omega), List.drop_length]
    rfl
  · intro i hi' ih
    refine Rpulse_itemError_int__0a_of _ _ _ _ _ _ ?_
    unfold Bpulse_itemError_int__0a
    obtain ⟨x, hx, hd⟩ := get_drop hi'
    rw [bif_pos (by omega), bif_pos (by omega)]
    simp only [Int.toNat_natCast, Nat.mul_one, encI_get, hx, Option.map_some, intC_int, bindO_val, number_is]
    rw [hd, w64_in (by omega), bif_ne]
    by_cases he : rangeE x lo hi = 0
    · rw [if_pos he]
      simp only [findE, he, ne_eq, not_true_eq_false, if_false]
      exact ih
    · rw [if_neg he]
      simp only [findE, ne_eq, he, not_false_eq_true, if_true]
      rfl

theorem itemI_is (lo hi : Int) (l : List Int) (hl : l.length < 4294967296) :
    Fpulse_itemError_int_ [.list l.length (encI l), .fn 149 [.imm [.int .i64 lo] 0, .imm [.int .i64 hi] 0]] = some ((findE (fun x => rangeE x lo hi) l 0).getD (0, 0)) := by
  refine Fpulse_itemError_int__of _ _ _ _ ?_
  unfold tpulse_itemError_int_
  have := lpO_of Ipulse_itemError_int__0 XIpulse_itemError_int__0 (itemI_loop lo hi l hl 0 (by omega))
  have this : Lpulse_itemError_int__0 (Tpulse_itemError_int__0a lo hi l.length (encI l) l.length 0) = _ := this
  rw [this]
  simp only [bindO_val, List.drop_zero]
  cases findE (fun x => rangeE x lo hi) l 0 <;> rfl

theorem listI_is (m lo hi : Int) (l : List Int) (hl : l.length < 4294967296) :
    Fpulse_listError_int_ [.list l.length (encI l), .int .i64 m, .fn 149 [.imm [.int .i64 lo] 0, .imm [.int .i64 hi] 0]] = some (listIE m lo hi l) := by
  refine Fpulse_listError_int__of _ _ _ _ _ ?_
  unfold tpulse_listError_int_ listIE
  simp only [firstError2_is, bindO_val, itemI_is lo hi l hl, bif_eq, bif_ne, both]
  by_cases h1 : l.length = 0
  · simp [h1]
  · by_cases h2 : m < l.length <;> simp [h1, h2]

theorem copyI_is (l : List Int) (hl : l.length ≤ 1000000) : Fglidepathbase_CopyInts [.list l.length (encI l)] = some (l.length, encI l) := by
  refine Fglidepathbase_CopyInts_of _ _ ?_
  unfold tglidepathbase_CopyInts
  by_cases h : l.length = 0
  · rw [bif_pos h]
    have := List.eq_nil_of_length_eq_zero h
    subst this
    rfl
  · rw [bif_neg h, bif_pos (by simp), bif_pos (by simp only [big]; omega), bif_pos rfl]
    simp

def polyE (l : List Int) : Int := (listIE 4 (-60) 60 l).2

theorem polyError_is (l : List Int) (hl : l.length < 4294967296) : Fpulse_polynomialError [.list l.length (encI l)] = some (polyE l) := by
  refine Fpulse_polynomialError_of _ _ ?_
  unfold tpulse_polynomialError
  simp only [listI_is 4 (-60) 60 l hl, bindO_val]
  rfl

def pEnd : Option (Int × Int) → Option (Ext × S)
  | some _ => exO (Xglidepathref01_PolynomialErr_0a ())
  | none => exO (Xglidepathref01_PolynomialErr_0b ())

theorem refPoly_loop (l : List Int) (hl : l.length < 4294967296) : ∀ i, i ≤ l.length →
    Rglidepathref01_PolynomialErr_0 (Tglidepathref01_PolynomialErr_0a l.length (encI l) i) = pEnd (findE (fun x => rangeE x (-60) 60) (l.drop i) i) := by
  refine up_ind _ ?_ ?_
  · rw [List.drop_length]
    show _ = exO (Xglidepathref01_PolynomialErr_0b ())
    refine Rglidepathref01_PolynomialErr_0a_of _ _ _ ?_
    unfold Bglidepathref01_PolynomialErr_0a
    rw [bif_neg (by omega)]
    rfl
  · intro i hi ih
    obtain ⟨x, hx, hd⟩ := get_drop hi
    rw [hd]
    by_cases he : -60 ≤ x ∧ x ≤ 60
    · have e0 := rangeE_in he
      simp only [findE, e0, ne_eq, not_true_eq_false, if_false]
      have step : ∀ r, Rglidepathref01_PolynomialErr_0 (Tglidepathref01_PolynomialErr_0a l.length (encI l) (i + 1 : Nat)) = some r → Rglidepathref01_PolynomialErr_0 (Tglidepathref01_PolynomialErr_0a l.length (encI l) i) = some r := by
        intro r hr
        refine Rglidepathref01_PolynomialErr_0a_of _ _ _ ?_
        unfold Bglidepathref01_PolynomialErr_0a
        rw [bif_pos (by omega), bif_pos (by omega)]
        simp only [Int.toNat_natCast, Nat.mul_one, encI_get, hx, Option.map_some, intC_int, bindO_val, within_is]
        rw [bif_pos he, w64_in (by omega)]
        exact hr
      cases hf : findE (fun x => rangeE x (-60) 60) (l.drop (i + 1)) (i + 1) with
      | none => rw [hf] at ih; exact step _ ih
      | some p => rw [hf] at ih; exact step _ ih
    · have e0 := rangeE_out he
      simp only [findE, e0]
      rw [if_pos (by decide)]
      show _ = exO (Xglidepathref01_PolynomialErr_0a ())
      refine Rglidepathref01_PolynomialErr_0a_of _ _ _ ?_
      unfold Bglidepathref01_PolynomialErr_0a
      rw [bif_pos (by omega), bif_pos (by omega)]
      simp only [Int.toNat_natCast, Nat.mul_one, encI_get, hx, Option.map_some, intC_int, bindO_val, within_is]
      rw [bif_neg he]
      rfl

theorem refPolyErr_is (l : List Int) : Fglidepathref01_PolynomialErr [.list l.length (encI l)] = some (polyE l) := by
  refine Fglidepathref01_PolynomialErr_of _ _ ?_
  unfold tglidepathref01_PolynomialErr polyE listIE
  rw [bif_eq]
  by_cases h1 : l.length = 0
  · rw [if_pos (by omega), if_pos h1]
  · rw [if_neg (by omega), if_neg h1]
    by_cases h2 : (4 : Int) < l.length
    · rw [bif_pos (by omega), if_pos h2]
    · rw [bif_neg (by omega), if_neg h2]
      have hL := refPoly_loop l (by omega) 0 (by omega)
      rw [List.drop_zero] at hL
      cases hf : findE (fun x => rangeE x (-60) 60) l 0 with
      | none =>
        rw [hf] at hL
        have := Lglidepathref01_PolynomialErr_0b_of hL
        rw [show ((0 : Nat) : Int) = 0 from rfl] at this
        rw [this]
        rfl
      | some p =>
        rw [hf] at hL
        have := Lglidepathref01_PolynomialErr_0a_of hL
        rw [show ((0 : Nat) : Int) = 0 from rfl] at this
        rw [this]
        have h2 := findE_rng (-60) 60 hf
        show some (2 : Int) = some p.2
        rw [h2]

theorem findE_ok (a b : Int) : ∀ {l : List Int} {i : Nat}, findE (fun x => rangeE x a b) l i = none → ∀ x ∈ l, a ≤ x ∧ x ≤ b
  | [], _, _, x, hx => by simp at hx
  | y :: l, i, h, x, hx => by
    by_cases he : a ≤ y ∧ y ≤ b
    · simp only [findE, rangeE_in he, ne_eq, not_true_eq_false, if_false] at h
      rcases List.mem_cons.1 hx with rfl | hx
      · exact he
      · exact findE_ok a b h x hx
    · simp only [findE, rangeE_out he] at h
      rw [if_pos (by decide)] at h
      cases h

theorem poly_ok {l : List Int} (h : polyE l = 0) : 1 ≤ l.length ∧ l.length ≤ 4 ∧ ∀ x ∈ l, -60 ≤ x ∧ x ≤ 60 := by
  unfold polyE listIE at h
  split at h
  · cases h
  · split at h
    · cases h
    · cases hf : findE (fun x => rangeE x (-60) 60) l 0 with
      | some p =>
        rw [hf] at h
        have := findE_rng (-60) 60 hf
        simp at h
        omega
      | none => exact ⟨by omega, by omega, findE_ok (-60) 60 hf⟩

def Wrd (x : Int) : Prop := -9223372036854775808 ≤ x ∧ x ≤ 9223372036854775807

theorem wrd_w64 (x : Int) : Wrd (w64 x) := ⟨w64_lo x, w64_hi x⟩

def absW (x : Int) : Int := if x < 0 then w64 (0 - x) else x

theorem absW_max {x : Int} (h : Wrd x) : (if w64 (0 - x) > x then w64 (0 - x) else x) = absW x := by
  unfold Wrd at h
  unfold absW
  rw [w64_eq]
  split <;> split <;> omega

theorem sizeW_is (x : Int) (h : Wrd x) : Fglidepathbase_Size [.int .i64 x] = some (absW x) := by
  refine Fglidepathbase_Size_of _ ?_
  unfold tglidepathbase_Size
  rw [absW_max h]

def nxt (row : List Int) (k : Nat) : Int :=
  w64 (w64 (row.getD (row.length - 1) 0 * row.getD (k + 1) 0) - w64 (row.getD 0 0 * row.getD (row.length - 1 - 1 - k) 0))

def nextW (row : List Int) : List Int := tabI (nxt row) (row.length - 1)

theorem nextW_len (row : List Int) : (nextW row).length = row.length - 1 := by simp [nextW]

def hasN (row : List Int) : Prop := 1 < row.length ∧ absW (row.getD 0 0) < absW (row.getD (row.length - 1) 0)

instance (row : List Int) : Decidable (hasN row) := by unfold hasN; infer_instance

def Wrds (row : List Int) : Prop := ∀ x ∈ row, Wrd x

theorem nextW_wrds (row : List Int) : Wrds (nextW row) := fun x hx => by
  obtain ⟨k, _, rfl⟩ := tabI_mem hx
  exact wrd_w64 _

theorem hasNext_is (row : List Int) (h1 : 1 ≤ row.length) (h2 : row.length ≤ 1000) (hw : Wrds row) : Fpulse_hasNextRow [.list row.length (encI row)] = some (decide (hasN row)) := by
  refine Fpulse_hasNextRow_of _ _ ?_
  unfold tpulse_hasNextRow
  rw [bif_pos (by omega), w64_in (by omega), show ((row.length : Int) - 1).toNat * 1 = row.length - 1 by omega]
  simp only [encI_get, get_getD 0 (show 0 < row.length by omega), get_getD 0 (show row.length - 1 < row.length by omega), Option.map_some, intC_int, bindO_val]
  rw [bif_pos (by omega)]
  have a1 := absW_max (hw _ (getD_mem (l := row) (i := 0) (by omega)))
  have a2 := absW_max (hw _ (getD_mem (l := row) (i := row.length - 1) (by omega)))
  rw [a1, a2]
  by_cases h3 : 1 < row.length
  · rw [bif_pos (by omega)]
    by_cases h4 : absW (row.getD 0 0) < absW (row.getD (row.length - 1) 0)
    · rw [bif_pos h4, decide_eq_true (show hasN row from ⟨h3, h4⟩)]
    · rw [bif_neg h4, decide_eq_false (fun h : hasN row => h4 h.2)]
  · rw [bif_neg (by omega), decide_eq_false (fun h : hasN row => h3 h.1)]

theorem next_loop (row : List Int) (h1 : 1 ≤ row.length) (h2 : row.length ≤ 1000) : ∀ k, k ≤ row.length - 1 →
    Rpulse_nextRow_0 (Tpulse_nextRow_0a row.length (encI row) (row.length - 1 : Nat) (row.length - 1) (row.length - 1 : Nat) k (encI (fillI (nxt row) (row.length - 1) k))) =
      exO (Xpulse_nextRow_0a (row.length - 1, encI (nextW row))) := by
  refine up_ind _ ?_ ?_
  · refine Rpulse_nextRow_0a_of _ _ _ _ _ _ _ ?_
    unfold Bpulse_nextRow_0a
    rw [bif_neg (by omega), fillI_all]
    rfl
  · intro k hk ih
    refine Rpulse_nextRow_0a_of _ _ _ _ _ _ _ ?_
    unfold Bpulse_nextRow_0a
    rw [bif_pos (by omega), bif_pos (by omega), w64_in (n := (k : Int) + 1) (by omega), w64_in (n := ((row.length - 1 : Nat) : Int) - 1) (by omega), w64_in (n := ((row.length - 1 : Nat) : Int) - 1 - k) (by omega),
      show ((row.length - 1 : Nat) : Int).toNat * 1 = row.length - 1 by omega, show ((k : Int) + 1).toNat * 1 = k + 1 by omega, show (((row.length - 1 : Nat) : Int) - 1 - k).toNat * 1 = row.length - 1 - 1 - k by omega]
    simp only [encI_get, get_getD 0 (show 0 < row.length by omega), get_getD 0 (show row.length - 1 < row.length by omega), get_getD 0 (show k + 1 < row.length by omega), get_getD 0 (show row.length - 1 - 1 - k < row.length by omega), Option.map_some, intC_int, bindO_val]
    rw [bif_pos (by omega), bif_pos (by omega), bif_pos (by omega), bif_pos (by omega), Int.toNat_natCast]
    have e : overO (encI (fillI (nxt row) (row.length - 1) k)) (0 + k * 1) [.int .i64 (w64 (w64 (row.getD (row.length - 1) 0 * row.getD (k + 1) 0) - w64 (row.getD 0 0 * row.getD (row.length - 1 - 1 - k) 0)))] = some (encI (fillI (nxt row) (row.length - 1) (k + 1))) := overO_fill (nxt row) hk
    rw [e]
    exact ih

theorem nextRow_is (row : List Int) (h1 : 1 ≤ row.length) (h2 : row.length ≤ 1000) : Fpulse_nextRow [.list row.length (encI row)] = some ((nextW row).length, encI (nextW row)) := by
  refine Fpulse_nextRow_of _ _ ?_
  unfold tpulse_nextRow
  rw [w64_in (by omega), bif_pos ⟨rfl, by omega, by simp only [big]; omega⟩, show ((row.length : Int) - 1).toNat = row.length - 1 by omega, rep_I]
  have := Lpulse_nextRow_0a_of (next_loop row h1 h2 0 (by omega))
  rw [fillI_zero] at this
  rw [show ((row.length : Int) - 1) = ((row.length - 1 : Nat) : Int) by omega]
  have this : Lpulse_nextRow_0 (Tpulse_nextRow_0a row.length (encI row) (row.length - 1 : Nat) (row.length - 1) (row.length - 1 : Nat) 0 (encI (List.replicate (row.length - 1) 0))) = _ := this
  rw [this]
  simp only [bindO_val]
  rw [bif_pos (by rw [encI_len, nextW_len]; omega), List.drop_zero, List.take_of_length_le (by rw [encI_len, nextW_len]; omega), nextW_len]

def moreF : Nat → List Int → List (List Int)
  | 0, _ => []
  | n + 1, row => if hasN row then nextW row :: moreF n (nextW row) else []

def rowsW (l : List Int) : List (List Int) := l :: moreF l.length l

theorem rows_loopb : ∀ (n : Nat) (row : List Int) (acc : List (List Int)), 1 ≤ row.length → row.length ≤ n → n ≤ 1000 → acc.length + n ≤ 2000 → Wrds row →
    Rpulse_rowsOf_0 (Tpulse_rowsOf_0b row.length (encI row) acc.length (encLL acc) acc.length) = exO (Xpulse_rowsOf_0b ((acc ++ moreF n row).length, encLL (acc ++ moreF n row), (acc ++ moreF n row).length))
  | 0, row, acc, h1, h2, _, _, _ => by omega
  | n + 1, row, acc, h1, h2, h3, h4, hw => by
    refine Rpulse_rowsOf_0b_of _ _ _ _ _ ?_
    unfold Bpulse_rowsOf_0b
    simp only [hasNext_is row h1 (by omega) hw, bindO_val]
    by_cases h : hasN row
    · have hn := h.1
      rw [bif_pos h]
      simp only [nextRow_is row h1 (by omega), bindO_val]
      rw [bif_pos ⟨trivial, by simp only [big]; omega⟩, encLL_snoc]
      have := rows_loopb n (nextW row) (acc ++ [nextW row]) (by rw [nextW_len]; omega) (by rw [nextW_len]; omega) (by omega) (by simp; omega) (nextW_wrds row)
      rw [List.length_append, List.append_assoc] at this
      simp only [moreF, if_pos h]
      exact this
    · rw [bif_neg h]
      simp only [moreF, if_neg h, List.append_nil]
      rfl

theorem clone_is (l : List Int) (h : 1 ≤ l.length ∧ l.length ≤ 1000) : Fslices_Clone___int_int_ [.list l.length (encI l)] = some (l.length, encI l) := by
  refine Fslices_Clone___int_int__of _ _ ?_
  unfold tslices_Clone___int_int_
  rw [bif_pos (by omega), bif_neg (by omega), bif_pos (by simp), bif_pos (by simp only [big]; omega), bif_pos rfl]
  simp

theorem rowsOf_is (l : List Int) (h1 : 1 ≤ l.length) (h2 : l.length ≤ 1000) (hw : Wrds l) : Fpulse_rowsOf [.list l.length (encI l)] = some ((rowsW l).length, encLL (rowsW l)) := by
  refine Fpulse_rowsOf_of _ _ ?_
  unfold tpulse_rowsOf
  simp only [clone_is l ⟨h1, h2⟩, bindO_val]
  obtain ⟨n, hn⟩ : ∃ n, l.length = n + 1 := ⟨l.length - 1, by omega⟩
  by_cases h : hasN l
  · have hL : Rpulse_rowsOf_0 (Tpulse_rowsOf_0a l.length (encI l) l.length (encI l)) = exO (Xpulse_rowsOf_0b ((rowsW l).length, encLL (rowsW l), (rowsW l).length)) := by
      refine Rpulse_rowsOf_0a_of _ _ _ _ ?_
      unfold Bpulse_rowsOf_0a
      simp only [hasNext_is l h1 (by omega) hw, bindO_val]
      have hn' := h.1
      rw [bif_pos h]
      simp only [nextRow_is l h1 (by omega), bindO_val]
      have := rows_loopb n (nextW l) [l, nextW l] (by rw [nextW_len]; omega) (by rw [nextW_len]; omega) (by omega) (by simp; omega) (nextW_wrds l)
      rw [show rowsW l = [l, nextW l] ++ moreF n (nextW l) by unfold rowsW; rw [hn]; simp only [moreF, if_pos h]; rfl]
      exact this
    rw [Lpulse_rowsOf_0b_of hL]
    simp only [bindO_val, Sum.elim_inr, decide_true, cond_true]
  · have hL : Rpulse_rowsOf_0 (Tpulse_rowsOf_0a l.length (encI l) l.length (encI l)) = exO (Xpulse_rowsOf_0a (l.length, encI l)) := by
      refine Rpulse_rowsOf_0a_of _ _ _ _ ?_
      unfold Bpulse_rowsOf_0a
      simp only [hasNext_is l h1 (by omega) hw, bindO_val]
      rw [bif_neg h]
      rfl
    rw [Lpulse_rowsOf_0a_of hL]
    simp only [bindO_val, Sum.elim_inl]
    rw [show rowsW l = [l] by unfold rowsW; rw [hn]; simp only [moreF, if_neg h]]
    rfl

def lastW (l : List Int) : List Int := (rowsW l).getD ((rowsW l).length - 1) []

def Lck (l : List Int) : Prop := (lastW l).length = 1 ∧ (lastW l).getD 0 0 ≠ 0

instance (l : List Int) : Decidable (Lck l) := by unfold Lck; infer_instance

theorem rowsW_pos (l : List Int) : 1 ≤ (rowsW l).length := by simp [rowsW]

theorem moreF_len : ∀ (n : Nat) (l : List Int), (moreF n l).length ≤ n
  | 0, _ => Nat.le_refl 0
  | n + 1, l => by
    unfold moreF
    split
    · have := moreF_len n (nextW l)
      simpa using this
    · simp

theorem rowsW_le (l : List Int) : (rowsW l).length ≤ l.length + 1 := by
  have := moreF_len l.length l
  simp [rowsW]
  exact this

theorem locked_tail (l : List Int) (hl : l.length ≤ 1000) {g : Option Bool} (hg : g = some (decide (Lck l))) :
    (bif (decide (((0 : Int) ≤ (w64 (((rowsW l).length : Int) - (1 : Int)))) ∧ ((w64 (((rowsW l).length : Int) - (1 : Int))) < ((rowsW l).length : Int)))) then
    bindO (Gv.listC ((encLL (rowsW l))[((Int.toNat (w64 (((rowsW l).length : Int) - (1 : Int)))) * 1)]?)) fun x1 =>
    bif ((x1.1 : Int) == (1 : Int)) then
      bif (decide (((0 : Int) ≤ (0 : Int)) ∧ ((0 : Int) < (x1.1 : Int)))) then
        bindO (Gv.intC Go.IntKind.i64 (x1.2[0]?)) fun x2 =>
        bif (x2 != (0 : Int)) then
          some true
        else some false
      else none
    else some false
  else none) = g := by
  have h1 := rowsW_pos l
  have h2 := rowsW_le l
  rw [w64_in (by omega), bif_pos (by omega), show (((rowsW l).length : Int) - 1).toNat * 1 = (rowsW l).length - 1 by omega, encLL_get, get_getD [] (by omega)]
  simp only [Option.map_some, listC_list, bindO_val, bif_eq]
  rw [hg]
  show (if ((lastW l).length : Int) = 1 then _ else _) = _
  by_cases h : (lastW l).length = 1
  · rw [if_pos (by omega)]
    have e : ((rowsW l).getD ((rowsW l).length - 1) []) = lastW l := rfl
    rw [e, bif_pos (by omega), encI_get, get_getD 0 (by omega)]
    simp only [Option.map_some, intC_int, bindO_val, bif_ne]
    by_cases h0 : (lastW l).getD 0 0 = 0
    · rw [if_pos h0, decide_eq_false (fun hc : Lck l => hc.2 h0)]
    · rw [if_neg h0, decide_eq_true (show Lck l from ⟨h, h0⟩)]
  · rw [if_neg (by omega), decide_eq_false (fun hc : Lck l => h hc.1)]

theorem isLocked_is (l : List Int) (h1 : 1 ≤ l.length) (h2 : l.length ≤ 1000) (hw : Wrds l) : Fpulse_isLocked [.list l.length (encI l)] = some (decide (Lck l)) := by
  refine Fpulse_isLocked_of _ _ ?_
  unfold tpulse_isLocked
  simp only [rowsOf_is l h1 h2 hw, bindO_val]
  exact locked_tail l h2 rfl

theorem poly_wrds {l : List Int} (h : polyE l = 0) : Wrds l := fun x hx => by
  have := (poly_ok h).2.2 x hx
  unfold Wrd
  omega

theorem isLocked2_is (l : List Int) (hl : l.length < 4294967296) : Fpulse_IsLocked [.list l.length (encI l)] = some (if polyE l ≠ 0 then (false, polyE l) else (decide (Lck l), 0)) := by
  refine Fpulse_IsLocked_of _ _ ?_
  unfold tpulse_IsLocked
  simp only [polyError_is l hl, bindO_val, bif_ne]
  by_cases h : polyE l = 0
  · obtain ⟨k1, k2, _⟩ := poly_ok h
    simp only [h, if_true, ne_eq, not_true_eq_false, if_false, isLocked_is l k1 (by omega) (poly_wrds h), bindO_val]
    by_cases hk : Lck l
    · rw [bif_pos hk, decide_eq_true hk]
    · rw [bif_neg hk, decide_eq_false hk]
  · simp only [h, if_false, ne_eq, not_false_eq_true, if_true]

def sumW (a b : List Int) (g : Int) : List Int := tabI (fun k => w64 (a.getD k 0 + w64 (g * b.getD k 0))) a.length

theorem sumW_len (a b : List Int) (g : Int) : (sumW a b g).length = a.length := by simp [sumW]

def okW (a b : List Int) (g : Int) : Prop := polyE (sumW a b g) = 0 ∧ Lck (sumW a b g)

instance (a b : List Int) (g : Int) : Decidable (okW a b g) := by unfold okW; infer_instance

theorem lockedWith_loop (a b : List Int) (g : Int) (hab : a.length ≤ b.length) (ha : a.length ≤ 1000) : ∀ k, k ≤ a.length →
    Rpulse_isLockedWith_0 (Tpulse_isLockedWith_0a a.length (encI a) b.length (encI b) g a.length a.length k (encI (fillI (fun k => w64 (a.getD k 0 + w64 (g * b.getD k 0))) a.length k))) =
      exO (Xpulse_isLockedWith_0a (a.length, encI (sumW a b g))) := by
  refine up_ind _ ?_ ?_
  · refine Rpulse_isLockedWith_0a_of _ _ _ _ _ _ _ _ _ ?_
    unfold Bpulse_isLockedWith_0a
    rw [bif_neg (by omega), fillI_all]
    rfl
  · intro k hk ih
    refine Rpulse_isLockedWith_0a_of _ _ _ _ _ _ _ _ _ ?_
    unfold Bpulse_isLockedWith_0a
    rw [bif_pos (by omega), bif_pos (by omega)]
    simp only [Int.toNat_natCast, Nat.mul_one, encI_get, get_getD 0 (show k < a.length by omega), get_getD 0 (show k < b.length by omega), Option.map_some, intC_int, bindO_val]
    rw [bif_pos (by omega), bif_pos (by omega), w64_in (n := (k : Int) + 1) (by omega)]
    have this : overO (encI (fillI (fun k => w64 (a.getD k 0 + w64 (g * b.getD k 0))) a.length k)) (0 + k) [.int .i64 (w64 (a.getD k 0 + w64 (g * b.getD k 0)))] = some (encI (fillI (fun k => w64 (a.getD k 0 + w64 (g * b.getD k 0))) a.length (k + 1))) := by
      have := overO_fill (fun k => w64 (a.getD k 0 + w64 (g * b.getD k 0))) hk
      rw [Nat.mul_one] at this
      exact this
    rw [this]
    exact ih

theorem lockedWith_is (a b : List Int) (g : Int) (hab : a.length ≤ b.length) (ha : a.length ≤ 1000) : Fpulse_isLockedWith [.list a.length (encI a), .list b.length (encI b), .int .i64 g] = some (decide (okW a b g)) := by
  refine Fpulse_isLockedWith_of _ _ _ _ _ ?_
  unfold tpulse_isLockedWith
  rw [bif_pos ⟨rfl, by omega, by simp only [big]; omega⟩, Int.toNat_natCast, rep_I]
  have := Lpulse_isLockedWith_0a_of (lockedWith_loop a b g hab ha 0 (by omega))
  rw [fillI_zero] at this
  have this : Lpulse_isLockedWith_0 (Tpulse_isLockedWith_0a a.length (encI a) b.length (encI b) g a.length a.length 0 (encI (List.replicate a.length 0))) = _ := this
  rw [this]
  simp only [bindO_val]
  have e : List.take (a.length * 1) (List.drop 0 (encI (sumW a b g))) = encI (sumW a b g) := by
    rw [List.drop_zero, List.take_of_length_le (by rw [encI_len, sumW_len]; omega)]
  rw [e]
  have f1 := polyError_is (sumW a b g) (by rw [sumW_len]; omega)
  rw [sumW_len] at f1
  rw [bif_pos (by rw [encI_len, sumW_len]; omega)]
  simp only [f1, bindO_val, bif_eq]
  by_cases hp : polyE (sumW a b g) = 0
  · obtain ⟨k1, k2, _⟩ := poly_ok hp
    have f2 := isLocked_is (sumW a b g) k1 (by omega) (poly_wrds hp)
    rw [sumW_len] at f2
    rw [if_pos hp, bif_pos (by rw [encI_len, sumW_len]; omega)]
    simp only [f2, bindO_val]
    by_cases hk : Lck (sumW a b g)
    · rw [bif_pos hk, decide_eq_true (show okW a b g from ⟨hp, hk⟩)]
    · rw [bif_neg hk, decide_eq_false (fun h : okW a b g => hk h.2)]
  · rw [if_neg hp, decide_eq_false (fun h : okW a b g => hp h.1)]

def mgF (a b : List Int) (most : Int) : Nat → Int → Int
  | 0, g => g
  | n + 1, g => if okW a b (g + 1) then mgF a b most n (g + 1) else g

theorem margin_loop (a b : List Int) (most : Int) (hab : a.length ≤ b.length) (ha : a.length ≤ 1000) (hm : most ≤ 1000) : ∀ (n : Nat) (g : Int), g + n = most → 0 ≤ g →
    Rpulse_MarginOf_0 (Tpulse_MarginOf_0a a.length (encI a) b.length (encI b) most g) = exO (Xpulse_MarginOf_0a (mgF a b most n g))
  | 0, g, h1, h2 => by
    refine Rpulse_MarginOf_0a_of _ _ _ _ _ _ ?_
    unfold Bpulse_MarginOf_0a
    rw [bif_neg (by omega)]
    rfl
  | n + 1, g, h1, h2 => by
    refine Rpulse_MarginOf_0a_of _ _ _ _ _ _ ?_
    unfold Bpulse_MarginOf_0a
    rw [bif_pos (by omega), w64_in (n := g + 1) (by omega)]
    simp only [lockedWith_is a b (g + 1) hab ha, bindO_val, mgF]
    by_cases h : okW a b (g + 1)
    · rw [bif_pos h, if_pos h]
      exact margin_loop a b most hab ha hm n (g + 1) (by omega) (by omega)
    · rw [bif_neg h, if_neg h]
      rfl

def mgE (a b : List Int) (most : Int) : Int := first4 (polyE a) (polyE b) (if a.length = b.length then 0 else 13) (rangeE most 0 60)

def mgR (a b : List Int) (most : Int) : Int × Int :=
  if mgE a b most ≠ 0 then (0, mgE a b most) else if Lck a then (mgF a b most most.toNat 0, 0) else (0, 18)

theorem mgE_ok {a b : List Int} {most : Int} (h : mgE a b most = 0) : polyE a = 0 ∧ polyE b = 0 ∧ a.length = b.length ∧ 0 ≤ most ∧ most ≤ 60 := by
  obtain ⟨k1, k2, k3, k4⟩ := first4_nil h
  refine ⟨k1, k2, ?_, ?_⟩
  · split at k3
    · assumption
    · cases k3
  · unfold rangeE at k4
    split at k4
    · cases k4
    · omega

theorem marginOf_is (a b : List Int) (most : Int) (ha : a.length < 4294967296) (hb : b.length < 4294967296) : Fpulse_MarginOf [.list a.length (encI a), .list b.length (encI b), .int .i64 most] = some (mgR a b most) := by
  refine Fpulse_MarginOf_of _ _ _ _ _ ?_
  unfold tpulse_MarginOf mgR
  simp only [polyError_is a ha, polyError_is b hb, errorIf_is, rangeError_is, firstError4_is, bindO_val, bif_ne]
  by_cases hl : a.length = b.length
  · rw [if_pos (by omega)]
    simp only [Bool.false_eq_true, if_false]
    rw [show first4 (polyE a) (polyE b) 0 (rangeE most 0 60) = mgE a b most by unfold mgE; rw [if_pos hl]]
    by_cases h : mgE a b most = 0
    · obtain ⟨p1, p2, p3, p4, p5⟩ := mgE_ok h
      obtain ⟨k1, k2, _⟩ := poly_ok p1
      simp only [h, if_true, ne_eq, not_true_eq_false, if_false, isLocked_is a k1 (by omega) (poly_wrds p1), bindO_val]
      by_cases hk : Lck a
      · rw [bif_pos hk, if_pos hk, Lpulse_MarginOf_0a_of (margin_loop a b most (by omega) (by omega) (by omega) most.toNat 0 (by omega) (by omega))]
        rfl
      · rw [bif_neg hk, if_neg hk]
    · rw [if_neg h, if_pos h]
  · rw [if_neg (by omega)]
    simp only [if_true]
    rw [show first4 (polyE a) (polyE b) 13 (rangeE most 0 60) = mgE a b most by unfold mgE; rw [if_neg hl]]
    have h : mgE a b most ≠ 0 := fun h => hl (mgE_ok h).2.2.1
    rw [if_neg h, if_pos h]

theorem refSum_loopb (a b : List Int) (g : Int) (hab : a.length ≤ b.length) (ha : a.length ≤ 1000) : ∀ k, k ≤ a.length →
    Rglidepathref01_Sum_0 (Tglidepathref01_Sum_0b a.length (encI a) b.length (encI b) g k (encI (tabI (fun k => w64 (a.getD k 0 + w64 (g * b.getD k 0))) k)) k k) =
      exO (Xglidepathref01_Sum_0b (a.length, encI (sumW a b g), a.length)) := by
  refine up_ind _ ?_ ?_
  · refine Rglidepathref01_Sum_0b_of _ _ _ _ _ _ _ _ _ ?_
    unfold Bglidepathref01_Sum_0b
    rw [bif_neg (by omega)]
    rfl
  · intro k hk ih
    refine Rglidepathref01_Sum_0b_of _ _ _ _ _ _ _ _ _ ?_
    unfold Bglidepathref01_Sum_0b
    rw [bif_pos (by omega), bif_pos (by omega)]
    simp only [Int.toNat_natCast, Nat.mul_one, encI_get, get_getD 0 (show k < a.length by omega), get_getD 0 (show k < b.length by omega), Option.map_some, intC_int, bindO_val]
    rw [bif_pos (by omega), bif_pos ⟨trivial, by simp only [big]; omega⟩, w64_in (n := (k : Int) + 1) (by omega), encI_snoc]
    rw [tabI_succ] at ih
    exact ih

theorem refSum_is (a b : List Int) (g : Int) (h1 : 1 ≤ a.length) (hab : a.length ≤ b.length) (ha : a.length ≤ 1000) : Fglidepathref01_Sum [.list a.length (encI a), .list b.length (encI b), .int .i64 g] = some ((sumW a b g).length, encI (sumW a b g)) := by
  refine Fglidepathref01_Sum_of _ _ _ _ _ ?_
  unfold tglidepathref01_Sum
  have hL : Rglidepathref01_Sum_0 (Tglidepathref01_Sum_0a a.length (encI a) b.length (encI b) g) = exO (Xglidepathref01_Sum_0b (a.length, encI (sumW a b g), a.length)) := by
    refine Rglidepathref01_Sum_0a_of _ _ _ _ _ ?_
    unfold Bglidepathref01_Sum_0a
    rw [bif_pos (by omega), bif_pos (by omega)]
    simp only [encI_get, get_getD 0 (show 0 < a.length by omega), get_getD 0 (show 0 < b.length by omega), Option.map_some, intC_int, bindO_val]
    rw [bif_pos (by omega)]
    exact refSum_loopb a b g hab ha 1 (by omega)
  rw [Lglidepathref01_Sum_0b_of hL]
  simp only [bindO_val, Sum.elim_inr, decide_true, cond_true, sumW_len]

def Lt (x y : Int) : Prop := (-y < x ∧ x < y) ∨ (y < x ∧ x < -y)

instance (x y : Int) : Decidable (Lt x y) := by unfold Lt; infer_instance

theorem lt_pos {u x y : Int} (hu : 0 < u) : Lt (u * x) (u * y) ↔ Lt x y := by
  have e : -(u * y) = u * -y := by grind
  have key : ∀ a b : Int, u * a < u * b ↔ a < b := fun a b => ⟨fun h => Int.lt_of_mul_lt_mul_left h (by omega), fun h => Int.mul_lt_mul_of_pos_left h hu⟩
  unfold Lt
  rw [e, key, key, key, key]

theorem lt_neg {x y : Int} : Lt (-x) (-y) ↔ Lt x y := by unfold Lt; omega

theorem lt_neg_l {x y : Int} : Lt (-x) y ↔ Lt x y := by unfold Lt; omega

theorem lt_scale {u x y : Int} (hu : u ≠ 0) : Lt (u * x) (u * y) ↔ Lt x y := by
  by_cases h : 0 < u
  · exact lt_pos h
  · have e1 : u * x = -(-u * x) := by grind
    have e2 : u * y = -(-u * y) := by grind
    rw [e1, e2, lt_neg]
    exact lt_pos (by omega)

theorem mul_bd {x y a b : Int} (h1 : Bd a x) (h2 : Bd b y) : Bd (a * b) (x * y) := by
  unfold Bd at *
  have g1 := Int.mul_nonneg (show 0 ≤ a - x by omega) (show 0 ≤ b - y by omega)
  have g2 := Int.mul_nonneg (show 0 ≤ a + x by omega) (show 0 ≤ b + y by omega)
  have g3 := Int.mul_nonneg (show 0 ≤ a - x by omega) (show 0 ≤ b + y by omega)
  have g4 := Int.mul_nonneg (show 0 ≤ a + x by omega) (show 0 ≤ b - y by omega)
  constructor <;> grind

theorem sub_bd {x y a b : Int} (h1 : Bd a x) (h2 : Bd b y) : Bd (a + b) (x - y) := by unfold Bd at *; omega

theorem add_bd {x y a b : Int} (h1 : Bd a x) (h2 : Bd b y) : Bd (a + b) (x + y) := by unfold Bd at *; omega

theorem w64_bd {m x : Int} (h : Bd m x) (hm : m ≤ 9223372036854775807) : w64 x = x := w64_in (by unfold Bd at h; omega)

theorem absW_lt {m x y : Int} (hx : Bd m x) (hy : Bd m y) (hm : m ≤ 9223372036854775807) : absW x < absW y ↔ Lt x y := by
  unfold Bd at *
  unfold absW Lt
  rw [w64_in (by omega), w64_in (by omega)]
  split <;> split <;> omega

theorem step_w {m a b c d : Int} (ha : Bd m a) (hb : Bd m b) (hc : Bd m c) (hd : Bd m d) (hm : m * m + m * m ≤ 9223372036854775807) : w64 (w64 (a * b) - w64 (c * d)) = a * b - c * d ∧ Bd (m * m + m * m) (a * b - c * d) := by
  have h1 := mul_bd ha hb
  have h2 := mul_bd hc hd
  have h3 := sub_bd h1 h2
  have hp : 0 ≤ m := by unfold Bd at ha; omega
  have hq : 0 ≤ m * m := Int.mul_nonneg hp hp
  rw [w64_bd h1 (by omega), w64_bd h2 (by omega), w64_bd h3 hm]
  exact ⟨rfl, h3⟩

theorem rowsW_next {l : List Int} (h : hasN l) : rowsW l = l :: rowsW (nextW l) := by
  have h1 := h.1
  obtain ⟨n, hn⟩ : ∃ n, l.length = n + 1 := ⟨l.length - 1, by omega⟩
  have e : (nextW l).length = n := by rw [nextW_len]; omega
  unfold rowsW
  rw [e, hn]
  simp only [moreF, if_pos h]

theorem lck_next {l : List Int} (h : hasN l) : Lck l ↔ Lck (nextW l) := by
  have h1 := rowsW_pos (nextW l)
  have e : lastW l = lastW (nextW l) := by
    unfold lastW
    rw [rowsW_next h, List.length_cons, show (rowsW (nextW l)).length + 1 - 1 = ((rowsW (nextW l)).length - 1) + 1 by omega]
    rfl
  unfold Lck
  rw [e]

theorem lck_end {l : List Int} (h : ¬ hasN l) : Lck l ↔ l.length = 1 ∧ l.getD 0 0 ≠ 0 := by
  have e : rowsW l = [l] := by
    unfold rowsW
    cases l.length <;> simp [moreF, h]
  unfold Lck lastW
  rw [e]
  rfl

theorem lck1 (c : Int) : Lck [c] ↔ c ≠ 0 := by
  rw [lck_end (fun h => by have := h.1; simp at this)]
  simp

theorem lck2 {m c0 c1 : Int} (h0 : Bd m c0) (h1 : Bd m c1) (hm : m * m + m * m ≤ 9223372036854775807) (hm1 : m ≤ 9223372036854775807) : Lck [c0, c1] ↔ Lt c0 c1 := by
  by_cases h : hasN [c0, c1]
  · have hl : Lt c0 c1 := (absW_lt h0 h1 hm1).1 h.2
    rw [lck_next h]
    have e : nextW [c0, c1] = [c1 * c1 - c0 * c0] := by
      show [w64 (w64 (c1 * c1) - w64 (c0 * c0))] = _
      rw [(step_w h1 h1 h0 h0 hm).1]
    rw [e, lck1]
    refine ⟨fun _ => hl, fun _ he => ?_⟩
    have e2 : c1 * c1 - c0 * c0 = (c1 - c0) * (c1 + c0) := by grind
    rw [e2] at he
    rcases Int.mul_eq_zero.1 he with h3 | h3 <;> unfold Lt at hl <;> omega
  · have hl : ¬ Lt c0 c1 := fun hl => h ⟨by simp, (absW_lt h0 h1 hm1).2 hl⟩
    rw [lck_end h]
    simp [hl]

theorem lck3 {m c0 c1 c2 : Int} (h0 : Bd m c0) (h1 : Bd m c1) (h2 : Bd m c2) (hm : (m * m + m * m) * (m * m + m * m) + (m * m + m * m) * (m * m + m * m) ≤ 9223372036854775807) (hm1 : m * m + m * m ≤ 9223372036854775807) (hm2 : m ≤ 9223372036854775807) :
    Lck [c0, c1, c2] ↔ Lt c0 c2 ∧ Lt c1 (c2 + c0) := by
  by_cases h : hasN [c0, c1, c2]
  · have hl : Lt c0 c2 := (absW_lt h0 h2 hm2).1 h.2
    rw [lck_next h]
    have e : nextW [c0, c1, c2] = [c2 * c1 - c0 * c1, c2 * c2 - c0 * c0] := by
      show [w64 (w64 (c2 * c1) - w64 (c0 * c1)), w64 (w64 (c2 * c2) - w64 (c0 * c0))] = _
      rw [(step_w h2 h1 h0 h1 hm1).1, (step_w h2 h2 h0 h0 hm1).1]
    rw [e, lck2 (step_w h2 h1 h0 h1 hm1).2 (step_w h2 h2 h0 h0 hm1).2 hm hm1]
    have e1 : c2 * c1 - c0 * c1 = (c2 - c0) * c1 := by grind
    have e2 : c2 * c2 - c0 * c0 = (c2 - c0) * (c2 + c0) := by grind
    rw [e1, e2, lt_scale (by unfold Lt at hl; omega)]
    exact ⟨fun h => ⟨hl, h⟩, fun h => h.2⟩
  · have hl : ¬ Lt c0 c2 := fun hl => h ⟨by simp, (absW_lt h0 h2 hm2).2 hl⟩
    rw [lck_end h]
    simp [hl]

theorem lck4 {c0 c1 c2 c3 : Int} (h0 : Bd 60 c0) (h1 : Bd 60 c1) (h2 : Bd 60 c2) (h3 : Bd 60 c3) :
    Lck [c0, c1, c2, c3] ↔ Lt c0 c3 ∧ Lt (c3 * c1 - c0 * c2) (c3 * c3 - c0 * c0) ∧ Lt (c3 * c2 - c0 * c1) (c3 * c3 - c0 * c0 + (c3 * c1 - c0 * c2)) := by
  by_cases h : hasN [c0, c1, c2, c3]
  · have hl : Lt c0 c3 := (absW_lt h0 h3 (by omega)).1 h.2
    rw [lck_next h]
    have e : nextW [c0, c1, c2, c3] = [c3 * c1 - c0 * c2, c3 * c2 - c0 * c1, c3 * c3 - c0 * c0] := by
      show [w64 (w64 (c3 * c1) - w64 (c0 * c2)), w64 (w64 (c3 * c2) - w64 (c0 * c1)), w64 (w64 (c3 * c3) - w64 (c0 * c0))] = _
      rw [(step_w h3 h1 h0 h2 (by omega)).1, (step_w h3 h2 h0 h1 (by omega)).1, (step_w h3 h3 h0 h0 (by omega)).1]
    rw [e, lck3 (step_w h3 h1 h0 h2 (by omega)).2 (step_w h3 h2 h0 h1 (by omega)).2 (step_w h3 h3 h0 h0 (by omega)).2 (by omega) (by omega) (by omega)]
    exact ⟨fun h => ⟨hl, h⟩, fun h => h.2⟩
  · have hl : ¬ Lt c0 c3 := fun hl => h ⟨by simp, (absW_lt h0 h3 (by omega)).2 hl⟩
    rw [lck_end h]
    simp [hl]

theorem zero_core {a0 a1 a2 z : Int} (hz : 2 ≤ z) (h1 : Lt (z * a0) a2) (h2 : 0 < a2)
    (h3 : Lt (a2 * (a0 - z * a1) - (-z * a0) * (a1 - z * a2)) (a2 * a2 - (-z * a0) * (-z * a0)))
    (h4 : Lt (a2 * (a1 - z * a2) - (-z * a0) * (a0 - z * a1)) (a2 * a2 - (-z * a0) * (-z * a0) + (a2 * (a0 - z * a1) - (-z * a0) * (a1 - z * a2)))) : False := by
  have b1 : -a2 < z * a0 ∧ z * a0 < a2 := by unfold Lt at h1; omega
  have b2 : -a2 < a0 ∧ a0 < a2 := by
    constructor
    · by_cases h : 0 ≤ a0
      · omega
      · have := Int.mul_nonneg (show 0 ≤ z - 1 by omega) (show 0 ≤ -a0 by omega)
        have e : (z - 1) * -a0 = a0 - z * a0 := by grind
        omega
    · by_cases h : 0 ≤ a0
      · have := Int.mul_nonneg (show 0 ≤ z - 1 by omega) h
        have e : (z - 1) * a0 = z * a0 - a0 := by grind
        omega
      · omega
  obtain ⟨Y, hY⟩ : ∃ Y, Y = a2 * a2 - (-z * a0) * (-z * a0) + (a2 * (a0 - z * a1) - (-z * a0) * (a1 - z * a2)) := ⟨_, rfl⟩
  obtain ⟨X, hX⟩ : ∃ X, X = a2 * (a1 - z * a2) - (-z * a0) * (a0 - z * a1) := ⟨_, rfl⟩
  obtain ⟨D0, hD0⟩ : ∃ D, D = a2 * (a0 - z * a1) - (-z * a0) * (a1 - z * a2) := ⟨_, rfl⟩
  obtain ⟨D2, hD2⟩ : ∃ D, D = a2 * a2 - (-z * a0) * (-z * a0) := ⟨_, rfl⟩
  rw [← hD0, ← hD2] at h3
  rw [← hX, ← hY] at h4
  have e1 : Y + X = -((a2 + z * a0) * ((z - 1) * (a0 + a1 + a2))) := by rw [hY, hX]; grind
  have e2 : Y - X = (a2 - z * a0) * ((z + 1) * (a2 - a1 + a0)) := by rw [hY, hX]; grind
  have p1 : 0 < a2 + z * a0 := by omega
  have p2 : 0 < a2 - z * a0 := by omega
  have e3 : D2 = (a2 - z * a0) * (a2 + z * a0) := by rw [hD2]; grind
  have p3 : 0 < D2 := by rw [e3]; exact Int.mul_pos p2 p1
  have hd : -D2 < D0 ∧ D0 < D2 := by unfold Lt at h3; omega
  rcases h4 with ⟨k1, k2⟩ | ⟨k1, k2⟩
  · -- both ends above 0
    have q1 : a0 + a1 + a2 < 0 := by
      by_cases h : a0 + a1 + a2 < 0
      · exact h
      · have := Int.mul_nonneg (show 0 ≤ a2 + z * a0 by omega) (Int.mul_nonneg (show 0 ≤ z - 1 by omega) (show 0 ≤ a0 + a1 + a2 by omega))
        omega
    have q2 : 0 ≤ (a2 - a0) * (z * (-a1 - (a0 + a2))) := Int.mul_nonneg (by omega) (Int.mul_nonneg (by omega) (by omega))
    have q3 : 0 ≤ (z - 1) * ((a2 - a0) * (a2 - z * a0)) := Int.mul_nonneg (by omega) (Int.mul_nonneg (by omega) (by omega))
    have e4 : D0 - D2 = (a2 - a0) * (z * (-a1 - (a0 + a2))) + (z - 1) * ((a2 - a0) * (a2 - z * a0)) := by rw [hD0, hD2]; grind
    omega
  · have q1 : a2 - a1 + a0 < 0 := by
      by_cases h : a2 - a1 + a0 < 0
      · exact h
      · have := Int.mul_nonneg (show 0 ≤ a2 - z * a0 by omega) (Int.mul_nonneg (show 0 ≤ z + 1 by omega) (show 0 ≤ a2 - a1 + a0 by omega))
        omega
    have q2 : 0 ≤ (a2 - a0) * (z * (a1 - (a2 + a0))) := Int.mul_nonneg (by omega) (Int.mul_nonneg (by omega) (by omega))
    have q3 : 0 ≤ (z - 1) * ((a2 + a0) * (a2 + z * a0)) := Int.mul_nonneg (by omega) (Int.mul_nonneg (by omega) (by omega))
    have e4 : -D2 - D0 = (a2 - a0) * (z * (a1 - (a2 + a0))) + (z - 1) * ((a2 + a0) * (a2 + z * a0)) := by rw [hD0, hD2]; grind
    omega

theorem zero_one {a0 a1 a2 z : Int} (hz : z = 1 ∨ z = -1)
    (h4 : Lt (a2 * (a1 - z * a2) - (-z * a0) * (a0 - z * a1)) (a2 * a2 - (-z * a0) * (-z * a0) + (a2 * (a0 - z * a1) - (-z * a0) * (a1 - z * a2)))) : False := by
  rcases hz with rfl | rfl
  · have e : a2 * a2 - (-1 * a0) * (-1 * a0) + (a2 * (a0 - 1 * a1) - (-1 * a0) * (a1 - 1 * a2)) = -(a2 * (a1 - 1 * a2) - (-1 * a0) * (a0 - 1 * a1)) := by grind
    rw [e] at h4
    unfold Lt at h4
    omega
  · have e : a2 * a2 - (- -1 * a0) * (- -1 * a0) + (a2 * (a0 - -1 * a1) - (- -1 * a0) * (a1 - -1 * a2)) = (a2 * (a1 - -1 * a2) - (- -1 * a0) * (a0 - -1 * a1)) := by grind
    rw [e] at h4
    unfold Lt at h4
    omega

theorem zero3 {a0 a1 a2 z : Int} (hz : z ≠ 0) (h1 : Lt (-z * a0) a2)
    (h3 : Lt (a2 * (a0 - z * a1) - (-z * a0) * (a1 - z * a2)) (a2 * a2 - (-z * a0) * (-z * a0)))
    (h4 : Lt (a2 * (a1 - z * a2) - (-z * a0) * (a0 - z * a1)) (a2 * a2 - (-z * a0) * (-z * a0) + (a2 * (a0 - z * a1) - (-z * a0) * (a1 - z * a2)))) : False := by
  by_cases ho : z = 1 ∨ z = -1
  · exact zero_one ho h4
  have e0 : -z * a0 = -(z * a0) := by grind
  have h1' : Lt (z * a0) a2 := by rw [e0, lt_neg_l] at h1; exact h1
  by_cases hp : 0 < z
  · by_cases ha : 0 < a2
    · exact zero_core (by omega) h1' ha h3 h4
    · refine zero_core (a0 := -a0) (a1 := -a1) (a2 := -a2) (z := z) (by omega) ?_ ?_ ?_ ?_
      · have : z * -a0 = -(z * a0) := by grind
        rw [this, lt_neg]; exact h1'
      · unfold Lt at h1'; omega
      · have q1 : -a2 * (-a0 - z * -a1) - (-z * -a0) * (-a1 - z * -a2) = a2 * (a0 - z * a1) - (-z * a0) * (a1 - z * a2) := by grind
        have q2 : -a2 * -a2 - (-z * -a0) * (-z * -a0) = a2 * a2 - (-z * a0) * (-z * a0) := by grind
        rw [q1, q2]; exact h3
      · have q1 : -a2 * (-a0 - z * -a1) - (-z * -a0) * (-a1 - z * -a2) = a2 * (a0 - z * a1) - (-z * a0) * (a1 - z * a2) := by grind
        have q2 : -a2 * -a2 - (-z * -a0) * (-z * -a0) = a2 * a2 - (-z * a0) * (-z * a0) := by grind
        have q3 : -a2 * (-a1 - z * -a2) - (-z * -a0) * (-a0 - z * -a1) = a2 * (a1 - z * a2) - (-z * a0) * (a0 - z * a1) := by grind
        rw [q1, q2, q3]; exact h4
  · by_cases ha : 0 < a2
    · refine zero_core (a0 := a0) (a1 := -a1) (a2 := a2) (z := -z) (by omega) ?_ ha ?_ ?_
      · have : -z * a0 = -(z * a0) := by grind
        rw [this, lt_neg_l]; exact h1'
      · have q1 : a2 * (a0 - -z * -a1) - (- -z * a0) * (-a1 - -z * a2) = a2 * (a0 - z * a1) - (-z * a0) * (a1 - z * a2) := by grind
        have q2 : a2 * a2 - (- -z * a0) * (- -z * a0) = a2 * a2 - (-z * a0) * (-z * a0) := by grind
        rw [q1, q2]; exact h3
      · have q1 : a2 * (a0 - -z * -a1) - (- -z * a0) * (-a1 - -z * a2) = a2 * (a0 - z * a1) - (-z * a0) * (a1 - z * a2) := by grind
        have q2 : a2 * a2 - (- -z * a0) * (- -z * a0) = a2 * a2 - (-z * a0) * (-z * a0) := by grind
        have q3 : a2 * (-a1 - -z * a2) - (- -z * a0) * (a0 - -z * -a1) = -(a2 * (a1 - z * a2) - (-z * a0) * (a0 - z * a1)) := by grind
        rw [q1, q2, q3, lt_neg_l]; exact h4
    · refine zero_core (a0 := -a0) (a1 := a1) (a2 := -a2) (z := -z) (by omega) ?_ ?_ ?_ ?_
      · have : -z * -a0 = z * a0 := by grind
        rw [this, ← lt_neg, Int.neg_neg, lt_neg_l]; exact h1'
      · unfold Lt at h1'; omega
      · have q1 : -a2 * (-a0 - -z * a1) - (- -z * -a0) * (a1 - -z * -a2) = a2 * (a0 - z * a1) - (-z * a0) * (a1 - z * a2) := by grind
        have q2 : -a2 * -a2 - (- -z * -a0) * (- -z * -a0) = a2 * a2 - (-z * a0) * (-z * a0) := by grind
        rw [q1, q2]; exact h3
      · have q1 : -a2 * (-a0 - -z * a1) - (- -z * -a0) * (a1 - -z * -a2) = a2 * (a0 - z * a1) - (-z * a0) * (a1 - z * a2) := by grind
        have q2 : -a2 * -a2 - (- -z * -a0) * (- -z * -a0) = a2 * a2 - (-z * a0) * (-z * a0) := by grind
        have q3 : -a2 * (a1 - -z * -a2) - (- -z * -a0) * (-a0 - -z * a1) = -(a2 * (a1 - z * a2) - (-z * a0) * (a0 - z * a1)) := by grind
        rw [q1, q2, q3, lt_neg_l]; exact h4

theorem zero2 {a0 a1 z : Int} (hz : z ≠ 0) (h1 : Lt (-z * a0) a1) (h2 : Lt (a0 - z * a1) (a1 + -z * a0)) : False := by
  -- (a1 - z a0)^2 - (a0 - z a1)^2 = (1 - z^2) (a1^2 - a0^2)
  have hs : ∀ x y : Int, Lt x y → 0 < (y - x) * (y + x) := fun x y h => by
    rcases h with ⟨k1, k2⟩ | ⟨k1, k2⟩
    · exact Int.mul_pos (by omega) (by omega)
    · exact Int.mul_pos_of_neg_of_neg (by omega) (by omega)
  have g1 := hs _ _ h1
  have g2 := hs _ _ h2
  have hz2 : 1 ≤ z * z := by
    rcases (by omega : 0 < z ∨ z < 0) with h | h
    · have := Int.mul_pos h h; omega
    · have := Int.mul_pos_of_neg_of_neg h h; omega
  have e1 : (a1 - -z * a0) * (a1 + -z * a0) = a1 * a1 - z * z * (a0 * a0) := by grind
  have e2 : (a1 + -z * a0 - (a0 - z * a1)) * (a1 + -z * a0 + (a0 - z * a1)) = -((z * z - 1) * (a1 * a1 - a0 * a0)) := by grind
  rw [e1] at g1
  rw [e2] at g2
  have h0 : 0 ≤ a0 * a0 := by
    rcases (by omega : 0 ≤ a0 ∨ a0 ≤ 0) with h | h
    · exact Int.mul_nonneg h h
    · exact Int.mul_nonneg_of_nonpos_of_nonpos h h
  have h5 : 0 ≤ (z * z - 1) * (a0 * a0) := Int.mul_nonneg (by omega) h0
  have e3 : (z * z - 1) * (a0 * a0) = z * z * (a0 * a0) - a0 * a0 := by grind
  have h6 : 0 ≤ a1 * a1 - a0 * a0 := by omega
  have := Int.mul_nonneg (show 0 ≤ z * z - 1 by omega) h6
  omega

end Gv
