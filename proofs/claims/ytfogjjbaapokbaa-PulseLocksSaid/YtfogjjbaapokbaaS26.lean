/- Locked loops: the rows of a polynomial, whether it is locked, the margin; the program's and the specification's. -/
import Derived.Test.YtfogjjbaapokbaaS3
import Derived.Test.YtfogjjbaapokbaaS15
import Derived.Test.YtfogjjbaapokbaaGvYi
import Derived.Test.YtfogjjbaapokbaaP14
import Derived.Test.YtfogjjbaapokbaaP15
namespace Gv
open Go
set_option maxRecDepth 100000

def polyE (l : List Int) : Int := (listIE 4 (-60) 60 l).2
theorem polyError_is (l : List Int) (hl : l.length < 4294967296) : Fpulse_polynomialError [.list l.length (encI l)] = some (polyE l) := by
  refine Fpulse_polynomialError_of _ _ ?_
  unfold tpulse_polynomialError
  simp only [listI_is 4 (-60) 60 l hl, bindO_val]
  rfl

def pEnd : Option (Int × Int) → Option (Ext × S)
  | some _ => exO (Xglidepathref01_PolynomialErr_0a ())
  | none => exO (Xglidepathref01_PolynomialErr_0b ())
theorem refPoly_loop (l : List Int) (hl : l.length < 4294967296) : ∀ i, i ≤ l.length →
    Rglidepathref01_PolynomialErr_0 (Tglidepathref01_PolynomialErr_0a l.length (encI l) i) = pEnd (findE (fun x => rangeE x (-60) 60) (l.drop i) i) := by
  refine up_ind _ ?_ ?_
  · rw [List.drop_length]
    show _ = exO (Xglidepathref01_PolynomialErr_0b ())
    refine Rglidepathref01_PolynomialErr_0a_of _ _ _ ?_
    unfold Bglidepathref01_PolynomialErr_0a
    rw [bif_neg (by omega)]
    rfl
  · intro i hi ih
    obtain ⟨x, hx, hd⟩ := get_drop hi
    rw [hd]
    by_cases he : -60 ≤ x ∧ x ≤ 60
    · have e0 := rangeE_in he
      simp only [findE, e0, ne_eq, not_true_eq_false, if_false]
      have step : ∀ r, Rglidepathref01_PolynomialErr_0 (Tglidepathref01_PolynomialErr_0a l.length (encI l) (i + 1 : Nat)) = some r → Rglidepathref01_PolynomialErr_0 (Tglidepathref01_PolynomialErr_0a l.length (encI l) i) = some r := by
        intro r hr
        refine Rglidepathref01_PolynomialErr_0a_of _ _ _ ?_
        unfold Bglidepathref01_PolynomialErr_0a
        rw [bif_pos (by omega), bif_pos (by omega)]
        simp only [Int.toNat_natCast, Nat.mul_one, encI_get, hx, Option.map_some, intC_int, bindO_val, within_is]
        rw [bif_pos he, w64_in (by omega)]
        exact hr
      cases hf : findE (fun x => rangeE x (-60) 60) (l.drop (i + 1)) (i + 1) with
      | none => rw [hf] at ih; exact step _ ih
      | some p => rw [hf] at ih; exact step _ ih
    · have e0 := rangeE_out he
      simp only [findE, e0]
      rw [if_pos (by decide)]
      show _ = exO (Xglidepathref01_PolynomialErr_0a ())
      refine Rglidepathref01_PolynomialErr_0a_of _ _ _ ?_
      unfold Bglidepathref01_PolynomialErr_0a
      rw [bif_pos (by omega), bif_pos (by omega)]
      simp only [Int.toNat_natCast, Nat.mul_one, encI_get, hx, Option.map_some, intC_int, bindO_val, within_is]
      rw [bif_neg he]
      rfl

theorem refPolyErr_is (l : List Int) : Fglidepathref01_PolynomialErr [.list l.length (encI l)] = some (polyE l) := by
  refine Fglidepathref01_PolynomialErr_of _ _ ?_
  unfold tglidepathref01_PolynomialErr polyE listIE
  rw [bif_eq]
  by_cases h1 : l.length = 0
  · rw [if_pos (by omega), if_pos h1]
  · rw [if_neg (by omega), if_neg h1]
    by_cases h2 : (4 : Int) < l.length
    · rw [bif_pos (by omega), if_pos h2]
    · rw [bif_neg (by omega), if_neg h2]
      have hL := refPoly_loop l (by omega) 0 (by omega)
      rw [List.drop_zero] at hL
      cases hf : findE (fun x => rangeE x (-60) 60) l 0 with
      | none =>
        rw [hf] at hL
        have := Lglidepathref01_PolynomialErr_0b_of hL
        rw [show ((0 : Nat) : Int) = 0 from rfl] at this
        rw [this]
        rfl
      | some p =>
        rw [hf] at hL
        have := Lglidepathref01_PolynomialErr_0a_of hL
        rw [show ((0 : Nat) : Int) = 0 from rfl] at this
        rw [this]
        have h2 := findE_rng (-60) 60 l 0 p hf
        show some (2 : Int) = some p.2
        rw [h2]

theorem findE_ok (a b : Int) : ∀ {l : List Int} {i : Nat}, findE (fun x => rangeE x a b) l i = none → ∀ x ∈ l, a ≤ x ∧ x ≤ b
  | [], _, _, x, hx => by simp at hx
  | y :: l, i, h, x, hx => by
    by_cases he : a ≤ y ∧ y ≤ b
    · simp only [findE, rangeE_in he, ne_eq, not_true_eq_false, if_false] at h
      rcases List.mem_cons.1 hx with rfl | hx
      · exact he
      · exact findE_ok a b h x hx
    · simp only [findE, rangeE_out he] at h
      rw [if_pos (by decide)] at h
      cases h

theorem poly_ok {l : List Int} (h : polyE l = 0) : 1 ≤ l.length ∧ l.length ≤ 4 ∧ ∀ x ∈ l, -60 ≤ x ∧ x ≤ 60 := by
  unfold polyE listIE at h
  split at h
  · cases h
  · split at h
    · cases h
    · cases hf : findE (fun x => rangeE x (-60) 60) l 0 with
      | some p =>
        rw [hf] at h
        have := findE_rng (-60) 60 l 0 p hf
        simp at h
        omega
      | none => exact ⟨by omega, by omega, findE_ok (-60) 60 hf⟩

/-! ### Rows -/

def Wrd (x : Int) : Prop := -9223372036854775808 ≤ x ∧ x ≤ 9223372036854775807
theorem wrd_w64 (x : Int) : Wrd (w64 x) := ⟨w64_lo x, w64_hi x⟩
def absW (x : Int) : Int := if x < 0 then w64 (0 - x) else x
theorem absW_max {x : Int} (h : Wrd x) : (if w64 (0 - x) > x then w64 (0 - x) else x) = absW x := by
  unfold Wrd at h
  unfold absW
  rw [w64_eq]
  split <;> split <;> omega
theorem sizeW_is (x : Int) (h : Wrd x) : Fglidepathbase_Size [.int .i64 x] = some (absW x) := by
  refine Fglidepathbase_Size_of _ ?_
  unfold tglidepathbase_Size
  rw [absW_max h]

def nxt (row : List Int) (k : Nat) : Int :=
  w64 (w64 (row.getD (row.length - 1) 0 * row.getD (k + 1) 0) - w64 (row.getD 0 0 * row.getD (row.length - 1 - 1 - k) 0))
def nextW (row : List Int) : List Int := tabI (nxt row) (row.length - 1)
theorem nextW_len (row : List Int) : (nextW row).length = row.length - 1 := by simp [nextW]
def hasN (row : List Int) : Prop := 1 < row.length ∧ absW (row.getD 0 0) < absW (row.getD (row.length - 1) 0)
instance (row : List Int) : Decidable (hasN row) := by unfold hasN; infer_instance
def Wrds (row : List Int) : Prop := ∀ x ∈ row, Wrd x
theorem nextW_wrds (row : List Int) : Wrds (nextW row) := fun x hx => by
  obtain ⟨k, _, rfl⟩ := tabI_mem hx
  exact wrd_w64 _
theorem getD_mem {l : List Int} {i : Nat} (h : i < l.length) : l.getD i 0 ∈ l := by
  have := get_getD (l := l) 0 h
  exact List.mem_of_getElem? this

theorem hasNext_is (row : List Int) (h1 : 1 ≤ row.length) (h2 : row.length ≤ 1000) (hw : Wrds row) : Fpulse_hasNextRow [.list row.length (encI row)] = some (decide (hasN row)) := by
  refine Fpulse_hasNextRow_of _ _ ?_
  unfold tpulse_hasNextRow
  rw [bif_pos (by omega), w64_in (by omega), show ((row.length : Int) - 1).toNat * 1 = row.length - 1 by omega]
  simp only [encI_get, get_getD 0 (show 0 < row.length by omega), get_getD 0 (show row.length - 1 < row.length by omega), Option.map_some, intC_int, bindO_val]
  rw [bif_pos (by omega)]
  have a1 := absW_max (hw _ (getD_mem (l := row) (i := 0) (by omega)))
  have a2 := absW_max (hw _ (getD_mem (l := row) (i := row.length - 1) (by omega)))
  rw [a1, a2]
  by_cases h3 : 1 < row.length
  · rw [bif_pos (by omega)]
    by_cases h4 : absW (row.getD 0 0) < absW (row.getD (row.length - 1) 0)
    · rw [bif_pos h4, decide_eq_true (show hasN row from ⟨h3, h4⟩)]
    · rw [bif_neg h4, decide_eq_false (fun h : hasN row => h4 h.2)]
  · rw [bif_neg (by omega), decide_eq_false (fun h : hasN row => h3 h.1)]

theorem next_loop (row : List Int) (h1 : 1 ≤ row.length) (h2 : row.length ≤ 1000) : ∀ k, k ≤ row.length - 1 →
    Rpulse_nextRow_0 (Tpulse_nextRow_0a row.length (encI row) (row.length - 1 : Nat) (row.length - 1) (row.length - 1 : Nat) k (encI (fillI (nxt row) (row.length - 1) k))) =
      exO (Xpulse_nextRow_0a (row.length - 1, encI (nextW row))) := by
  refine up_ind _ ?_ ?_
  · refine Rpulse_nextRow_0a_of _ _ _ _ _ _ _ ?_
    unfold Bpulse_nextRow_0a
    rw [bif_neg (by omega), fillI_all]
    rfl
  · intro k hk ih
    refine Rpulse_nextRow_0a_of _ _ _ _ _ _ _ ?_
    unfold Bpulse_nextRow_0a
    rw [bif_pos (by omega), bif_pos (by omega), w64_in (n := (k : Int) + 1) (by omega), w64_in (n := ((row.length - 1 : Nat) : Int) - 1) (by omega), w64_in (n := ((row.length - 1 : Nat) : Int) - 1 - k) (by omega),
      show ((row.length - 1 : Nat) : Int).toNat * 1 = row.length - 1 by omega, show ((k : Int) + 1).toNat * 1 = k + 1 by omega, show (((row.length - 1 : Nat) : Int) - 1 - k).toNat * 1 = row.length - 1 - 1 - k by omega]
    simp only [encI_get, get_getD 0 (show 0 < row.length by omega), get_getD 0 (show row.length - 1 < row.length by omega), get_getD 0 (show k + 1 < row.length by omega), get_getD 0 (show row.length - 1 - 1 - k < row.length by omega), Option.map_some, intC_int, bindO_val]
    rw [bif_pos (by omega), bif_pos (by omega), bif_pos (by omega), bif_pos (by omega), bif_pos (by rw [encI_len, fillI_len _ (by omega)]; omega), Int.toNat_natCast]
    have e : over (encI (fillI (nxt row) (row.length - 1) k)) (0 + k * 1) [.int .i64 (w64 (w64 (row.getD (row.length - 1) 0 * row.getD (k + 1) 0) - w64 (row.getD 0 0 * row.getD (row.length - 1 - 1 - k) 0)))] = _ := fillI_step (nxt row) hk
    rw [e]
    exact ih

theorem nextRow_is (row : List Int) (h1 : 1 ≤ row.length) (h2 : row.length ≤ 1000) : Fpulse_nextRow [.list row.length (encI row)] = some ((nextW row).length, encI (nextW row)) := by
  refine Fpulse_nextRow_of _ _ ?_
  unfold tpulse_nextRow
  rw [w64_in (by omega), bif_pos ⟨rfl, by omega, by simp only [big]; omega⟩, show ((row.length : Int) - 1).toNat = row.length - 1 by omega, rep_I]
  have := Lpulse_nextRow_0a_of (next_loop row h1 h2 0 (by omega))
  rw [fillI_zero] at this
  rw [show ((row.length : Int) - 1) = ((row.length - 1 : Nat) : Int) by omega]
  have this : Lpulse_nextRow_0 (Tpulse_nextRow_0a row.length (encI row) (row.length - 1 : Nat) (row.length - 1) (row.length - 1 : Nat) 0 (encI (List.replicate (row.length - 1) 0))) = _ := this
  rw [this]
  simp only [bindO_val]
  rw [bif_pos (by rw [encI_len, nextW_len]; omega), List.drop_zero, List.take_of_length_le (by rw [encI_len, nextW_len]; omega), nextW_len]

/-- The rows that follow a row. -/
def moreF : Nat → List Int → List (List Int)
  | 0, _ => []
  | n + 1, row => if hasN row then nextW row :: moreF n (nextW row) else []
def rowsW (l : List Int) : List (List Int) := l :: moreF l.length l

theorem rows_loopb : ∀ (n : Nat) (row : List Int) (acc : List (List Int)), 1 ≤ row.length → row.length ≤ n → n ≤ 1000 → acc.length + n ≤ 2000 → Wrds row →
    Rpulse_rowsOf_0 (Tpulse_rowsOf_0b row.length (encI row) acc.length (encLL acc) acc.length) = exO (Xpulse_rowsOf_0b ((acc ++ moreF n row).length, encLL (acc ++ moreF n row), (acc ++ moreF n row).length))
  | 0, row, acc, h1, h2, _, _, _ => by omega
  | n + 1, row, acc, h1, h2, h3, h4, hw => by
    refine Rpulse_rowsOf_0b_of _ _ _ _ _ ?_
    unfold Bpulse_rowsOf_0b
    simp only [hasNext_is row h1 (by omega) hw, bindO_val]
    by_cases h : hasN row
    · have hn := h.1
      rw [bif_pos h]
      simp only [nextRow_is row h1 (by omega), bindO_val]
      rw [bif_pos ⟨trivial, by simp only [big]; omega⟩, encLL_snoc]
      have := rows_loopb n (nextW row) (acc ++ [nextW row]) (by rw [nextW_len]; omega) (by rw [nextW_len]; omega) (by omega) (by simp; omega) (nextW_wrds row)
      rw [List.length_append, List.append_assoc] at this
      simp only [moreF, if_pos h]
      exact this
    · rw [bif_neg h]
      simp only [moreF, if_neg h, List.append_nil]
      rfl

theorem clone_is (l : List Int) (h : 1 ≤ l.length ∧ l.length ≤ 1000) : Fslices_Clone___int_int_ [.list l.length (encI l)] = some (l.length, encI l) := by
  refine Fslices_Clone___int_int__of _ _ ?_
  unfold tslices_Clone___int_int_
  rw [bif_pos (by omega), bif_neg (by omega), bif_pos (by simp), bif_pos (by simp only [big]; omega), bif_pos rfl]
  simp

theorem rowsOf_is (l : List Int) (h1 : 1 ≤ l.length) (h2 : l.length ≤ 1000) (hw : Wrds l) : Fpulse_rowsOf [.list l.length (encI l)] = some ((rowsW l).length, encLL (rowsW l)) := by
  refine Fpulse_rowsOf_of _ _ ?_
  unfold tpulse_rowsOf
  simp only [clone_is l ⟨h1, h2⟩, bindO_val]
  obtain ⟨n, hn⟩ : ∃ n, l.length = n + 1 := ⟨l.length - 1, by omega⟩
  by_cases h : hasN l
  · have hL : Rpulse_rowsOf_0 (Tpulse_rowsOf_0a l.length (encI l) l.length (encI l)) = exO (Xpulse_rowsOf_0b ((rowsW l).length, encLL (rowsW l), (rowsW l).length)) := by
      refine Rpulse_rowsOf_0a_of _ _ _ _ ?_
      unfold Bpulse_rowsOf_0a
      simp only [hasNext_is l h1 (by omega) hw, bindO_val]
      have hn' := h.1
      rw [bif_pos h]
      simp only [nextRow_is l h1 (by omega), bindO_val]
      have := rows_loopb n (nextW l) [l, nextW l] (by rw [nextW_len]; omega) (by rw [nextW_len]; omega) (by omega) (by simp; omega) (nextW_wrds l)
      rw [show rowsW l = [l, nextW l] ++ moreF n (nextW l) by unfold rowsW; rw [hn]; simp only [moreF, if_pos h]; rfl]
      exact this
    rw [Lpulse_rowsOf_0b_of hL]
    simp only [bindO_val, Sum.elim_inr, decide_true, cond_true]
  · have hL : Rpulse_rowsOf_0 (Tpulse_rowsOf_0a l.length (encI l) l.length (encI l)) = exO (Xpulse_rowsOf_0a (l.length, encI l)) := by
      refine Rpulse_rowsOf_0a_of _ _ _ _ ?_
      unfold Bpulse_rowsOf_0a
      simp only [hasNext_is l h1 (by omega) hw, bindO_val]
      rw [bif_neg h]
      rfl
    rw [Lpulse_rowsOf_0a_of hL]
    simp only [bindO_val, Sum.elim_inl]
    rw [show rowsW l = [l] by unfold rowsW; rw [hn]; simp only [moreF, if_neg h]]
    rfl

/-! The specification's rows -/

theorem refNext_loopd (row : List Int) (n0 n5 : Nat) (c1 : List PV) (h1 : 1 ≤ row.length) (h2 : row.length ≤ 1000) : ∀ k, k ≤ row.length - 1 →
    Rglidepathref01_Rows_2 (Tglidepathref01_Rows_2d n0 c1 row.length (encI row) (row.length - 1 : Nat) k (encI (tabI (nxt row) k)) k k n5) =
      exO (Xglidepathref01_Rows_2d (n0, c1, row.length - 1, encI (nextW row), row.length - 1, n5)) := by
  refine up_ind _ ?_ ?_
  · refine Rglidepathref01_Rows_2d_of _ _ _ _ _ _ _ _ _ _ ?_
    unfold Bglidepathref01_Rows_2d
    rw [bif_neg (by omega)]
    rfl
  · intro k hk ih
    refine Rglidepathref01_Rows_2d_of _ _ _ _ _ _ _ _ _ _ ?_
    unfold Bglidepathref01_Rows_2d
    rw [bif_pos (by omega), bif_pos (by omega), w64_in (n := (k : Int) + 1) (by omega), w64_in (n := ((row.length - 1 : Nat) : Int) - 1) (by omega), w64_in (n := ((row.length - 1 : Nat) : Int) - 1 - k) (by omega),
      show ((row.length - 1 : Nat) : Int).toNat * 1 = row.length - 1 by omega, show ((k : Int) + 1).toNat * 1 = k + 1 by omega, show (((row.length - 1 : Nat) : Int) - 1 - k).toNat * 1 = row.length - 1 - 1 - k by omega]
    simp only [encI_get, get_getD 0 (show 0 < row.length by omega), get_getD 0 (show row.length - 1 < row.length by omega), get_getD 0 (show k + 1 < row.length by omega), get_getD 0 (show row.length - 1 - 1 - k < row.length by omega), Option.map_some, intC_int, bindO_val]
    rw [bif_pos (by omega), bif_pos (by omega), bif_pos (by omega), bif_pos ⟨trivial, by simp only [big]; omega⟩, encI_snoc]
    rw [tabI_succ] at ih
    exact ih

theorem refNext_loopb (row : List Int) (n0 : Nat) (c1 : List PV) (h1 : 1 ≤ row.length) (h2 : row.length ≤ 1000) : ∀ k, k ≤ row.length - 1 →
    Rglidepathref01_Rows_2 (Tglidepathref01_Rows_2b n0 c1 row.length (encI row) (row.length - 1 : Nat) k (encI (tabI (nxt row) k)) k k) =
      exO (Xglidepathref01_Rows_2b (n0, c1, row.length - 1, encI (nextW row), row.length - 1)) := by
  refine up_ind _ ?_ ?_
  · refine Rglidepathref01_Rows_2b_of _ _ _ _ _ _ _ _ _ ?_
    unfold Bglidepathref01_Rows_2b
    rw [bif_neg (by omega)]
    rfl
  · intro k hk ih
    refine Rglidepathref01_Rows_2b_of _ _ _ _ _ _ _ _ _ ?_
    unfold Bglidepathref01_Rows_2b
    rw [bif_pos (by omega), bif_pos (by omega), w64_in (n := (k : Int) + 1) (by omega), w64_in (n := ((row.length - 1 : Nat) : Int) - 1) (by omega), w64_in (n := ((row.length - 1 : Nat) : Int) - 1 - k) (by omega),
      show ((row.length - 1 : Nat) : Int).toNat * 1 = row.length - 1 by omega, show ((k : Int) + 1).toNat * 1 = k + 1 by omega, show (((row.length - 1 : Nat) : Int) - 1 - k).toNat * 1 = row.length - 1 - 1 - k by omega]
    simp only [encI_get, get_getD 0 (show 0 < row.length by omega), get_getD 0 (show row.length - 1 < row.length by omega), get_getD 0 (show k + 1 < row.length by omega), get_getD 0 (show row.length - 1 - 1 - k < row.length by omega), Option.map_some, intC_int, bindO_val]
    rw [bif_pos (by omega), bif_pos (by omega), bif_pos (by omega), bif_pos ⟨trivial, by simp only [big]; omega⟩, encI_snoc]
    rw [tabI_succ] at ih
    exact ih

theorem refNext_a (row : List Int) (n0 : Nat) (c1 : List PV) (h1 : 2 ≤ row.length) (h2 : row.length ≤ 1000) :
    Rglidepathref01_Rows_2 (Tglidepathref01_Rows_2a n0 c1 row.length (encI row) (row.length - 1 : Nat)) = exO (Xglidepathref01_Rows_2b (n0, c1, row.length - 1, encI (nextW row), row.length - 1)) := by
  refine Rglidepathref01_Rows_2a_of _ _ _ _ _ ?_
  unfold Bglidepathref01_Rows_2a
  rw [bif_pos (by omega), bif_pos (by omega), w64_in (n := (0 : Int) + 1) (by omega), w64_in (n := ((row.length - 1 : Nat) : Int) - 1) (by omega), w64_in (n := ((row.length - 1 : Nat) : Int) - 1 - 0) (by omega),
    show ((row.length - 1 : Nat) : Int).toNat * 1 = row.length - 1 by omega, show (((row.length - 1 : Nat) : Int) - 1 - 0).toNat * 1 = row.length - 1 - 1 - 0 by omega]
  simp only [encI_get, get_getD 0 (show 0 < row.length by omega), get_getD 0 (show row.length - 1 < row.length by omega), get_getD 0 (show 1 < row.length by omega), get_getD 0 (show row.length - 1 - 1 - 0 < row.length by omega), Option.map_some, intC_int, bindO_val]
  rw [bif_pos (by omega), bif_pos (by omega), bif_pos (by omega)]
  exact refNext_loopb row n0 c1 (by omega) h2 1 (by omega)

theorem refNext_c (row : List Int) (n0 n5 : Nat) (c1 : List PV) (h1 : 2 ≤ row.length) (h2 : row.length ≤ 1000) :
    Rglidepathref01_Rows_2 (Tglidepathref01_Rows_2c n0 c1 row.length (encI row) (row.length - 1 : Nat) n5) = exO (Xglidepathref01_Rows_2d (n0, c1, row.length - 1, encI (nextW row), row.length - 1, n5)) := by
  refine Rglidepathref01_Rows_2c_of _ _ _ _ _ _ ?_
  unfold Bglidepathref01_Rows_2c
  rw [bif_pos (by omega), bif_pos (by omega), w64_in (n := (0 : Int) + 1) (by omega), w64_in (n := ((row.length - 1 : Nat) : Int) - 1) (by omega), w64_in (n := ((row.length - 1 : Nat) : Int) - 1 - 0) (by omega),
    show ((row.length - 1 : Nat) : Int).toNat * 1 = row.length - 1 by omega, show (((row.length - 1 : Nat) : Int) - 1 - 0).toNat * 1 = row.length - 1 - 1 - 0 by omega]
  simp only [encI_get, get_getD 0 (show 0 < row.length by omega), get_getD 0 (show row.length - 1 < row.length by omega), get_getD 0 (show 1 < row.length by omega), get_getD 0 (show row.length - 1 - 1 - 0 < row.length by omega), Option.map_some, intC_int, bindO_val]
  rw [bif_pos (by omega), bif_pos (by omega), bif_pos (by omega)]
  exact refNext_loopd row n0 n5 c1 (by omega) h2 1 (by omega)

theorem refRows_loopb : ∀ (n : Nat) (row : List Int) (acc : List (List Int)), 1 ≤ row.length → row.length ≤ n → n ≤ 1000 → acc.length + n ≤ 2000 → Wrds row →
    Rglidepathref01_Rows_0 (Tglidepathref01_Rows_0b (acc ++ [row]).length (encLL (acc ++ [row])) (acc ++ [row]).length) =
      exO (Xglidepathref01_Rows_0b ((acc ++ [row] ++ moreF n row).length, encLL (acc ++ [row] ++ moreF n row), (acc ++ [row] ++ moreF n row).length))
  | 0, row, acc, h1, h2, _, _, _ => by omega
  | n + 1, row, acc, h1, h2, h3, h4, hw => by
    refine Rglidepathref01_Rows_0b_of _ _ _ ?_
    unfold Bglidepathref01_Rows_0b
    have e1 : (acc ++ [row]).length = acc.length + 1 := by simp
    rw [w64_in (n := ((acc ++ [row]).length : Int) - 1) (by omega), bif_pos (by omega), show (((acc ++ [row]).length : Int) - 1).toNat * 1 = acc.length by omega]
    have e2 : (acc ++ [row])[acc.length]? = some row := by simp
    simp only [encLL_get, e2, Option.map_some, listC_list, bindO_val]
    rw [w64_in (n := (row.length : Int) - 1) (by omega), bif_eq]
    by_cases hz : (row.length : Int) - 1 = 0
    · rw [if_pos hz]
      have : ¬ hasN row := fun h => by have := h.1; omega
      simp only [moreF, if_neg this, List.append_nil]
      rfl
    · rw [if_neg hz, bif_pos (by omega), show ((row.length : Int) - 1).toNat * 1 = row.length - 1 by omega]
      simp only [encI_get, get_getD 0 (show 0 < row.length by omega), get_getD 0 (show row.length - 1 < row.length by omega), Option.map_some, intC_int, bindO_val, sizeW_is _ (hw _ (getD_mem (l := row) (i := row.length - 1) (by omega))), sizeW_is _ (hw _ (getD_mem (l := row) (i := 0) (by omega)))]
      rw [bif_pos (by omega)]
      by_cases h : hasN row
      · have hh := h.2
        rw [bif_neg (by omega), show ((row.length : Int) - 1) = ((row.length - 1 : Nat) : Int) by omega]
        rw [Lglidepathref01_Rows_2d_of (refNext_c row (acc ++ [row]).length (acc ++ [row]).length (encLL (acc ++ [row])) (by omega) (by omega))]
        simp only [bindO_val, Sum.elim_inr]
        rw [bif_pos ⟨trivial, by simp only [big]; omega⟩]
        have := refRows_loopb n (nextW row) (acc ++ [row]) (by rw [nextW_len]; omega) (by rw [nextW_len]; omega) (by omega) (by simp; omega) (nextW_wrds row)
        rw [List.append_assoc (acc ++ [row])] at this
        simp only [moreF, if_pos h]
        rw [show (acc ++ [row] ++ [nextW row]).length = (acc ++ [row]).length + 1 by simp, ← encLL_snoc, nextW_len] at this
        exact this
      · have : ¬ absW (row.getD 0 0) < absW (row.getD (row.length - 1) 0) := fun hh => h ⟨by omega, hh⟩
        rw [bif_pos (by omega)]
        simp only [moreF, if_neg h, List.append_nil]
        rfl

theorem refRows_is (l : List Int) (h1 : 1 ≤ l.length) (h2 : l.length ≤ 1000) (hw : Wrds l) : Fglidepathref01_Rows [.list l.length (encI l)] = some ((rowsW l).length, encLL (rowsW l)) := by
  refine Fglidepathref01_Rows_of _ _ ?_
  unfold tglidepathref01_Rows
  simp only [copyI_is l (by omega), bindO_val]
  obtain ⟨n, hn⟩ : ∃ n, l.length = n + 1 := ⟨l.length - 1, by omega⟩
  have first : ∀ r, (if hasN l then Rglidepathref01_Rows_0 (Tglidepathref01_Rows_0b ([l] ++ [nextW l]).length (encLL ([l] ++ [nextW l])) ([l] ++ [nextW l]).length) else exO (Xglidepathref01_Rows_0a (l.length, encI l))) = some r →
      Rglidepathref01_Rows_0 (Tglidepathref01_Rows_0a l.length (encI l)) = some r := by
    intro r hr
    refine Rglidepathref01_Rows_0a_of _ _ ?_
    unfold Bglidepathref01_Rows_0a
    simp only []
    rw [w64_in (n := (l.length : Int) - 1) (by omega), bif_eq]
    by_cases hz : (l.length : Int) - 1 = 0
    · rw [if_pos hz]
      rw [if_neg (fun h : hasN l => by have := h.1; omega)] at hr
      exact hr
    · rw [if_neg hz, bif_pos (by omega), show ((l.length : Int) - 1).toNat * 1 = l.length - 1 by omega]
      simp only [encI_get, get_getD 0 (show 0 < l.length by omega), get_getD 0 (show l.length - 1 < l.length by omega), Option.map_some, intC_int, bindO_val, sizeW_is _ (hw _ (getD_mem (l := l) (i := l.length - 1) (by omega))), sizeW_is _ (hw _ (getD_mem (l := l) (i := 0) (by omega)))]
      rw [bif_pos (by omega)]
      by_cases h : hasN l
      · have hh := h.2
        rw [bif_neg (by omega), show ((l.length : Int) - 1) = ((l.length - 1 : Nat) : Int) by omega]
        rw [Lglidepathref01_Rows_2b_of (refNext_a l l.length (encI l) (by omega) (by omega))]
        simp only [bindO_val, Sum.elim_inr, Sum.elim_inl]
        rw [if_pos h] at hr
        rw [← nextW_len]
        exact hr
      · have : ¬ absW (l.getD 0 0) < absW (l.getD (l.length - 1) 0) := fun hh => h ⟨by omega, hh⟩
        rw [bif_pos (by omega)]
        rw [if_neg h] at hr
        exact hr
  by_cases h : hasN l
  · rw [if_pos h] at first
    have hn' := h.1
    have := first _ (refRows_loopb n (nextW l) [l] (by rw [nextW_len]; omega) (by rw [nextW_len]; omega) (by omega) (by simp; omega) (nextW_wrds l))
    rw [show [l] ++ [nextW l] ++ moreF n (nextW l) = rowsW l by unfold rowsW; rw [hn]; simp only [moreF, if_pos h]; rfl] at this
    rw [Lglidepathref01_Rows_0b_of this]
    simp only [bindO_val, Sum.elim_inr, decide_true, cond_true]
  · rw [if_neg h] at first
    have := first _ rfl
    rw [Lglidepathref01_Rows_0a_of this]
    simp only [bindO_val, Sum.elim_inl]
    rw [show rowsW l = [l] by unfold rowsW; rw [hn]; simp only [moreF, if_neg h]]
    rfl

/-! ### Locked -/

def lastW (l : List Int) : List Int := (rowsW l).getD ((rowsW l).length - 1) []
def Lck (l : List Int) : Prop := (lastW l).length = 1 ∧ (lastW l).getD 0 0 ≠ 0
instance (l : List Int) : Decidable (Lck l) := by unfold Lck; infer_instance
theorem rowsW_pos (l : List Int) : 1 ≤ (rowsW l).length := by simp [rowsW]
theorem moreF_len : ∀ (n : Nat) (l : List Int), (moreF n l).length ≤ n
  | 0, _ => Nat.le_refl 0
  | n + 1, l => by
    unfold moreF
    split
    · have := moreF_len n (nextW l)
      simpa using this
    · simp
theorem rowsW_le (l : List Int) : (rowsW l).length ≤ l.length + 1 := by
  have := moreF_len l.length l
  simp [rowsW]
  exact this

theorem locked_tail (l : List Int) (hl : l.length ≤ 1000) {g : Option Bool} (hg : g = some (decide (Lck l))) :
    (bif (decide (((0 : Int) ≤ (w64 (((rowsW l).length : Int) - (1 : Int)))) ∧ ((w64 (((rowsW l).length : Int) - (1 : Int))) < ((rowsW l).length : Int)))) then
    bindO (Gv.listC ((encLL (rowsW l))[((Int.toNat (w64 (((rowsW l).length : Int) - (1 : Int)))) * 1)]?)) fun x1 =>
    bif ((x1.1 : Int) == (1 : Int)) then
      bif (decide (((0 : Int) ≤ (0 : Int)) ∧ ((0 : Int) < (x1.1 : Int)))) then
        bindO (Gv.intC Go.IntKind.i64 (x1.2[0]?)) fun x2 =>
        bif (x2 != (0 : Int)) then
          some true
        else some false
      else none
    else some false
  else none) = g := by
  have h1 := rowsW_pos l
  have h2 := rowsW_le l
  rw [w64_in (by omega), bif_pos (by omega), show (((rowsW l).length : Int) - 1).toNat * 1 = (rowsW l).length - 1 by omega, encLL_get, get_getD [] (by omega)]
  simp only [Option.map_some, listC_list, bindO_val, bif_eq]
  rw [hg]
  show (if ((lastW l).length : Int) = 1 then _ else _) = _
  by_cases h : (lastW l).length = 1
  · rw [if_pos (by omega)]
    have e : ((rowsW l).getD ((rowsW l).length - 1) []) = lastW l := rfl
    rw [e, bif_pos (by omega), encI_get, get_getD 0 (by omega)]
    simp only [Option.map_some, intC_int, bindO_val, bif_ne]
    by_cases h0 : (lastW l).getD 0 0 = 0
    · rw [if_pos h0, decide_eq_false (fun hc : Lck l => hc.2 h0)]
    · rw [if_neg h0, decide_eq_true (show Lck l from ⟨h, h0⟩)]
  · rw [if_neg (by omega), decide_eq_false (fun hc : Lck l => h hc.1)]

theorem isLocked_is (l : List Int) (h1 : 1 ≤ l.length) (h2 : l.length ≤ 1000) (hw : Wrds l) : Fpulse_isLocked [.list l.length (encI l)] = some (decide (Lck l)) := by
  refine Fpulse_isLocked_of _ _ ?_
  unfold tpulse_isLocked
  simp only [rowsOf_is l h1 h2 hw, bindO_val]
  exact locked_tail l h2 rfl

theorem refLocked_is (l : List Int) (h1 : 1 ≤ l.length) (h2 : l.length ≤ 1000) (hw : Wrds l) : Fglidepathref01_Locked [.list l.length (encI l)] = some (decide (Lck l)) := by
  refine Fglidepathref01_Locked_of _ _ ?_
  unfold tglidepathref01_Locked
  simp only [refRows_is l h1 h2 hw, bindO_val]
  exact locked_tail l h2 rfl

theorem poly_wrds {l : List Int} (h : polyE l = 0) : Wrds l := fun x hx => by
  have := (poly_ok h).2.2 x hx
  unfold Wrd
  omega

theorem lockRows_is (l : List Int) (hl : l.length < 4294967296) : Fpulse_LockRows [.list l.length (encI l)] = some (if polyE l ≠ 0 then ((0, []), polyE l) else (((rowsW l).length, encLL (rowsW l)), 0)) := by
  refine Fpulse_LockRows_of _ _ ?_
  unfold tpulse_LockRows
  simp only [polyError_is l hl, bindO_val, bif_ne]
  by_cases h : polyE l = 0
  · obtain ⟨k1, k2, _⟩ := poly_ok h
    simp only [h, if_true, ne_eq, not_true_eq_false, if_false, rowsOf_is l k1 (by omega) (poly_wrds h), bindO_val]
  · simp only [h, if_false, ne_eq, not_false_eq_true, if_true]

theorem isLocked2_is (l : List Int) (hl : l.length < 4294967296) : Fpulse_IsLocked [.list l.length (encI l)] = some (if polyE l ≠ 0 then (false, polyE l) else (decide (Lck l), 0)) := by
  refine Fpulse_IsLocked_of _ _ ?_
  unfold tpulse_IsLocked
  simp only [polyError_is l hl, bindO_val, bif_ne]
  by_cases h : polyE l = 0
  · obtain ⟨k1, k2, _⟩ := poly_ok h
    simp only [h, if_true, ne_eq, not_true_eq_false, if_false, isLocked_is l k1 (by omega) (poly_wrds h), bindO_val]
    by_cases hk : Lck l
    · rw [bif_pos hk, decide_eq_true hk]
    · rw [bif_neg hk, decide_eq_false hk]
  · simp only [h, if_false, ne_eq, not_false_eq_true, if_true]

/-! ### Margins -/

def sumW (a b : List Int) (g : Int) : List Int := tabI (fun k => w64 (a.getD k 0 + w64 (g * b.getD k 0))) a.length
theorem sumW_len (a b : List Int) (g : Int) : (sumW a b g).length = a.length := by simp [sumW]
def okW (a b : List Int) (g : Int) : Prop := polyE (sumW a b g) = 0 ∧ Lck (sumW a b g)
instance (a b : List Int) (g : Int) : Decidable (okW a b g) := by unfold okW; infer_instance

theorem lockedWith_loop (a b : List Int) (g : Int) (hab : a.length ≤ b.length) (ha : a.length ≤ 1000) : ∀ k, k ≤ a.length →
    Rpulse_isLockedWith_0 (Tpulse_isLockedWith_0a a.length (encI a) b.length (encI b) g a.length a.length k (encI (fillI (fun k => w64 (a.getD k 0 + w64 (g * b.getD k 0))) a.length k))) =
      exO (Xpulse_isLockedWith_0a (a.length, encI (sumW a b g))) := by
  refine up_ind _ ?_ ?_
  · refine Rpulse_isLockedWith_0a_of _ _ _ _ _ _ _ _ _ ?_
    unfold Bpulse_isLockedWith_0a
    rw [bif_neg (by omega), fillI_all]
    rfl
  · intro k hk ih
    refine Rpulse_isLockedWith_0a_of _ _ _ _ _ _ _ _ _ ?_
    unfold Bpulse_isLockedWith_0a
    rw [bif_pos (by omega), bif_pos (by omega)]
    simp only [Int.toNat_natCast, Nat.mul_one, encI_get, get_getD 0 (show k < a.length by omega), get_getD 0 (show k < b.length by omega), Option.map_some, intC_int, bindO_val]
    rw [bif_pos (by omega), bif_pos (by omega), bif_pos (by rw [encI_len, fillI_len _ (by omega)]; omega), w64_in (n := (k : Int) + 1) (by omega)]
    have := fillI_step (fun k => w64 (a.getD k 0 + w64 (g * b.getD k 0))) hk
    rw [Nat.mul_one] at this
    rw [this]
    exact ih

theorem lockedWith_is (a b : List Int) (g : Int) (hab : a.length ≤ b.length) (ha : a.length ≤ 1000) : Fpulse_isLockedWith [.list a.length (encI a), .list b.length (encI b), .int .i64 g] = some (decide (okW a b g)) := by
  refine Fpulse_isLockedWith_of _ _ _ _ _ ?_
  unfold tpulse_isLockedWith
  rw [bif_pos ⟨rfl, by omega, by simp only [big]; omega⟩, Int.toNat_natCast, rep_I]
  have := Lpulse_isLockedWith_0a_of (lockedWith_loop a b g hab ha 0 (by omega))
  rw [fillI_zero] at this
  have this : Lpulse_isLockedWith_0 (Tpulse_isLockedWith_0a a.length (encI a) b.length (encI b) g a.length a.length 0 (encI (List.replicate a.length 0))) = _ := this
  rw [this]
  simp only [bindO_val]
  have e : List.take (a.length * 1) (List.drop 0 (encI (sumW a b g))) = encI (sumW a b g) := by
    rw [List.drop_zero, List.take_of_length_le (by rw [encI_len, sumW_len]; omega)]
  rw [e]
  have f1 := polyError_is (sumW a b g) (by rw [sumW_len]; omega)
  rw [sumW_len] at f1
  rw [bif_pos (by rw [encI_len, sumW_len]; omega)]
  simp only [f1, bindO_val, bif_eq]
  by_cases hp : polyE (sumW a b g) = 0
  · obtain ⟨k1, k2, _⟩ := poly_ok hp
    have f2 := isLocked_is (sumW a b g) k1 (by omega) (poly_wrds hp)
    rw [sumW_len] at f2
    rw [if_pos hp, bif_pos (by rw [encI_len, sumW_len]; omega)]
    simp only [f2, bindO_val]
    by_cases hk : Lck (sumW a b g)
    · rw [bif_pos hk, decide_eq_true (show okW a b g from ⟨hp, hk⟩)]
    · rw [bif_neg hk, decide_eq_false (fun h : okW a b g => hk h.2)]
  · rw [if_neg hp, decide_eq_false (fun h : okW a b g => hp h.1)]

def mgF (a b : List Int) (most : Int) : Nat → Int → Int
  | 0, g => g
  | n + 1, g => if okW a b (g + 1) then mgF a b most n (g + 1) else g

theorem margin_loop (a b : List Int) (most : Int) (hab : a.length ≤ b.length) (ha : a.length ≤ 1000) (hm : most ≤ 1000) : ∀ (n : Nat) (g : Int), g + n = most → 0 ≤ g →
    Rpulse_MarginOf_0 (Tpulse_MarginOf_0a a.length (encI a) b.length (encI b) most g) = exO (Xpulse_MarginOf_0a (mgF a b most n g))
  | 0, g, h1, h2 => by
    refine Rpulse_MarginOf_0a_of _ _ _ _ _ _ ?_
    unfold Bpulse_MarginOf_0a
    rw [bif_neg (by omega)]
    rfl
  | n + 1, g, h1, h2 => by
    refine Rpulse_MarginOf_0a_of _ _ _ _ _ _ ?_
    unfold Bpulse_MarginOf_0a
    rw [bif_pos (by omega), w64_in (n := g + 1) (by omega)]
    simp only [lockedWith_is a b (g + 1) hab ha, bindO_val, mgF]
    by_cases h : okW a b (g + 1)
    · rw [bif_pos h, if_pos h]
      exact margin_loop a b most hab ha hm n (g + 1) (by omega) (by omega)
    · rw [bif_neg h, if_neg h]
      rfl

def mgE (a b : List Int) (most : Int) : Int := first4 (polyE a) (polyE b) (if a.length = b.length then 0 else 13) (rangeE most 0 60)
def mgR (a b : List Int) (most : Int) : Int × Int :=
  if mgE a b most ≠ 0 then (0, mgE a b most) else if Lck a then (mgF a b most most.toNat 0, 0) else (0, 18)
theorem mgE_ok {a b : List Int} {most : Int} (h : mgE a b most = 0) : polyE a = 0 ∧ polyE b = 0 ∧ a.length = b.length ∧ 0 ≤ most ∧ most ≤ 60 := by
  obtain ⟨k1, k2, k3, k4⟩ := firstError4_zero h
  refine ⟨k1, k2, ?_, ?_⟩
  · split at k3
    · assumption
    · cases k3
  · unfold rangeE at k4
    split at k4
    · cases k4
    · omega

theorem marginOf_is (a b : List Int) (most : Int) (ha : a.length < 4294967296) (hb : b.length < 4294967296) : Fpulse_MarginOf [.list a.length (encI a), .list b.length (encI b), .int .i64 most] = some (mgR a b most) := by
  refine Fpulse_MarginOf_of _ _ _ _ _ ?_
  unfold tpulse_MarginOf mgR
  simp only [polyError_is a ha, polyError_is b hb, errorIf_is, rangeError_is, firstError4_is, bindO_val, bif_ne]
  by_cases hl : a.length = b.length
  · rw [if_pos (by omega)]
    simp only [Bool.false_eq_true, if_false]
    rw [show first4 (polyE a) (polyE b) 0 (rangeE most 0 60) = mgE a b most by unfold mgE; rw [if_pos hl]]
    by_cases h : mgE a b most = 0
    · obtain ⟨p1, p2, p3, p4, p5⟩ := mgE_ok h
      obtain ⟨k1, k2, _⟩ := poly_ok p1
      simp only [h, if_true, ne_eq, not_true_eq_false, if_false, isLocked_is a k1 (by omega) (poly_wrds p1), bindO_val]
      by_cases hk : Lck a
      · rw [bif_pos hk, if_pos hk, Lpulse_MarginOf_0a_of (margin_loop a b most (by omega) (by omega) (by omega) most.toNat 0 (by omega) (by omega))]
        rfl
      · rw [bif_neg hk, if_neg hk]
    · rw [if_neg h, if_pos h]
  · rw [if_neg (by omega)]
    simp only [if_true]
    rw [show first4 (polyE a) (polyE b) 13 (rangeE most 0 60) = mgE a b most by unfold mgE; rw [if_neg hl]]
    have h : mgE a b most ≠ 0 := fun h => hl (mgE_ok h).2.2.1
    rw [if_neg h, if_pos h]

/-! The specification's margin -/

theorem refSum_loopb (a b : List Int) (g : Int) (hab : a.length ≤ b.length) (ha : a.length ≤ 1000) : ∀ k, k ≤ a.length →
    Rglidepathref01_Sum_0 (Tglidepathref01_Sum_0b a.length (encI a) b.length (encI b) g k (encI (tabI (fun k => w64 (a.getD k 0 + w64 (g * b.getD k 0))) k)) k k) =
      exO (Xglidepathref01_Sum_0b (a.length, encI (sumW a b g), a.length)) := by
  refine up_ind _ ?_ ?_
  · refine Rglidepathref01_Sum_0b_of _ _ _ _ _ _ _ _ _ ?_
    unfold Bglidepathref01_Sum_0b
    rw [bif_neg (by omega)]
    rfl
  · intro k hk ih
    refine Rglidepathref01_Sum_0b_of _ _ _ _ _ _ _ _ _ ?_
    unfold Bglidepathref01_Sum_0b
    rw [bif_pos (by omega), bif_pos (by omega)]
    simp only [Int.toNat_natCast, Nat.mul_one, encI_get, get_getD 0 (show k < a.length by omega), get_getD 0 (show k < b.length by omega), Option.map_some, intC_int, bindO_val]
    rw [bif_pos (by omega), bif_pos ⟨trivial, by simp only [big]; omega⟩, w64_in (n := (k : Int) + 1) (by omega), encI_snoc]
    rw [tabI_succ] at ih
    exact ih

theorem refSum_is (a b : List Int) (g : Int) (h1 : 1 ≤ a.length) (hab : a.length ≤ b.length) (ha : a.length ≤ 1000) : Fglidepathref01_Sum [.list a.length (encI a), .list b.length (encI b), .int .i64 g] = some ((sumW a b g).length, encI (sumW a b g)) := by
  refine Fglidepathref01_Sum_of _ _ _ _ _ ?_
  unfold tglidepathref01_Sum
  have hL : Rglidepathref01_Sum_0 (Tglidepathref01_Sum_0a a.length (encI a) b.length (encI b) g) = exO (Xglidepathref01_Sum_0b (a.length, encI (sumW a b g), a.length)) := by
    refine Rglidepathref01_Sum_0a_of _ _ _ _ _ ?_
    unfold Bglidepathref01_Sum_0a
    rw [bif_pos (by omega), bif_pos (by omega)]
    simp only [encI_get, get_getD 0 (show 0 < a.length by omega), get_getD 0 (show 0 < b.length by omega), Option.map_some, intC_int, bindO_val]
    rw [bif_pos (by omega)]
    exact refSum_loopb a b g hab ha 1 (by omega)
  rw [Lglidepathref01_Sum_0b_of hL]
  simp only [bindO_val, Sum.elim_inr, decide_true, cond_true, sumW_len]

theorem refMargin_loop (a b : List Int) (most : Int) (h1 : 1 ≤ a.length) (hab : a.length ≤ b.length) (ha : a.length ≤ 1000) (hm : most ≤ 1000) : ∀ (n : Nat) (g : Int), g + n = most → 0 ≤ g →
    ∃ x, (x = Xglidepathref01_Margin_0a (mgF a b most n g) ∨ x = Xglidepathref01_Margin_0b (mgF a b most n g)) ∧ Rglidepathref01_Margin_0 (Tglidepathref01_Margin_0a a.length (encI a) b.length (encI b) most g) = exO x
  | 0, g, h1, h2 => by
    refine ⟨_, .inr rfl, ?_⟩
    refine Rglidepathref01_Margin_0a_of _ _ _ _ _ _ ?_
    unfold Bglidepathref01_Margin_0a
    rw [bif_neg (by omega)]
    rfl
  | n + 1, g, h3, h4 => by
    have step : ∀ r, (if okW a b (g + 1) then Rglidepathref01_Margin_0 (Tglidepathref01_Margin_0a a.length (encI a) b.length (encI b) most (g + 1)) else exO (Xglidepathref01_Margin_0a g)) = some r → Rglidepathref01_Margin_0 (Tglidepathref01_Margin_0a a.length (encI a) b.length (encI b) most g) = some r := by
      intro r hr
      refine Rglidepathref01_Margin_0a_of _ _ _ _ _ _ ?_
      unfold Bglidepathref01_Margin_0a
      rw [bif_pos (by omega), w64_in (n := g + 1) (by omega)]
      simp only [refSum_is a b (g + 1) h1 hab ha, bindO_val, refPolyErr_is, bif_ne]
      by_cases hp : polyE (sumW a b (g + 1)) = 0
      · obtain ⟨k1, k2, _⟩ := poly_ok hp
        rw [if_pos hp]
        simp only [refLocked_is _ k1 (by omega) (poly_wrds hp), bindO_val]
        by_cases hk : Lck (sumW a b (g + 1))
        · rw [bif_pos hk]
          rw [if_pos (show okW a b (g + 1) from ⟨hp, hk⟩)] at hr
          exact hr
        · rw [bif_neg hk]
          rw [if_neg (fun h : okW a b (g + 1) => hk h.2)] at hr
          exact hr
      · rw [if_neg hp]
        rw [if_neg (fun h : okW a b (g + 1) => hp h.1)] at hr
        exact hr
    by_cases h : okW a b (g + 1)
    · obtain ⟨x, h5, h6⟩ := refMargin_loop a b most h1 hab ha hm n (g + 1) (by omega) (by omega)
      refine ⟨x, by simp only [mgF, if_pos h]; exact h5, ?_⟩
      rw [if_pos h] at step
      exact step _ h6
    · refine ⟨_, .inl rfl, ?_⟩
      rw [if_neg h] at step
      simp only [mgF, if_neg h]
      exact step _ rfl

theorem refMargin_is (a b : List Int) (most : Int) (h1 : 1 ≤ a.length) (hab : a.length ≤ b.length) (ha : a.length ≤ 1000) (hm : 0 ≤ most ∧ most ≤ 1000) : Fglidepathref01_Margin [.list a.length (encI a), .list b.length (encI b), .int .i64 most] = some (mgF a b most most.toNat 0) := by
  refine Fglidepathref01_Margin_of _ _ _ _ _ ?_
  unfold tglidepathref01_Margin
  obtain ⟨x, hx, hL⟩ := refMargin_loop a b most h1 hab ha hm.2 most.toNat 0 (by omega) (by omega)
  rcases hx with rfl | rfl
  · rw [Lglidepathref01_Margin_0a_of hL]
    rfl
  · rw [Lglidepathref01_Margin_0b_of hL]
    rfl

theorem refMarginErr_is (a b : List Int) (most : Int) : Fglidepathref01_MarginErr [.list a.length (encI a), .list b.length (encI b), .int .i64 most] = some (mgR a b most).2 := by
  refine Fglidepathref01_MarginErr_of _ _ _ _ _ ?_
  unfold tglidepathref01_MarginErr mgR mgE first4
  simp only [refPolyErr_is, within_is, bindO_val, bif_ne]
  by_cases h1 : polyE a = 0
  · by_cases h2 : polyE b = 0
    · by_cases h3 : a.length = b.length
      · by_cases h4 : 0 ≤ most ∧ most ≤ 60
        · obtain ⟨k1, k2, _⟩ := poly_ok h1
          have h3' : (a.length : Int) = b.length := by omega
          have hR : (if (if polyE a ≠ 0 then polyE a else if polyE b ≠ 0 then polyE b else if (if a.length = b.length then (0 : Int) else 13) ≠ 0 then (if a.length = b.length then (0 : Int) else 13) else rangeE most 0 60) ≠ 0 then ((0 : Int), (if polyE a ≠ 0 then polyE a else if polyE b ≠ 0 then polyE b else if (if a.length = b.length then (0 : Int) else 13) ≠ 0 then (if a.length = b.length then (0 : Int) else 13) else rangeE most 0 60)) else if Lck a then (mgF a b most most.toNat 0, 0) else (0, 18)) = if Lck a then (mgF a b most most.toNat 0, 0) else (0, 18) := by
            simp [h1, h2, h3, rangeE_in h4]
          rw [hR, if_pos h1, if_pos h2, if_pos h3', bif_pos h4]
          simp only [refLocked_is a k1 (by omega) (poly_wrds h1), bindO_val]
          by_cases hk : Lck a
          · rw [bif_pos hk, if_pos hk]
          · rw [bif_neg hk, if_neg hk]
        · have h3' : (a.length : Int) = b.length := by omega
          rw [if_pos h1, if_pos h2, if_pos h3', bif_neg h4]
          simp [h1, h2, h3, rangeE_out h4]
      · have h3' : ¬ (a.length : Int) = b.length := by omega
        simp [h1, h2, h3, h3']
    · simp [h1, h2]
  · simp [h1]

/-! ### The law -/

theorem lists_loop (l : List (List Int)) (hl : l.length < 4294967296) (hr : ∀ r ∈ l, r.length < 4294967296) : ∀ i, i ≤ l.length →
    Rglidepathbase_Lists_0 (Tglidepathbase_Lists_0a l.length (encLL l) l.length (encLL l) i) = exO (Xglidepathbase_Lists_0b ()) := by
  refine up_ind _ ?_ ?_
  · refine Rglidepathbase_Lists_0a_of _ _ _ _ _ ?_
    unfold Bglidepathbase_Lists_0a
    rw [bif_neg (by omega)]
    rfl
  · intro i hi ih
    obtain ⟨x, hx, hd⟩ := get_drop hi
    refine Rglidepathbase_Lists_0a_of _ _ _ _ _ ?_
    unfold Bglidepathbase_Lists_0a
    rw [bif_pos (by omega), bif_pos (by omega)]
    simp only [Int.toNat_natCast, Nat.mul_one, encLL_get, hx, Option.map_some, listC_list, bindO_val, ints_refl x (hr x (List.mem_of_getElem? hx))]
    rw [bif_pos (by omega), w64_in (by omega)]
    exact ih

theorem lists_refl (l : List (List Int)) (hl : l.length < 4294967296) (hr : ∀ r ∈ l, r.length < 4294967296) : Fglidepathbase_Lists [.list l.length (encLL l), .list l.length (encLL l)] = some true := by
  refine Fglidepathbase_Lists_of _ _ _ _ ?_
  unfold tglidepathbase_Lists
  rw [bif_ne, if_pos rfl]
  have := Lglidepathbase_Lists_0b_of (lists_loop l hl hr 0 (by omega))
  rw [show ((0 : Nat) : Int) = 0 from rfl] at this
  rw [this]
  rfl

theorem moreF_mem : ∀ (n : Nat) (l : List Int), ∀ r ∈ moreF n l, r.length ≤ l.length
  | 0, _, r, h => by simp [moreF] at h
  | n + 1, l, r, h => by
    unfold moreF at h
    split at h
    · rcases List.mem_cons.1 h with rfl | h
      · rw [nextW_len]; omega
      · have := moreF_mem n (nextW l) r h
        rw [nextW_len] at this
        omega
    · simp at h
theorem rowsW_mem (l : List Int) : ∀ r ∈ rowsW l, r.length ≤ l.length := fun r h => by
  rcases List.mem_cons.1 h with rfl | h
  · exact Nat.le_refl _
  · exact moreF_mem _ _ r h

section
variable (a b : List Int) (most : Int)

theorem lk32 : Rglidepathlaw01_PulseLocks_1000032 (Tglidepathlaw01_PulseLocks_1000032a a.length (encI a) b.length (encI b) most) =
    if a.length ≤ 6 ∧ b.length ≤ 6 then exO (Xglidepathlaw01_PulseLocks_1000032b (a.length, encI a, b.length, encI b, most)) else exO (Xglidepathlaw01_PulseLocks_1000032a ()) := by
  by_cases h : a.length ≤ 6 ∧ b.length ≤ 6
  · rw [if_pos h]
    refine Rglidepathlaw01_PulseLocks_1000032a_of _ _ _ _ _ ?_
    unfold Bglidepathlaw01_PulseLocks_1000032a
    rw [bif_neg (by omega), bif_neg (by omega)]
    rfl
  · rw [if_neg h]
    refine Rglidepathlaw01_PulseLocks_1000032a_of _ _ _ _ _ ?_
    unfold Bglidepathlaw01_PulseLocks_1000032a
    by_cases h1 : a.length ≤ 6
    · rw [bif_neg (by omega), bif_pos (by omega)]
      rfl
    · rw [bif_pos (by omega)]
      rfl

def lrR : (Nat × List PV) × Int := if polyE a ≠ 0 then ((0, []), polyE a) else (((rowsW a).length, encLL (rowsW a)), 0)
def ilR : Bool × Int := if polyE a ≠ 0 then (false, polyE a) else (decide (Lck a), 0)

theorem lk19 (ha : a.length ≤ 6) (b8 : Bool) (hb : (ilR a).1 = b8) (i10 i11 : Int) :
    Rglidepathlaw01_PulseLocks_1000019 (Tglidepathlaw01_PulseLocks_1000019a a.length (encI a) b.length (encI b) most (lrR a).1.1 (lrR a).1.2 (lrR a).2 b8 (ilR a).2 i10 i11) =
    exO (Xglidepathlaw01_PulseLocks_1000019b (a.length, encI a, b.length, encI b, most, i10, i11)) := by
  refine Rglidepathlaw01_PulseLocks_1000019a_of _ _ _ _ _ _ _ _ _ _ _ _ ?_
  unfold Bglidepathlaw01_PulseLocks_1000019a
  simp only [refPolyErr_is, bindO_val, bif_ne, bif_eq]
  unfold lrR ilR at *
  by_cases h : polyE a = 0
  · obtain ⟨k1, k2, _⟩ := poly_ok h
    have hw := poly_wrds h
    have hm := rowsW_mem a
    have hn := rowsW_le a
    have f2 := lists_refl (rowsW a) (by omega) (fun r hr => by have := hm r hr; omega)
    simp only [h, ne_eq, not_true_eq_false, if_false, if_true, refRows_is a k1 (by omega) hw, refLocked_is a k1 (by omega) hw, f2, bindO_val, cond_true] at *
    subst hb
    by_cases hk : Lck a
    · rw [bif_pos hk, bif_pos hk]; rfl
    · rw [bif_neg hk, bif_neg hk]; rfl
  · simp only [h, ne_eq, not_false_eq_true, if_false, if_true] at *
    subst hb
    rw [show ((0 : Nat) : Int) = 0 from rfl, if_pos rfl]
    rfl

theorem locksLaw : Fglidepathlaw01_PulseLocks [.list a.length (encI a), .list b.length (encI b), .int .i64 most] = some true := by
  refine Fglidepathlaw01_PulseLocks_of _ _ _ _ _ ?_
  unfold tglidepathlaw01_PulseLocks
  simp only [awake_is, bindO_val, cond_true]
  have p32 := lk32 a b most
  by_cases hf : a.length ≤ 6 ∧ b.length ≤ 6
  · rw [if_pos hf] at p32
    have L32 := Lglidepathlaw01_PulseLocks_1000032b_of p32
    have c1 := lockRows_is a (by omega)
    have c2 := isLocked2_is a (by omega)
    rw [show (if polyE a ≠ 0 then ((0, []), polyE a) else (((rowsW a).length, encLL (rowsW a)), 0)) = lrR a from rfl] at c1
    rw [show (if polyE a ≠ 0 then (false, polyE a) else (decide (Lck a), 0)) = ilR a from rfl] at c2
    simp only [L32, bindO_val, Sum.elim_inr, copyI_is a (by omega), copyI_is b (by omega), c1, c2, marginOf_is a b most (by omega) (by omega)]
    have q : ∀ b8, (ilR a).1 = b8 → _ := fun b8 hb => Lglidepathlaw01_PulseLocks_1000019b_of (lk19 a b most hf.1 b8 hb (mgR a b most).1 (mgR a b most).2)
    have tail : (bindO (Fn env 85 (Gv.RSh.one (Gv.CK.int Go.IntKind.i64)) [.list a.length (encI a), .list b.length (encI b), .int .i64 most]) fun (y12 : (Int)) =>
          bif (y12 != (0 : Int)) then
            bif ((mgR a b most).2 == y12) then
              bif ((mgR a b most).1 == (0 : Int)) then
                some true
              else some false
            else some false
          else bif ((mgR a b most).2 == (0 : Int)) then
            bindO (Fn env 86 (Gv.RSh.one (Gv.CK.int Go.IntKind.i64)) [.list a.length (encI a), .list b.length (encI b), .int .i64 most]) fun (y13 : (Int)) =>
            bif ((mgR a b most).1 == y13) then
              some true
            else some false
          else some false) = some true := by
      have e1 := refMarginErr_is a b most
      simp only [e1, bindO_val, bif_ne, bif_eq, if_true]
      by_cases hE : (mgR a b most).2 = 0
      · rw [if_pos hE, if_pos hE]
        have hg : mgE a b most = 0 ∧ Lck a := by
          unfold mgR at hE
          split at hE
          · rename_i h1; exact absurd hE h1
          · rename_i h1
            split at hE
            · rename_i h2; exact ⟨by simpa using h1, h2⟩
            · cases hE
        obtain ⟨p1, p2, p3, p4, p5⟩ := mgE_ok hg.1
        obtain ⟨k1, k2, _⟩ := poly_ok p1
        have e2 := refMargin_is a b most k1 (by omega) (by omega) ⟨p4, by omega⟩
        simp only [e2, bindO_val]
        rw [show (mgR a b most).1 = mgF a b most most.toNat 0 by unfold mgR; rw [if_neg (by simpa using hg.1), if_pos hg.2], if_pos rfl]
      · rw [if_neg hE]
        rw [show (mgR a b most).1 = 0 by
          unfold mgR at hE ⊢
          split
          · rfl
          · split
            · rename_i h1 h2; rw [if_neg h1, if_pos h2] at hE; exact absurd rfl hE
            · rfl, if_pos rfl]
    cases hb : (ilR a).1 with
    | true =>
      simp only [cond_true, q true hb, bindO_val, Sum.elim_inr]
      exact tail
    | false =>
      simp only [cond_false, q false hb, bindO_val, Sum.elim_inr]
      exact tail
  · rw [if_neg hf] at p32
    have L32 := Lglidepathlaw01_PulseLocks_1000032a_of p32
    simp only [L32, bindO_val, Sum.elim_inl]
end
end Gv
