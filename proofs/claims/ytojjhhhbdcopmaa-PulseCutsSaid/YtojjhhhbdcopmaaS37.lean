import Derived.Test.YtojjhhhbdcopmaaP20
import Derived.Test.YtojjhhhbdcopmaaS2
import Derived.Test.YtojjhhhbdcopmaaGvYc
import Derived.Test.YtojjhhhbdcopmaaP23
import Derived.Test.YtojjhhhbdcopmaaP24
import Derived.Test.YtojjhhhbdcopmaaP21
import Derived.Test.YtojjhhhbdcopmaaFW0
import Derived.Test.YtojjhhhbdcopmaaP27
import Derived.Test.YtojjhhhbdcopmaaP28
import Derived.Test.YtojjhhhbdcopmaaGvYi

/- Sums: concatenation, copies, correlations from an index on. -/
namespace Gv
open Go
set_option maxRecDepth 100000

def encB (bs : List (List ZZ)) : List PV := bs.map fun l => .list l.length (encG l)
theorem encB_get (bs : List (List ZZ)) (i : Nat) : (encB bs)[i]? = bs[i]?.map fun l => PV.list l.length (encG l) := by simp [encB]
end Gv

/- slices.Concat of lists of integers: all of them, one after the other. -/
namespace Gv
open Go


/-- How many they are. -/
def lensG (l : List (List ZZ)) : Nat := (l.map List.length).sum

theorem lensG_drop {l : List (List ZZ)} {i : Nat} {r : List ZZ} (h : l.drop i = r :: l.drop (i + 1)) : lensG (l.drop i) = r.length + lensG (l.drop (i + 1)) := by
  rw [h]; simp [lensG]

theorem concatG_sum (l : List (List ZZ)) (hl : l.length ≤ 1000000) (hs : lensG l ≤ 1000000) : ∀ i, i ≤ l.length → ∀ a : Nat, a + lensG (l.drop i) ≤ 1000000 →
    RconcatG_0 (TconcatG_0a l.length (encB l) (a : Int) l.length (encB l) (l.length : Int) (i : Int)) = exO (XconcatG_0a (l.length, encB l, ((a + lensG (l.drop i) : Nat) : Int))) := by
  refine up_ind _ ?_ ?_
  · intro a ha
    refine RconcatG_0a_of _ _ _ _ _ _ _ ?_
    unfold BconcatG_0a
    rw [bif_neg (by omega), List.drop_length]
    simp [lensG]
    rfl
  · intro i hi ih a ha
    obtain ⟨r, h1, h2⟩ := get_drop hi
    have h3 := lensG_drop h2
    refine RconcatG_0a_of _ _ _ _ _ _ _ ?_
    unfold BconcatG_0a
    rw [bif_pos (by omega), bif_pos (by omega), show (i : Int).toNat * 1 = i by omega, encB_get, h1]
    simp only [Option.map_some, listC_list, bindO_val]
    rw [w64_in (by omega), w64_in (by omega), bif_neg (by omega)]
    have := ih (a + r.length) (by omega)
    rw [show ((a + r.length : Nat) : Int) = (a : Int) + (r.length : Int) by omega, show a + r.length + lensG (l.drop (i + 1)) = a + lensG (l.drop i) by omega] at this
    exact this

theorem lensG_flat (l : List (List ZZ)) : lensG l = l.flatten.length := by simp [lensG]

theorem concatG_nil (l : List (List ZZ)) (hl : l.length ≤ 1000000) (hs : lensG l = 0) : ∀ i, i ≤ l.length →
    RconcatG_2 (TconcatG_2a l.length (encB l) (l.length : Int) (i : Int)) = exO (XconcatG_2a ()) := by
  refine up_ind _ ?_ ?_
  · refine RconcatG_2a_of _ _ _ _ ?_
    unfold BconcatG_2a
    rw [bif_neg (by omega)]
    rfl
  · intro i hi ih
    obtain ⟨r, h1, h2⟩ := get_drop hi
    have h3 : r.length = 0 := by
      rw [lensG_flat] at hs
      rw [List.flatten_eq_nil_iff.1 (List.length_eq_zero_iff.1 hs) r (List.mem_of_getElem? h1)]
      rfl
    refine RconcatG_2a_of _ _ _ _ ?_
    unfold BconcatG_2a
    rw [bif_pos (by omega), bif_pos (by omega), show (i : Int).toNat * 1 = i by omega, encB_get, h1]
    simp only [Option.map_some, listC_list, bindO_val]
    rw [bif_pos h3, w64_in (by omega)]
    exact ih

theorem concatG_all (l : List (List ZZ)) (hl : l.length ≤ 1000000) : ∀ i, i ≤ l.length → ∀ acc : List ZZ, acc.length + lensG (l.drop i) ≤ 1000000 →
    RconcatG_2 (TconcatG_2c acc.length (encG acc) l.length (encB l) (l.length : Int) (i : Int) acc.length) =
      exO (XconcatG_2c ((acc ++ (l.drop i).flatten).length, encG (acc ++ (l.drop i).flatten), (acc ++ (l.drop i).flatten).length)) := by
  refine up_ind _ ?_ ?_
  · intro acc ha
    refine RconcatG_2c_of _ _ _ _ _ _ _ ?_
    unfold BconcatG_2c
    rw [bif_neg (by omega), List.drop_length, List.flatten_nil, List.append_nil]
    rfl
  · intro i hi ih acc ha
    obtain ⟨r, h1, h2⟩ := get_drop hi
    have h3 := lensG_drop h2
    have he : acc ++ (l.drop i).flatten = (acc ++ r) ++ (l.drop (i + 1)).flatten := by rw [h2]; simp
    have next := ih (acc ++ r) (by rw [List.length_append]; omega)
    rw [← he, List.length_append, encG_app acc r] at next
    refine RconcatG_2c_of _ _ _ _ _ _ _ ?_
    unfold BconcatG_2c
    rw [bif_pos (by omega), bif_pos (by omega), show (i : Int).toNat * 1 = i by omega, encB_get, h1]
    simp only [Option.map_some, listC_list, bindO_val]
    rw [w64_in (by omega)]
    by_cases h0 : r.length = 0
    · have hr : r = [] := List.length_eq_zero_iff.1 h0
      subst hr
      rw [bif_pos h0]
      simp at next ⊢
      exact next
    · rw [bif_neg h0, bif_pos (by rw [encG_len]), bif_pos ⟨trivial, by unfold big; omega⟩]
      exact next

theorem concatG_is (l : List (List ZZ)) (hl : l.length ≤ 1000000) (hs : l.flatten.length ≤ 1000000) : FconcatG [.list l.length (encB l)] = some (l.flatten.length, encG l.flatten) := by
  have hs' := lensG_flat l
  refine FconcatG_of _ _ ?_
  have h1 := concatG_sum l hl (by omega) 0 (Nat.zero_le _) 0 (by simp; omega)
  simp only [List.drop_zero, Nat.zero_add] at h1
  unfold tconcatG
  rw [show (0 : Int) = ((0 : Nat) : Int) from rfl, LconcatG_0a_of h1, bindO_val]
  simp only
  by_cases h0 : lensG l = 0
  · have h2 := concatG_nil l hl h0 0 (Nat.zero_le _)
    rw [bif_pos (by omega), LconcatG_2a_of h2, bindO_val]
    have : l.flatten = [] := List.length_eq_zero_iff.1 (by omega)
    simp [this]
  · have h2 := concatG_all l hl 0 (Nat.zero_le _) [] (by simp; omega)
    simp only [List.drop_zero, List.nil_append, List.length_nil] at h2
    rw [bif_neg (by omega), bif_pos (by unfold big; omega)]
    rw [show ([] : List PV) = encG [] from rfl, LconcatG_2c_of h2, bindO_val]
    simp
end Gv


namespace Gv
open Go
set_option maxRecDepth 100000

theorem clone_is (l : List ZZ) (hl : l.length ≤ 1000000) : Fn env 118 (.one .list) [.list l.length (encG l)] = some (l.length, encG l) :=
  prim_fn rfl ⟨encG_len l, by unfold big; omega⟩

/-! Correlations of what is new -/
def corrF (l : List ZZ) (lag from' : Nat) : ZZ := sumC ((l.zip (l.drop lag)).drop (from' - lag)) (0, 0)
theorem corrFrom_is (l : List ZZ) (lag from' : Nat) (hl : l.length ≤ 1000) (hg : lag ≤ 1000) (hf : from' ≤ l.length) : Fpulse_correlation [.list l.length (encG l), .int .i64 lag, .int .i64 from'] = some (corrF l lag from') := by
  refine Fpulse_correlation_of _ _ _ _ ?_
  unfold tpulse_correlation
  have hz := zip_len l lag
  by_cases h : l.length < lag
  · have h1 := Lpulse_correlation_0a_of (corr_loop l lag hl hg 0 (by omega) (0, 0))
    rw [if_neg (by omega)]
    have h1 : Lpulse_correlation_0 (Tpulse_correlation_0a l.length (encG l) lag lag 0 0) = _ := h1
    rw [h1]
    unfold corrF
    rw [List.drop_eq_nil_of_le (by omega), List.drop_eq_nil_of_le (by omega)]
    rfl
  · have h1 := Lpulse_correlation_0a_of (corr_loop l lag hl hg (from' - lag) (by omega) (0, 0))
    have e : (if (from' : Int) > lag then (from' : Int) else lag) = ((lag + (from' - lag) : Nat) : Int) := by
      split <;> omega
    rw [e]
    have h1 : Lpulse_correlation_0 (Tpulse_correlation_0a l.length (encG l) lag ((lag + (from' - lag) : Nat) : Int) 0 0) = _ := h1
    rw [h1]
    rfl

/-! All lags, one after the other -/
def enc3 (f : Nat → ZZ) (j : Nat) : List PV := [.int .i64 (j : Int), .int .i64 (f j).1, .int .i64 (f j).2]
def en3 (f : Nat → ZZ) (n : Nat) : List PV := (List.range n).flatMap (enc3 f)
theorem en3_len (f : Nat → ZZ) (n : Nat) : (en3 f n).length = n * 3 := by
  unfold en3; rw [flat_len (enc3 f) 3 (fun _ => rfl)]; simp
theorem en3_succ (f : Nat → ZZ) (n : Nat) : en3 f (n + 1) = en3 f n ++ [.int .i64 (n : Int), .int .i64 (f n).1, .int .i64 (f n).2] := by
  simp [en3, List.range_succ, enc3]
theorem en3_take (f : Nat → ZZ) {n k : Nat} (h : k ≤ n) : (en3 f n).take (k * 3) = en3 f k := by
  unfold en3
  rw [flat_take (enc3 f) 3 (fun _ => rfl), List.take_range, Nat.min_eq_left h]
theorem en3_get (f : Nat → ZZ) {n i j : Nat} (h : i < n) (hj : j < 3) : (en3 f n)[i * 3 + j]? = (enc3 f i)[j]? := by
  unfold en3
  rw [flat_get (enc3 f) 3 (fun _ => rfl) _ _ _ hj, List.getElem?_range h]
  rfl

theorem corrs_loop (l : List ZZ) (a from' : Nat) (hl : l.length ≤ 1000) (ha : a ≤ 1000) (hf : from' ≤ l.length) (k : Nat) : ∀ i, i ≤ a → i ≤ k →
    Rpulse_corrs_1_0 (Tpulse_corrs_1_0a l.length (encG l) from' a i [none, some 2] k i (en3 (fun j => corrF l j from') i)) =
      if k < a then exO (Xpulse_corrs_1_0a ([none, some 2], k, k + 1, en3 (fun j => corrF l j from') (k + 1))) else exO (Xpulse_corrs_1_0b ([none, some 2], k, a, en3 (fun j => corrF l j from') a)) := by
  refine up_ind _ ?_ ?_
  · intro hk
    rw [if_neg (by omega)]
    refine Rpulse_corrs_1_0a_of _ _ _ _ _ _ _ _ _ ?_
    unfold Bpulse_corrs_1_0a
    rw [bif_neg (by omega)]
    rfl
  · intro i hi ih hk
    obtain ⟨r, hr⟩ : ∃ r, (if k < a then exO (Xpulse_corrs_1_0a ([none, some 2], k, k + 1, en3 (fun j => corrF l j from') (k + 1))) else exO (Xpulse_corrs_1_0b ([none, some 2], k, a, en3 (fun j => corrF l j from') a))) = some r := by
      split <;> exact ⟨_, rfl⟩
    rw [hr]
    refine Rpulse_corrs_1_0a_of _ _ _ _ _ _ _ _ _ ?_
    unfold Bpulse_corrs_1_0a
    rw [bif_pos (by omega)]
    simp only [corrFrom_is l i from' hl (by omega) hf, bindO_val]
    rw [bif_pos hk, show shapeOK [none, some 2] [PV.int IntKind.i64 (i : Int), encR (RSh.agg [CK.int IntKind.i64, CK.int IntKind.i64]) (corrF l i from')] = true from rfl, cond_true]
    have e := en3_succ (fun j => corrF l j from') i
    rw [← e]
    by_cases he : i = k
    · subst he
      rw [show (i != i) = false from by simp, cond_false]
      rw [if_pos hi] at hr
      exact hr
    · rw [show (i != k) = true from by simp [he], cond_true, w64_in (by omega)]
      rw [← hr]
      exact ih (by omega)

theorem corrsIt_is (l : List ZZ) (a from' : Nat) (hl : l.length ≤ 1000) (ha : a ≤ 1000) (hf : from' ≤ l.length) : Fn env 146 (.one .list) [.it [none, some 2] 0, .imm [.int .i64 a] 0, .imm [.list l.length (encG l)] 0, .imm [.int .i64 from'] 0] = some (a, en3 (fun j => corrF l j from') a) := by
  refine it_of (by simp only [big]; omega) (by rw [en3_len]; rfl) fun k hk => ?_
  refine Fpulse_corrs_1_of _ _ _ _ _ ?_
  unfold tpulse_corrs_1
  have h := corrs_loop l a from' hl ha hf k 0 (by omega) (by omega)
  rw [show en3 (fun j => corrF l j from') 0 = [] from rfl, show ((0 : Nat) : Int) = 0 from rfl] at h
  rw [show min (k + 1) a * shSize [none, some 2] = min (k + 1) a * 3 from rfl, en3_take _ (Nat.min_le_right _ _)]
  by_cases hc : k < a
  · rw [if_pos hc] at h
    have l := Lpulse_corrs_1_0a_of h
    simp only [l, bindO_val, Sum.elim_inl]
    rw [Nat.min_eq_left (by omega)]
  · rw [if_neg hc] at h
    have l := Lpulse_corrs_1_0b_of h
    simp only [l, bindO_val, Sum.elim_inr]
    rw [Nat.min_eq_right (by omega)]

/-! Which sums are valid -/
def mnC (a : List ZZ) (c : Int) : Int := if (a.length : Int) - 1 < c then (a.length : Int) - 1 else c
def smP (a t : List ZZ) (c : Int) : Int × Int :=
  if (listE 12 1000000000000 a).2 ≠ 0 then listE 12 1000000000000 a
  else if both (rangeE c 0 1000000000000) (if (t.length : Int) ≠ mnC a c then 10 else 0) ≠ 0 then (0, both (rangeE c 0 1000000000000) (if (t.length : Int) ≠ mnC a c then 10 else 0))
  else (findE (gaussE 1000) t 0).getD (0, 0)
def smE (a t : List ZZ) (c : Int) : Int := (smP a t c).2
theorem checkSum_is (a t : List ZZ) (c : Int) (ha : a.length < 4294967296) (ht : t.length < 4294967296) : Fpulse_CheckSum [.agg [.list a.length (encG a), .list t.length (encG t), .int .i64 c]] = some (smP a t c) := by
  refine Fpulse_CheckSum_of _ _ _ _ _ ?_
  unfold tpulse_CheckSum smP
  simp only [listG_is 12 1000000000000 (by omega) a ha, bindO_val, rangeError_is, errorIf_is, firstError2_is, itemG_is 1000 (by omega) t ht, bif_ne]
  rw [w64_in (n := (a.length : Int) - 1) (by omega), show (if (a.length : Int) - 1 < c then (a.length : Int) - 1 else c) = mnC a c from rfl]
  by_cases h1 : (listE 12 1000000000000 a).2 = 0
  · rw [if_pos h1, if_neg (show ¬ (listE 12 1000000000000 a).2 ≠ 0 by omega)]
    by_cases h2 : (t.length : Int) = mnC a c
    · rw [if_pos h2, if_neg (show ¬ (t.length : Int) ≠ mnC a c by omega)]
      simp only [Bool.false_eq_true, if_false]
      by_cases h3 : both (rangeE c 0 1000000000000) 0 = 0
      · rw [if_pos h3, if_neg (by simpa using h3)]
      · rw [if_neg h3, if_pos h3]
    · rw [if_neg h2, if_pos h2]
      simp only [if_true]
      by_cases h3 : both (rangeE c 0 1000000000000) 10 = 0
      · rw [if_pos h3, if_neg (by simpa using h3)]
      · rw [if_neg h3, if_pos h3]
  · rw [if_neg h1, if_pos h1]
theorem sumError_is (a t : List ZZ) (c : Int) (ha : a.length < 4294967296) (ht : t.length < 4294967296) : Fpulse_sumError [.agg [.list a.length (encG a), .list t.length (encG t), .int .i64 c]] = some (smE a t c) := by
  refine Fpulse_sumError_of _ _ _ _ _ ?_
  unfold tpulse_sumError
  simp only [checkSum_is a t c ha ht, bindO_val]
  rfl
end Gv

/- Which sums are valid, by the specification; copies and comparisons of sums. -/
namespace Gv
open Go
set_option maxRecDepth 100000

section
variable (a t : List ZZ) (c : Int)
theorem refSum0_loop (hl : a.length < 4294967296) : ∀ i, i ≤ a.length →
    Rglidepathref01_CheckSum_0 (Tglidepathref01_CheckSum_0a i a.length (encG a) t.length (encG t) c) =
      exO (XLglidepathref01_CheckSum_0.fn (match findE (gaussE 1000000000000) (a.drop i) i with | some p => .inl p.1 | none => .inr (a.length, encG a, t.length, encG t, c))) := by
  refine up_ind _ ?_ ?_
  · refine Rglidepathref01_CheckSum_0a_of _ _ _ _ _ _ ?_
    unfold Bglidepathref01_CheckSum_0a
    rw [bif_neg (by omega), List.drop_length]
    rfl
  · intro i hi ih
    refine Rglidepathref01_CheckSum_0a_of _ _ _ _ _ _ ?_
    unfold Bglidepathref01_CheckSum_0a
    obtain ⟨x, hx, hd⟩ := get_drop hi
    rw [bif_pos (by omega), bif_pos (by omega)]
    simp only [Int.toNat_natCast, Nat.mul_one, encG_0, encG_1, hx, Option.map_some, intC_int, bindO_val, isGauss_is x 1000000000000 (by omega)]
    rw [hd, w64_in (by omega)]
    by_cases he : gaussE 1000000000000 x = 0
    · rw [bif_pos he]
      simp only [findE, he, ne_eq, not_true_eq_false, if_false]
      exact ih
    · rw [bif_neg he]
      simp only [findE, ne_eq, he, not_false_eq_true, if_true]
      rfl
theorem refSum2_loop (hl : t.length < 4294967296) : ∀ i, i ≤ t.length →
    Rglidepathref01_CheckSum_2 (Tglidepathref01_CheckSum_2a i a.length (encG a) t.length (encG t) c) =
      exO (XLglidepathref01_CheckSum_2.fn (match findE (gaussE 1000) (t.drop i) i with | some p => .inl p.1 | none => .inr (a.length, encG a, t.length, encG t, c))) := by
  refine up_ind _ ?_ ?_
  · refine Rglidepathref01_CheckSum_2a_of _ _ _ _ _ _ ?_
    unfold Bglidepathref01_CheckSum_2a
    rw [bif_neg (by omega), List.drop_length]
    rfl
  · intro i hi ih
    refine Rglidepathref01_CheckSum_2a_of _ _ _ _ _ _ ?_
    unfold Bglidepathref01_CheckSum_2a
    obtain ⟨x, hx, hd⟩ := get_drop hi
    rw [bif_pos (by omega), bif_pos (by omega)]
    simp only [Int.toNat_natCast, Nat.mul_one, encG_0, encG_1, hx, Option.map_some, intC_int, bindO_val, isGauss_is x 1000 (by omega)]
    rw [hd, w64_in (by omega)]
    by_cases he : gaussE 1000 x = 0
    · rw [bif_pos he]
      simp only [findE, he, ne_eq, not_true_eq_false, if_false]
      exact ih
    · rw [bif_neg he]
      simp only [findE, ne_eq, he, not_false_eq_true, if_true]
      rfl
theorem refCheckSum_is (ht : t.length < 4294967296) : Fglidepathref01_CheckSum [.agg [.list a.length (encG a), .list t.length (encG t), .int .i64 c]] = some (smP a t c) := by
  refine Fglidepathref01_CheckSum_of _ _ _ _ _ ?_
  unfold tglidepathref01_CheckSum smP listE
  rw [bif_eq]
  by_cases h1 : a.length = 0
  · simp [h1]
  · rw [if_neg (by omega), if_neg h1]
    by_cases h2 : (12 : Int) < a.length
    · rw [bif_pos (by omega), if_pos h2]
      simp
    · rw [bif_neg (by omega), if_neg h2]
      have := lpO_of Iglidepathref01_CheckSum_0 XIglidepathref01_CheckSum_0 (refSum0_loop a t c (by omega) 0 (by omega))
      have this : Lglidepathref01_CheckSum_0 (Tglidepathref01_CheckSum_0a 0 a.length (encG a) t.length (encG t) c) = _ := this
      rw [this]
      simp only [bindO_val, List.drop_zero]
      cases hf : findE (gaussE 1000000000000) a 0 with
      | some p =>
        have := findE_two _ a 0 p hf
        simp only [Sum.elim_inl, Option.getD_some]
        rw [if_pos (by omega), ← this]
      | none =>
        simp only [Sum.elim_inr, Option.getD_none, ne_eq, not_true_eq_false, if_false, within_is, bindO_val]
        by_cases h3 : 0 ≤ c ∧ c ≤ 1000000000000
        · rw [bif_pos h3, rangeE_in h3, bif_ne, w64_in (n := (a.length : Int) - 1) (by omega), show (if (a.length : Int) - 1 < c then (a.length : Int) - 1 else c) = mnC a c from rfl]
          by_cases h4 : (t.length : Int) = mnC a c
          · have := lpO_of Iglidepathref01_CheckSum_2 XIglidepathref01_CheckSum_2 (refSum2_loop a t c ht 0 (by omega))
            have this : Lglidepathref01_CheckSum_2 (Tglidepathref01_CheckSum_2a 0 a.length (encG a) t.length (encG t) c) = _ := this
            rw [if_pos h4, this]
            simp only [h4, not_true_eq_false, if_false, both, ne_eq, bindO_val, List.drop_zero]
            cases hg : findE (gaussE 1000) t 0 with
            | some p =>
              have := findE_two _ t 0 p hg
              simp only [Sum.elim_inl, Option.getD_some]
              rw [← this]
            | none => rfl
          · rw [if_neg h4]
            simp [h4, both]
        · rw [bif_neg h3, rangeE_out h3]
          simp [both]
theorem refSumErr_is (ht : t.length < 4294967296) : Fglidepathref01_SumErr [.agg [.list a.length (encG a), .list t.length (encG t), .int .i64 c]] = some (smE a t c) := by
  refine Fglidepathref01_SumErr_of _ _ _ _ _ ?_
  unfold tglidepathref01_SumErr
  simp only [refCheckSum_is a t c ht, bindO_val]
  rfl
theorem copySum_is (ha : a.length ≤ 1000000) (ht : t.length ≤ 1000000) : Fglidepathref01_CopySum [.agg [.list a.length (encG a), .list t.length (encG t), .int .i64 c]] = some ((a.length, encG a), ((t.length, encG t), c)) := by
  refine Fglidepathref01_CopySum_of _ _ _ _ _ ?_
  unfold tglidepathref01_CopySum
  simp only [copyG_is a ha, copyG_is t ht, bindO_val]
theorem sameSum_is (ha : a.length < 4294967296) (ht : t.length < 4294967296) : Fglidepathref01_SameSum [.agg [.list a.length (encG a), .list t.length (encG t), .int .i64 c], .agg [.list a.length (encG a), .list t.length (encG t), .int .i64 c]] = some true := by
  refine Fglidepathref01_SameSum_of _ _ _ _ _ _ _ _ _ _ ?_
  unfold tglidepathref01_SameSum
  simp only [beq_self_eq_true, cond_true, gausses_same a ha, gausses_same t ht, bindO_val]
end

/-- What is asked of a sum that is valid. -/
theorem sm_ok {a t : List ZZ} {c : Int} (h : smE a t c = 0) : (1 ≤ a.length ∧ a.length ≤ 12) ∧ (∀ z ∈ a, gaussE 1000000000000 z = 0) ∧ (0 ≤ c ∧ c ≤ 1000000000000) ∧ (t.length : Int) = mnC a c ∧ ∀ z ∈ t, gaussE 1000 z = 0 := by
  unfold smE smP at h
  by_cases h1 : (listE 12 1000000000000 a).2 = 0
  · rw [if_neg (show ¬ (listE 12 1000000000000 a).2 ≠ 0 by omega)] at h
    by_cases h4 : (t.length : Int) = mnC a c
    · by_cases h3 : rangeE c 0 1000000000000 = 0
      · rw [h3, if_neg (show ¬ (t.length : Int) ≠ mnC a c by omega), show both (0 : Int) 0 = 0 from rfl, if_neg (by simp)] at h
        have h5 : 0 ≤ c ∧ c ≤ 1000000000000 := by
          unfold rangeE at h3
          split at h3 <;> omega
        unfold listE at h1
        split at h1
        · simp at h1
        · split at h1
          · simp at h1
          · refine ⟨by omega, ?_, h5, h4, ?_⟩
            · cases hf : findE (gaussE 1000000000000) a 0 with
              | none => exact findE_none hf
              | some p =>
                have := findE_two _ a 0 p hf
                rw [hf] at h1
                simp only [Option.getD_some] at h1
                omega
            · cases hf : findE (gaussE 1000) t 0 with
              | none => exact findE_none hf
              | some p =>
                have := findE_two _ t 0 p hf
                rw [hf] at h
                simp only [Option.getD_some] at h
                omega
      · exfalso
        have hb : ∀ x, both (rangeE c 0 1000000000000) x = rangeE c 0 1000000000000 := fun x => if_pos h3
        rw [hb, if_pos h3] at h
        exact h3 h
    · exfalso
      rw [if_pos h4] at h
      have hb : both (rangeE c 0 1000000000000) 10 ≠ 0 := by unfold both; split <;> omega
      rw [if_pos hb] at h
      exact hb h
  · rw [if_pos h1] at h
    exact absurd h h1
theorem findE_all {m : Int} : ∀ {l : List ZZ} (i : Nat), (∀ z ∈ l, gaussE m z = 0) → findE (gaussE m) l i = none
  | [], _, _ => rfl
  | x :: l, i, h => by
    rw [findE, if_neg (by have := h x (by simp); omega)]
    exact findE_all _ fun z hz => h z (by simp [hz])
theorem sm_of {a t : List ZZ} {c : Int} (h1 : 1 ≤ a.length ∧ a.length ≤ 12) (h2 : ∀ z ∈ a, gaussE 1000000000000 z = 0) (h3 : 0 ≤ c ∧ c ≤ 1000000000000) (h4 : (t.length : Int) = mnC a c) (h5 : ∀ z ∈ t, gaussE 1000 z = 0) : smE a t c = 0 := by
  have e : listE 12 1000000000000 a = (0, 0) := by
    unfold listE
    rw [if_neg (by omega), if_neg (by omega), findE_all 0 h2]
    rfl
  unfold smE smP
  rw [e, rangeE_in h3, if_neg (by simp), if_neg (show ¬ (t.length : Int) ≠ mnC a c by omega), if_neg (by simp [both]), findE_all 0 h5]
  rfl
end Gv

/- A stream that goes on: what is new of its correlations. -/
namespace Gv
open Go
set_option maxRecDepth 100000

def subZ (a b : ZZ) : ZZ := (w64 (a.1 - b.1), w64 (a.2 - b.2))
def NZ (a : ZZ) : Prop := w64 a.1 = a.1 ∧ w64 a.2 = a.2
theorem w64_2 (x : Int) : w64 (w64 x) = w64 x := w64_w64 x
theorem addZ_nz (a b : ZZ) : NZ (addZ a b) := ⟨w64_2 _, w64_2 _⟩
theorem sumC_nz : ∀ (ps : List (ZZ × ZZ)) (acc : ZZ), NZ acc → NZ (sumC ps acc)
  | [], _, h => h
  | p :: ps, acc, _ => sumC_nz ps (addZ acc (cmul p.1 p.2)) (addZ_nz _ _)
theorem nz_zero : NZ (0, 0) := ⟨by decide, by decide⟩
theorem addZ_zero {a : ZZ} (h : NZ a) : addZ a (0, 0) = a := by
  unfold addZ
  simp only [Int.add_zero]
  rw [h.1, h.2]
theorem zero_addZ {a : ZZ} (h : NZ a) : addZ (0, 0) a = a := by
  unfold addZ
  simp only [Int.zero_add]
  rw [h.1, h.2]
theorem addZ_comm (a b : ZZ) : addZ a b = addZ b a := by
  unfold addZ
  rw [Int.add_comm, Int.add_comm a.2]
theorem addZ_assoc (a b c : ZZ) : addZ (addZ a b) c = addZ a (addZ b c) := by
  unfold addZ
  simp only [w64_add_l, w64_add_r, Int.add_assoc]
theorem sumC_acc : ∀ (ps : List (ZZ × ZZ)) (acc : ZZ), NZ acc → sumC ps acc = addZ acc (sumC ps (0, 0))
  | [], acc, h => (addZ_zero h).symm
  | p :: ps, acc, h => by
    show sumC ps (addZ acc (cmul p.1 p.2)) = addZ acc (sumC ps (addZ (0, 0) (cmul p.1 p.2)))
    rw [sumC_acc ps _ (addZ_nz _ _), sumC_acc ps (addZ (0, 0) (cmul p.1 p.2)) (addZ_nz _ _), addZ_assoc, addZ_assoc, ← addZ_assoc acc (0, 0), addZ_zero h]
theorem subZ_addZ (a : ZZ) {b : ZZ} (h : NZ b) : subZ (addZ a b) a = b := by
  unfold subZ addZ
  simp only [w64_sub_l]
  rw [show a.1 + b.1 - a.1 = b.1 by omega, show a.2 + b.2 - a.2 = b.2 by omega, h.1, h.2]

theorem zip_old (t p : List ZZ) (n : Nat) : ((t ++ p).zip ((t ++ p).drop n)).take (t.length - n) = t.zip (t.drop n) := by
  have e1 : ∀ (k : Nat) (a b : List ZZ), (a.zip b).take k = (a.take k).zip (b.take k) := fun k a b => by
    simp only [List.zip_eq_zipWith, List.take_zipWith]
  rw [e1, List.zip_eq_zip_take_min (l₁ := t) (l₂ := t.drop n), List.length_drop, show min t.length (t.length - n) = t.length - n by omega]
  congr 1
  · rw [List.take_append, show t.length - n - t.length = 0 by omega, List.take_zero, List.append_nil]
  · by_cases h : n ≤ t.length
    · rw [List.drop_append_of_le_length h, List.take_append, List.length_drop, Nat.sub_self, List.take_zero, List.append_nil]
    · rw [show t.length - n = 0 by omega, List.take_zero, List.take_zero]
/-- What a piece adds to a correlation. -/
theorem corr_new (t p : List ZZ) (n : Nat) : subZ (sumC ((t ++ p).zip ((t ++ p).drop n)) (0, 0)) (sumC (t.zip (t.drop n)) (0, 0)) = corrF (t ++ p) n t.length := by
  unfold corrF
  have e : (t ++ p).zip ((t ++ p).drop n) = t.zip (t.drop n) ++ ((t ++ p).zip ((t ++ p).drop n)).drop (t.length - n) := by
    rw [← zip_old t p n, List.take_append_drop]
  have s : sumC ((t ++ p).zip ((t ++ p).drop n)) (0, 0) = sumC (((t ++ p).zip ((t ++ p).drop n)).drop (t.length - n)) (sumC (t.zip (t.drop n)) (0, 0)) := by
    rw [e]
    unfold sumC
    rw [List.foldl_append]
    congr 1
    rw [← e]
  rw [s, sumC_acc _ _ (sumC_nz _ _ nz_zero)]
  exact subZ_addZ _ (sumC_nz _ _ nz_zero)

def tabZ (f : Nat → ZZ) (n : Nat) : List ZZ := (List.range n).map f
@[simp] theorem tabZ_len (f : Nat → ZZ) (n : Nat) : (tabZ f n).length = n := by simp [tabZ]
theorem tabZ_succ (f : Nat → ZZ) (n : Nat) : tabZ f (n + 1) = tabZ f n ++ [f n] := by simp [tabZ, List.range_succ]
theorem tabZ_get (f : Nat → ZZ) {n i : Nat} (h : i < n) : (tabZ f n)[i]? = some (f i) := by simp [tabZ, List.getElem?_range h]
theorem tabZ_mem {f : Nat → ZZ} {n : Nat} {z : ZZ} (h : z ∈ tabZ f n) : ∃ i, i < n ∧ z = f i := by
  unfold tabZ at h
  obtain ⟨i, hi, rfl⟩ := List.mem_map.1 h
  exact ⟨i, List.mem_range.1 hi, rfl⟩

/-- The sum after a piece. -/
def nwF (a t p : List ZZ) (n : Nat) : ZZ := addZ (a.getD n (0, 0)) (corrF (t ++ p) n t.length)
def nwL (a t p : List ZZ) : List ZZ := tabZ (nwF a t p) a.length
def kpN (a t p : List ZZ) : Nat := min (t ++ p).length (a.length - 1)
def nwT (a t p : List ZZ) : List ZZ := (t ++ p).drop ((t ++ p).length - kpN a t p)
theorem nwT_len (a t p : List ZZ) : (nwT a t p).length = kpN a t p := by
  unfold nwT
  rw [List.length_drop]
  unfold kpN
  omega
end Gv

/- The sum of a stream that is continued by a piece: the program's. -/
namespace Gv
open Go
set_option maxRecDepth 100000

def EG (l : List ZZ) : Nat × List PV := (l.length, encG l)
theorem added_loop (k : List ZZ) (a t : List ZZ) (c cc : Int) (f : Nat → ZZ) (ha : a.length ≤ 1000) : ∀ i, i ≤ a.length → 1 ≤ i →
    Rpulse_Added_3000075 (Tpulse_Added_3000075b k.length (encG k) a.length (en3 f a.length) i a.length (encG a) t.length (encG t) c i (encG (tabZ (fun j => addZ (a.getD j (0, 0)) (f j)) i)) cc i) =
      exO (Xpulse_Added_3000075b (k.length, encG k, a.length, encG a, t.length, encG t, c, a.length, encG (tabZ (fun j => addZ (a.getD j (0, 0)) (f j)) a.length), cc, a.length)) := by
  refine up_ind _ ?_ ?_
  · intro _
    refine Rpulse_Added_3000075b_of _ _ _ _ _ _ _ _ _ _ _ _ _ _ ?_
    unfold Bpulse_Added_3000075b
    rw [bif_neg (by omega)]
    rfl
  · intro i hi ih h1
    refine Rpulse_Added_3000075b_of _ _ _ _ _ _ _ _ _ _ _ _ _ _ ?_
    unfold Bpulse_Added_3000075b
    have g0 := en3_get f hi (show 0 < 3 by omega)
    have g1 := en3_get f hi (show 1 < 3 by omega)
    have g2 := en3_get f hi (show 2 < 3 by omega)
    obtain ⟨z, hz, _⟩ := get_drop hi
    have hd : a.getD i (0, 0) = z := by rw [List.getD_eq_getElem?_getD, hz]; rfl
    rw [bif_pos (by omega), bif_pos (by omega), show (i : Int).toNat = i by omega, g0, g1, show i * 3 + 1 + 1 = i * 3 + 2 by omega, g2]
    simp only [enc3, List.getElem?_cons_zero, List.getElem?_cons_succ, intC_int, bindO_val]
    rw [bif_pos (by omega), show (i : Int).toNat = i by omega]
    simp only [encG_0, encG_1, hz, Option.map_some, intC_int, bindO_val, plus_is z (f i)]
    rw [bif_pos ⟨trivial, by unfold big; omega⟩, w64_in (by omega)]
    have := ih (by omega)
    rw [tabZ_succ, encG_app, hd] at this
    exact this

theorem added_start (k : List ZZ) (a t : List ZZ) (c cc : Int) (f : Nat → ZZ) (ha : 1 ≤ a.length ∧ a.length ≤ 1000) :
    Rpulse_Added_3000075 (Tpulse_Added_3000075a k.length (encG k) a.length (en3 f a.length) a.length (encG a) t.length (encG t) c cc) =
      exO (Xpulse_Added_3000075b (k.length, encG k, a.length, encG a, t.length, encG t, c, a.length, encG (tabZ (fun j => addZ (a.getD j (0, 0)) (f j)) a.length), cc, a.length)) := by
  refine Rpulse_Added_3000075a_of _ _ _ _ _ _ _ _ _ _ ?_
  unfold Bpulse_Added_3000075a
  have hi : 0 < a.length := by omega
  have g0 := en3_get f hi (show 0 < 3 by omega)
  have g1 := en3_get f hi (show 1 < 3 by omega)
  have g2 := en3_get f hi (show 2 < 3 by omega)
  rw [Nat.zero_mul] at g0 g1 g2
  obtain ⟨z, hz, _⟩ := get_drop hi
  have hd : a.getD 0 (0, 0) = z := by rw [List.getD_eq_getElem?_getD, hz]; rfl
  rw [bif_pos (by omega), bif_pos (by omega), g0, g1, g2]
  simp only [enc3, List.getElem?_cons_zero, List.getElem?_cons_succ, intC_int, bindO_val]
  rw [bif_pos (by omega)]
  have e0 := encG_0 a 0
  have e1 := encG_1 a 0
  simp only [Int.toNat_natCast, e0, e1, hz, Option.map_some, intC_int, bindO_val, plus_is z (f 0)]
  have := added_loop k a t c cc f ha.2 1 (by omega) (by omega)
  rw [tabZ_succ, encG_app, hd] at this
  exact this

/-- What is given: the sum after a piece, or the error. -/
def adE (a t p : List ZZ) (c : Int) : Int := both (smE a t c) (blockE p)
def adR (a t p : List ZZ) (c : Int) : (Nat × List PV) × ((Nat × List PV) × (Int × Int)) :=
  if adE a t p c ≠ 0 then ((0, []), ((0, []), (0, adE a t p c)))
  else if smE (nwL a t p) (nwT a t p) (w64 (c + p.length)) ≠ 0 then ((0, []), ((0, []), (0, 20)))
  else (EG (nwL a t p), (EG (nwT a t p), (w64 (c + p.length), 0)))
theorem added_is (a t p : List ZZ) (c : Int) (ha : a.length ≤ 1000) (ht : t.length ≤ 400) (hp : p.length ≤ 400) :
    Fpulse_Added [.agg [.list a.length (encG a), .list t.length (encG t), .int .i64 c], .list p.length (encG p)] = some (adR a t p c) := by
  refine Fpulse_Added_of _ _ _ _ _ _ _ ?_
  unfold tpulse_Added adR
  simp only [sumError_is a t c (by omega) (by omega), blockError_is p (by omega), firstError2_is, bindO_val, bif_ne]
  rw [show both (smE a t c) (blockE p) = adE a t p c from rfl]
  by_cases h : adE a t p c = 0
  · have hs : smE a t c = 0 := by
      by_cases q : smE a t c = 0
      · exact q
      · unfold adE both at h; rw [if_pos q] at h; exact h
    obtain ⟨⟨a1, a2⟩, _⟩ := sm_ok hs
    rw [if_pos h, if_neg (by omega)]
    have hk : FconcatG [.list 2 [.list t.length (encG t), .list p.length (encG p)]] = some ((t ++ p).length, encG (t ++ p)) := by
      have := concatG_is [t, p] (by simp) (by simp; omega)
      rw [show [t, p].flatten = t ++ p by simp] at this
      exact this
    have hl : (t ++ p).length = t.length + p.length := List.length_append
    have hi := corrsIt_is (t ++ p) a.length t.length (by omega) ha (by omega)
    have hL := Lpulse_Added_3000075b_of (added_start (t ++ p) a t c (w64 (c + p.length)) (fun j => corrF (t ++ p) j t.length) ⟨a1, ha⟩)
    simp only [hk, hi, hL, bindO_val, Sum.elim_inr]
    have ek : (if w64 ((a.length : Int) - 1) < ((t ++ p).length : Int) then w64 ((a.length : Int) - 1) else ((t ++ p).length : Int)) = (kpN a t p : Int) := by
      rw [w64_in (by omega)]
      unfold kpN
      split <;> omega
    have ed : w64 (((t ++ p).length : Int) - (kpN a t p : Int)) = (((t ++ p).length - kpN a t p : Nat) : Int) := by
      rw [w64_in (by unfold kpN; omega)]
      unfold kpN
      omega
    have hq : (t ++ p).length - kpN a t p ≤ (t ++ p).length := Nat.sub_le _ _
    rw [ek, ed, bif_pos (by omega), bif_pos (by rw [encG_len]; omega)]
    have et : (List.drop ((((t ++ p).length - kpN a t p : Nat) : Int).toNat * 2) (encG (t ++ p))).take (((t ++ p).length - (((t ++ p).length - kpN a t p : Nat) : Int).toNat) * 2) = encG (nwT a t p) := by
      rw [Int.toNat_natCast, encG_drop, List.take_of_length_le (by rw [encG_len, List.length_drop]; omega)]
      rfl
    have en : (t ++ p).length - (((t ++ p).length - kpN a t p : Nat) : Int).toNat = (nwT a t p).length := by
      rw [Int.toNat_natCast, nwT_len]
      unfold kpN
      omega
    have hw : (nwL a t p).length = a.length := tabZ_len _ _
    have hwt : (nwT a t p).length ≤ 1000 := by rw [nwT_len]; unfold kpN; omega
    rw [en] at et ⊢
    rw [et]
    have hse := sumError_is (nwL a t p) (nwT a t p) (w64 (c + p.length)) (by omega) (by omega)
    rw [hw] at hse
    simp only [clone_is (nwT a t p) (by omega), bindO_val]
    rw [show tabZ (fun j => addZ (a.getD j (0, 0)) (corrF (t ++ p) j t.length)) a.length = nwL a t p from rfl]
    simp only [hse, bindO_val]
    unfold EG
    rw [hw]
    by_cases h2 : smE (nwL a t p) (nwT a t p) (w64 (c + p.length)) = 0
    · rw [if_pos h2, if_neg (by omega)]
    · rw [if_neg h2, if_pos h2]
  · rw [if_neg h, if_pos h]
end Gv

/- The sum of a stream that is continued by a piece: the specification's. -/
namespace Gv
open Go
set_option maxRecDepth 100000

theorem gsub_is (a b : ZZ) : Fglidepathbase_GSub [.agg [.int .i64 a.1, .int .i64 a.2], .agg [.int .i64 b.1, .int .i64 b.2]] = some (subZ a b) := Fglidepathbase_GSub_of _ _ _ _ rfl

section
variable (a t p : List ZZ) (c cc : Int)
def okN (j : Nat) : Prop := gaussE 1000000000000 (nwF a t p j) = 0
theorem refAdd_step (ht : t.length ≤ 400) (hp : p.length ≤ 400) {i : Nat} (hi : i < a.length) (ha : a.length ≤ 1000) :
    ∃ z : ZZ, a[i]? = some z ∧ Fglidepathref01_Correlation [.list (t ++ p).length (encG (t ++ p)), .int .i64 i] = some (sumC ((t ++ p).zip ((t ++ p).drop i)) (0, 0)) ∧
      Fglidepathref01_Correlation [.list t.length (encG t), .int .i64 i] = some (sumC (t.zip (t.drop i)) (0, 0)) ∧
      Fglidepathbase_GAdd [.agg [.int .i64 (corrF (t ++ p) i t.length).1, .int .i64 (corrF (t ++ p) i t.length).2], .agg [.int .i64 z.1, .int .i64 z.2]] = some (nwF a t p i) := by
  obtain ⟨z, hz, _⟩ := get_drop hi
  have hl : (t ++ p).length = t.length + p.length := List.length_append
  refine ⟨z, hz, refCorr_is _ i (by omega) (by omega), refCorr_is t i (by omega) (by omega), ?_⟩
  rw [gadd_is, addZ_comm]
  unfold nwF
  rw [List.getD_eq_getElem?_getD, hz]
  rfl
theorem refAdd_good (ha : a.length ≤ 1000) (ht : t.length ≤ 400) (hp : p.length ≤ 400) : ∀ i, i ≤ a.length → 1 ≤ i → (∀ j, i ≤ j → j < a.length → okN a t p j) →
    Rglidepathref01_Added_0 (Tglidepathref01_Added_0b (t ++ p).length (encG (t ++ p)) i a.length (encG a) t.length (encG t) c i (encG (tabZ (nwF a t p) i)) cc (t ++ p).length i) =
      exO (Xglidepathref01_Added_0d ((t ++ p).length, encG (t ++ p), a.length, encG a, t.length, encG t, c, a.length, encG (nwL a t p), cc, (t ++ p).length, a.length)) := by
  refine up_ind _ ?_ ?_
  · intro _ _
    refine Rglidepathref01_Added_0b_of _ _ _ _ _ _ _ _ _ _ _ _ _ ?_
    unfold Bglidepathref01_Added_0b
    rw [bif_neg (by omega)]
    rfl
  · intro i hi ih h1 hg
    obtain ⟨z, hz, k1, k2, k3⟩ := refAdd_step a t p ht hp hi ha
    refine Rglidepathref01_Added_0b_of _ _ _ _ _ _ _ _ _ _ _ _ _ ?_
    unfold Bglidepathref01_Added_0b
    rw [bif_pos (by omega)]
    simp only [k1, k2, gsub_is, corr_new, bindO_val]
    rw [bif_pos (by omega)]
    simp only [Int.toNat_natCast, encG_0, encG_1, hz, Option.map_some, intC_int, bindO_val, k3, isGauss_is (nwF a t p i) 1000000000000 (by omega)]
    have ok := hg i (Nat.le_refl _) hi
    unfold okN at ok
    rw [bif_pos ok, bif_pos ⟨trivial, by unfold big; omega⟩, w64_in (by omega)]
    have := ih (by omega) (fun j h2 h3 => hg j (by omega) h3)
    rw [tabZ_succ, encG_app (tabZ (nwF a t p) i)] at this
    exact this
theorem refAdd_bad (ha : a.length ≤ 1000) (ht : t.length ≤ 400) (hp : p.length ≤ 400) : ∀ i, i ≤ a.length → 1 ≤ i → (∃ j, i ≤ j ∧ j < a.length ∧ ¬ okN a t p j) →
    ∃ n', Rglidepathref01_Added_0 (Tglidepathref01_Added_0b (t ++ p).length (encG (t ++ p)) i a.length (encG a) t.length (encG t) c i (encG (tabZ (nwF a t p) i)) cc (t ++ p).length i) =
      exO (Xglidepathref01_Added_0c n') := by
  refine up_ind _ ?_ ?_
  · rintro _ ⟨j, h1, h2, _⟩
    omega
  · intro i hi ih h1 hb
    obtain ⟨z, hz, k1, k2, k3⟩ := refAdd_step a t p ht hp hi ha
    by_cases ok : gaussE 1000000000000 (nwF a t p i) = 0
    · obtain ⟨n', hn⟩ := ih (by omega) (by
        obtain ⟨j, h2, h3, h4⟩ := hb
        have : j ≠ i := fun e => h4 (by subst e; exact ok)
        exact ⟨j, by omega, h3, h4⟩)
      refine ⟨n', Rglidepathref01_Added_0b_of _ _ _ _ _ _ _ _ _ _ _ _ _ ?_⟩
      unfold Bglidepathref01_Added_0b
      rw [bif_pos (by omega)]
      simp only [k1, k2, gsub_is, corr_new, bindO_val]
      rw [bif_pos (by omega)]
      simp only [Int.toNat_natCast, encG_0, encG_1, hz, Option.map_some, intC_int, bindO_val, k3, isGauss_is (nwF a t p i) 1000000000000 (by omega)]
      rw [bif_pos ok, bif_pos ⟨trivial, by unfold big; omega⟩, w64_in (by omega)]
      rw [tabZ_succ, encG_app (tabZ (nwF a t p) i)] at hn
      exact hn
    · refine ⟨i, Rglidepathref01_Added_0b_of _ _ _ _ _ _ _ _ _ _ _ _ _ ?_⟩
      unfold Bglidepathref01_Added_0b
      rw [bif_pos (by omega)]
      simp only [k1, k2, gsub_is, corr_new, bindO_val]
      rw [bif_pos (by omega)]
      simp only [Int.toNat_natCast, encG_0, encG_1, hz, Option.map_some, intC_int, bindO_val, k3, isGauss_is (nwF a t p i) 1000000000000 (by omega)]
      rw [bif_neg ok]
      rfl
theorem refAdd_start (ha : 1 ≤ a.length ∧ a.length ≤ 1000) (ht : t.length ≤ 400) (hp : p.length ≤ 400) (r : Option (Ext × S)) (z0 : ZZ) (hz0 : a[0]? = some z0) :
    (okN a t p 0 → Rglidepathref01_Added_0 (Tglidepathref01_Added_0b (t ++ p).length (encG (t ++ p)) 1 a.length (encG a) t.length (encG t) c 1 (encG (tabZ (nwF a t p) 1)) cc (t ++ p).length 1) = r → ∀ q, r = some q → Rglidepathref01_Added_0 (Tglidepathref01_Added_0a (t ++ p).length (encG (t ++ p)) a.length (encG a) t.length (encG t) c cc (t ++ p).length) = r) ∧
    (¬ okN a t p 0 → Rglidepathref01_Added_0 (Tglidepathref01_Added_0a (t ++ p).length (encG (t ++ p)) a.length (encG a) t.length (encG t) c cc (t ++ p).length) = exO (Xglidepathref01_Added_0a ())) := by
  obtain ⟨z, hz, k1, k2, k3⟩ := refAdd_step a t p ht hp (show 0 < a.length by omega) ha.2
  have e0 := encG_0 a 0
  have e1 := encG_1 a 0
  rw [hz] at e0 e1
  simp only [Nat.zero_mul, Nat.zero_add, Option.map_some] at e0 e1
  rw [show ((0 : Nat) : Int) = 0 from rfl] at k1 k2
  constructor
  · intro ok hr q hq
    rw [hq] at hr ⊢
    refine Rglidepathref01_Added_0a_of _ _ _ _ _ _ _ _ _ ?_
    unfold Bglidepathref01_Added_0a
    rw [bif_pos (by omega)]
    simp only [k1, k2, gsub_is, corr_new, bindO_val]
    rw [bif_pos (by omega)]
    simp only [e0, e1, intC_int, bindO_val, k3, isGauss_is (nwF a t p 0) 1000000000000 (by omega)]
    unfold okN at ok
    rw [bif_pos ok]
    exact hr
  · intro ok
    refine Rglidepathref01_Added_0a_of _ _ _ _ _ _ _ _ _ ?_
    unfold Bglidepathref01_Added_0a
    rw [bif_pos (by omega)]
    simp only [k1, k2, gsub_is, corr_new, bindO_val]
    rw [bif_pos (by omega)]
    simp only [e0, e1, intC_int, bindO_val, k3, isGauss_is (nwF a t p 0) 1000000000000 (by omega)]
    unfold okN at ok
    rw [bif_neg ok]
    rfl
end

theorem refAdd_ends (a t p : List ZZ) (c cc : Int) (ha : 1 ≤ a.length ∧ a.length ≤ 1000) (ht : t.length ≤ 400) (hp : p.length ≤ 400) :
    ∃ z, Lglidepathref01_Added_0 (Tglidepathref01_Added_0a (t ++ p).length (encG (t ++ p)) a.length (encG a) t.length (encG t) c cc (t ++ p).length) = some z ∧
      (((∀ j, j < a.length → okN a t p j) ∧ z = .inr (.inr (.inr ((t ++ p).length, encG (t ++ p), a.length, encG a, t.length, encG t, c, a.length, encG (nwL a t p), cc, (t ++ p).length, a.length)))) ∨
       ((∃ j, j < a.length ∧ ¬ okN a t p j) ∧ (z = .inl () ∨ ∃ n', z = .inr (.inr (.inl n'))))) := by
  obtain ⟨z0, hz0, _⟩ := get_drop (show 0 < a.length by omega)
  by_cases h0 : okN a t p 0
  · by_cases hg : ∀ j, 1 ≤ j → j < a.length → okN a t p j
    · have h1 := refAdd_good a t p c cc ha.2 ht hp 1 ha.1 (by omega) hg
      have h2 := (refAdd_start a t p c cc ha ht hp _ z0 hz0).1 h0 h1 _ rfl
      refine ⟨_, Lglidepathref01_Added_0d_of h2, .inl ⟨fun j hj => ?_, rfl⟩⟩
      by_cases e : j = 0
      · subst e; exact h0
      · exact hg j (by omega) hj
    · have hb : ∃ j, 1 ≤ j ∧ j < a.length ∧ ¬ okN a t p j := by
        apply Classical.byContradiction
        intro hn
        exact hg fun j h1 h2 => Classical.byContradiction fun h3 => hn ⟨j, h1, h2, h3⟩
      obtain ⟨n', h1⟩ := refAdd_bad a t p c cc ha.2 ht hp 1 ha.1 (by omega) hb
      have h2 := (refAdd_start a t p c cc ha ht hp _ z0 hz0).1 h0 h1 _ rfl
      obtain ⟨j, _, h4, h5⟩ := hb
      exact ⟨_, Lglidepathref01_Added_0c_of h2, .inr ⟨⟨j, h4, h5⟩, .inr ⟨n', rfl⟩⟩⟩
  · have h2 := (refAdd_start a t p c cc ha ht hp none z0 hz0).2 h0
    exact ⟨_, Lglidepathref01_Added_0a_of h2, .inr ⟨⟨0, by omega, h0⟩, .inl rfl⟩⟩
end Gv

/- The sum after a piece, by the specification, whole. -/
namespace Gv
open Go
set_option maxRecDepth 100000

theorem bool_w64 (x : Int) (h : ∃ n : Nat, x = n ∧ n ≤ 1000000) : w64 x = x := by
  obtain ⟨n, rfl, h⟩ := h
  exact w64_in (by omega)

/-- Where the sum after a piece is valid. -/
def okS (a t p : List ZZ) (c : Int) : Prop := (∀ j, j < a.length → okN a t p j) ∧ w64 (c + p.length) ≤ 1000000000000
def raR (a t p : List ZZ) (c : Int) : (Nat × List PV) × ((Nat × List PV) × (Int × Bool)) → Prop := fun r =>
  (okS a t p c ∧ r = (EG (nwL a t p), (EG (nwT a t p), (w64 (c + p.length), true)))) ∨ (¬ okS a t p c ∧ r = ((0, []), ((0, []), (0, false))))

theorem refAdded_is (a t p : List ZZ) (c : Int) (ha : 1 ≤ a.length ∧ a.length ≤ 1000) (ht : t.length ≤ 400) (hp : 1 ≤ p.length ∧ p.length ≤ 400) :
    ∃ r, Fglidepathref01_Added [.agg [.list a.length (encG a), .list t.length (encG t), .int .i64 c], .list p.length (encG p)] = some r ∧ raR a t p c r := by
  obtain ⟨z, hz, hend⟩ := refAdd_ends a t p c (w64 (c + p.length)) ha ht hp.2
  have hl : (t ++ p).length = t.length + p.length := List.length_append
  have ek : (if w64 ((a.length : Int) - 1) < ((t ++ p).length : Int) then w64 ((a.length : Int) - 1) else ((t ++ p).length : Int)) = (kpN a t p : Int) := by
    rw [w64_in (by omega)]
    unfold kpN
    split <;> omega
  have ed : w64 (((t ++ p).length : Int) - (kpN a t p : Int)) = (((t ++ p).length - kpN a t p : Nat) : Int) := by
    rw [w64_in (by unfold kpN; omega)]
    unfold kpN
    omega
  have et : (List.drop (((t ++ p).length - kpN a t p) * 2) (encG (t ++ p))).take (((t ++ p).length - ((t ++ p).length - kpN a t p)) * 2) = encG (nwT a t p) := by
    rw [encG_drop, List.take_of_length_le (by rw [encG_len, List.length_drop]; omega)]
    rfl
  have en : (t ++ p).length - ((t ++ p).length - kpN a t p) = (nwT a t p).length := by
    rw [nwT_len]
    unfold kpN
    omega
  have hkp : kpN a t p ≤ (t ++ p).length := by unfold kpN; omega
  have hwl : (nwL a t p).length = a.length := tabZ_len _ _
  have hwt : (nwT a t p).length ≤ 1000 := by rw [nwT_len]; unfold kpN; omega
  by_cases h0 : t.length = 0
  · have ht0 : t = [] := List.length_eq_zero_iff.1 h0
    have e1 : 0 + p.length = (t ++ p).length := by omega
    have e2 : [] ++ encG p = encG (t ++ p) := by rw [ht0]; rfl
    rcases hend with ⟨hok, rfl⟩ | ⟨hbad, hz2⟩
    · by_cases hc : w64 (c + p.length) > 1000000000000
      · refine ⟨_, Fglidepathref01_Added_of _ _ _ _ _ _ _ ?_, .inr ⟨fun q => by have := q.2; omega, rfl⟩⟩
        unfold tglidepathref01_Added
        rw [bif_pos h0, bif_neg (by omega), bif_pos (encG_len p), bif_pos ⟨rfl, by unfold big; omega⟩, e1, e2, hz]
        simp only [bindO_val, Sum.elim_inr]
        rw [bif_pos hc]
      · refine ⟨_, Fglidepathref01_Added_of _ _ _ _ _ _ _ ?_, .inl ⟨⟨hok, by omega⟩, rfl⟩⟩
        unfold tglidepathref01_Added
        rw [bif_pos h0, bif_neg (by omega), bif_pos (encG_len p), bif_pos ⟨rfl, by unfold big; omega⟩, e1, e2, hz]
        simp only [bindO_val, Sum.elim_inr]
        rw [bif_neg hc, ek, ed, bif_pos (by omega)]
        simp only [Int.toNat_natCast]
        rw [bif_pos (by rw [encG_len]; omega)]
        unfold EG
        rw [hwl]
        by_cases hn : (t ++ p).length - ((t ++ p).length - kpN a t p) = 0
        · rw [bif_pos hn]
          have : nwT a t p = [] := List.length_eq_zero_iff.1 (by omega)
          rw [this]
          rfl
        · rw [bif_neg hn, bif_pos (by rw [List.length_take, List.length_drop, encG_len]; omega), bif_pos ⟨trivial, by unfold big; omega⟩, bif_pos trivial, et, en, Nat.zero_add, List.nil_append]
    · refine ⟨_, Fglidepathref01_Added_of _ _ _ _ _ _ _ ?_, .inr ⟨fun q => by obtain ⟨j, h1, h2⟩ := hbad; exact h2 (q.1 j h1), rfl⟩⟩
      unfold tglidepathref01_Added
      rw [bif_pos h0, bif_neg (by omega), bif_pos (encG_len p), bif_pos ⟨rfl, by unfold big; omega⟩, e1, e2, hz]
      rcases hz2 with rfl | ⟨n', rfl⟩ <;> rfl
  · have e1 : 0 + t.length + p.length = (t ++ p).length := by omega
    have e2 : [] ++ encG t ++ encG p = encG (t ++ p) := by rw [encG_app]; rfl
    rcases hend with ⟨hok, rfl⟩ | ⟨hbad, hz2⟩
    · by_cases hc : w64 (c + p.length) > 1000000000000
      · refine ⟨_, Fglidepathref01_Added_of _ _ _ _ _ _ _ ?_, .inr ⟨fun q => by have := q.2; omega, rfl⟩⟩
        unfold tglidepathref01_Added
        rw [bif_neg h0, bif_pos (encG_len t), bif_pos ⟨rfl, by unfold big; omega⟩, bif_pos rfl, bif_neg (by omega), bif_pos (encG_len p), bif_pos ⟨rfl, by unfold big; omega⟩, e1, e2, hz]
        simp only [bindO_val, Sum.elim_inr]
        rw [bif_pos hc]
      · refine ⟨_, Fglidepathref01_Added_of _ _ _ _ _ _ _ ?_, .inl ⟨⟨hok, by omega⟩, rfl⟩⟩
        unfold tglidepathref01_Added
        rw [bif_neg h0, bif_pos (encG_len t), bif_pos ⟨rfl, by unfold big; omega⟩, bif_pos rfl, bif_neg (by omega), bif_pos (encG_len p), bif_pos ⟨rfl, by unfold big; omega⟩, e1, e2, hz]
        simp only [bindO_val, Sum.elim_inr]
        rw [bif_neg hc, ek, ed, bif_pos (by omega)]
        simp only [Int.toNat_natCast]
        rw [bif_pos (by rw [encG_len]; omega)]
        unfold EG
        rw [hwl]
        by_cases hn : (t ++ p).length - ((t ++ p).length - kpN a t p) = 0
        · rw [bif_pos hn]
          have : nwT a t p = [] := List.length_eq_zero_iff.1 (by omega)
          rw [this]
          rfl
        · rw [bif_neg hn, bif_pos (by rw [List.length_take, List.length_drop, encG_len]; omega), bif_pos ⟨trivial, by unfold big; omega⟩, bif_pos trivial, et, en, Nat.zero_add, List.nil_append]
    · refine ⟨_, Fglidepathref01_Added_of _ _ _ _ _ _ _ ?_, .inr ⟨fun q => by obtain ⟨j, h1, h2⟩ := hbad; exact h2 (q.1 j h1), rfl⟩⟩
      unfold tglidepathref01_Added
      rw [bif_neg h0, bif_pos (encG_len t), bif_pos ⟨rfl, by unfold big; omega⟩, bif_pos rfl, bif_neg (by omega), bif_pos (encG_len p), bif_pos ⟨rfl, by unfold big; omega⟩, e1, e2, hz]
      rcases hz2 with rfl | ⟨n', rfl⟩ <;> rfl
end Gv

/- The sum after a piece is valid by the program where it is so by the specification. -/
namespace Gv
open Go
set_option maxRecDepth 100000

theorem gauss_of {m : Int} {z : ZZ} (h : (-m ≤ z.1 ∧ z.1 ≤ m) ∧ -m ≤ z.2 ∧ z.2 ≤ m) : gaussE m z = 0 := by
  unfold gaussE
  rw [rangeE_in h.1, rangeE_in h.2]
  rfl
theorem okS_iff {a t p : List ZZ} {c : Int} (hs : smE a t c = 0) (hb : blockE p = 0) : okS a t p c ↔ smE (nwL a t p) (nwT a t p) (w64 (c + p.length)) = 0 := by
  obtain ⟨h1, h2, h3, h4, h5⟩ := sm_ok hs
  obtain ⟨k1, k2, k3⟩ := block_ok hb
  have hl : (t ++ p).length = t.length + p.length := List.length_append
  have hw : w64 (c + p.length) = c + p.length := w64_in (by omega)
  have hwl : (nwL a t p).length = a.length := tabZ_len _ _
  constructor
  · intro h
    have h0 := h.2
    rw [hw] at h0 ⊢
    refine sm_of (by omega) (fun z hz => ?_) (by omega) ?_ (fun z hz => ?_)
    · obtain ⟨i, hi, rfl⟩ := tabZ_mem hz
      exact h.1 i hi
    · rw [nwT_len]
      unfold mnC at h4 ⊢
      unfold kpN
      rw [hwl]
      split at h4 <;> split <;> omega
    · have := List.mem_of_mem_drop hz
      rcases List.mem_append.1 this with q | q
      · exact h5 z q
      · exact gauss_of (k3 z q)
  · intro h
    obtain ⟨_, q2, q3, _⟩ := sm_ok h
    exact ⟨fun j hj => q2 _ (List.mem_of_getElem? (tabZ_get (nwF a t p) hj)), by omega⟩

def spE (a t : List ZZ) (c : Int) : Int := if smE a t c = 0 then (if c > a.length then 19 else 0) else smE a t c

theorem ps54 (s p t : List ZZ) (c : Int) : ∃ z, Lglidepathlaw01_PulseSums_1000054 (Tglidepathlaw01_PulseSums_1000054a p.length (encG p) s.length (encG s) t.length (encG t) c) = some z ∧
    (z = .inl () ∨ (p.length ≤ 50 ∧ s.length ≤ 14 ∧ t.length ≤ 14 ∧ z = .inr (p.length, encG p, s.length, encG s, t.length, encG t, c))) := by
  have key : ∃ z : Yglidepathlaw01_PulseSums_1000054, Rglidepathlaw01_PulseSums_1000054 (Tglidepathlaw01_PulseSums_1000054a p.length (encG p) s.length (encG s) t.length (encG t) c) = exO (XLglidepathlaw01_PulseSums_1000054.fn z) ∧
      (z = .inl () ∨ (p.length ≤ 50 ∧ s.length ≤ 14 ∧ t.length ≤ 14 ∧ z = .inr (p.length, encG p, s.length, encG s, t.length, encG t, c))) := by
    by_cases h1 : p.length ≤ 50
    · by_cases h2 : s.length ≤ 14
      · by_cases h3 : t.length ≤ 14
        · refine ⟨.inr _, Rglidepathlaw01_PulseSums_1000054a_of _ _ _ _ _ _ _ ?_, .inr ⟨h1, h2, h3, rfl⟩⟩
          unfold Bglidepathlaw01_PulseSums_1000054a
          simp only [few_is, bindO_val]
          rw [bif_pos h1, bif_neg (by omega), bif_neg (by omega)]
          rfl
        · refine ⟨.inl (), Rglidepathlaw01_PulseSums_1000054a_of _ _ _ _ _ _ _ ?_, .inl rfl⟩
          unfold Bglidepathlaw01_PulseSums_1000054a
          simp only [few_is, bindO_val]
          rw [bif_pos h1, bif_neg (by omega), bif_pos (by omega)]
          rfl
      · refine ⟨.inl (), Rglidepathlaw01_PulseSums_1000054a_of _ _ _ _ _ _ _ ?_, .inl rfl⟩
        unfold Bglidepathlaw01_PulseSums_1000054a
        simp only [few_is, bindO_val]
        rw [bif_pos h1, bif_pos (by omega)]
        rfl
    · refine ⟨.inl (), Rglidepathlaw01_PulseSums_1000054a_of _ _ _ _ _ _ _ ?_, .inl rfl⟩
      unfold Bglidepathlaw01_PulseSums_1000054a
      simp only [few_is, bindO_val]
      rw [bif_neg h1]
      rfl
  obtain ⟨z, h, hz⟩ := key
  exact ⟨z, lpO_of Iglidepathlaw01_PulseSums_1000054 XIglidepathlaw01_PulseSums_1000054 h, hz⟩
theorem lawBoth_is (x y : Int) : Fglidepathlaw01_both [.int .i64 x, .int .i64 y] = some (both x y) := Fglidepathlaw01_both_of x y (by
  unfold tglidepathlaw01_both both
  simp only [bif_ne]
  by_cases h1 : x = 0 <;> simp [h1])
end Gv

/- The spectrum by a sum: the program's and the specification's. -/
namespace Gv
open Go
set_option maxRecDepth 100000

/-- The power of a line: from so many lags on, so many of them. -/
def spG (a : List ZZ) (k : Nat) : Nat → Nat → Int → Int
  | 0, _, s => s
  | m + 1, i, s => spG a k m (i + 1) (w64 (s + w64 (2 * (trn (a.getD i (0, 0)) ((i * k : Nat) : Int)).1)))
def spV (a : List ZZ) (k : Nat) : Int := spG a k (a.length - 1) 1 (a.getD 0 (0, 0)).1
def ptL (a : List ZZ) (k : Nat) : List Int := (List.range k).map (spV a) ++ List.replicate (4 - k) 0

theorem overO_I (pre r : List Int) (x y : Int) {k : Nat} (hk : pre.length = k) : overO (encI (pre ++ x :: r)) (0 + (k : Int).toNat * 1) [.int .i64 y] = some (encI (pre ++ y :: r)) := by
  subst hk
  rw [Int.toNat_natCast, overO_of (by rw [encI_len]; simp), over_I]
theorem read_I (pre r : List Int) (x : Int) {k : Nat} (hk : pre.length = k) : (encI (pre ++ x :: r))[0 + (k : Int).toNat * 1]? = some (.int .i64 x) := by
  subst hk
  rw [Int.toNat_natCast, Nat.zero_add, Nat.mul_one, encI_get, List.getElem?_append_right (Nat.le_refl _), Nat.sub_self]
  rfl

section
variable (a t : List ZZ) (c : Int)
theorem refBy2 (ha : a.length ≤ 1000) (hz : ∀ z ∈ a, Small 1000000000000 z) {k : Nat} (hk : k < 4) (pre r : List Int) (hp : pre.length = k) : ∀ i, i ≤ a.length → 1 ≤ i → ∀ s : Int,
    Rglidepathref01_By_2 (Tglidepathref01_By_2a k i a.length (encG a) t.length (encG t) c (encI (pre ++ s :: r))) = exO (Xglidepathref01_By_2a (k, a.length, encG a, t.length, encG t, c, encI (pre ++ spG a k (a.length - i) i s :: r))) := by
  refine up_ind _ ?_ ?_
  · intro _ s
    refine Rglidepathref01_By_2a_of _ _ _ _ _ _ _ _ ?_
    unfold Bglidepathref01_By_2a
    rw [bif_neg (by omega), Nat.sub_self]
    rfl
  · intro i hi ih h1 s
    obtain ⟨z, hx, _⟩ := get_drop hi
    have hd : a.getD i (0, 0) = z := by rw [List.getD_eq_getElem?_getD, hx]; rfl
    refine Rglidepathref01_By_2a_of _ _ _ _ _ _ _ _ ?_
    unfold Bglidepathref01_By_2a
    have hik : w64 ((i : Int) * k) = ((i * k : Nat) : Int) := by
      have : i * k ≤ 1000 * 4 := Nat.mul_le_mul (by omega) (by omega)
      rw [w64_in (by rw [← Int.natCast_mul]; omega), Int.natCast_mul]
    rw [bif_pos (by omega), bif_pos (by omega)]
    simp only [read_I pre r s hp, intC_int, bindO_val]
    rw [bif_pos (by omega), show (i : Int).toNat = i by omega]
    simp only [encG_0, encG_1, hx, Option.map_some, intC_int, bindO_val, hik, refTurned_is z ((i * k : Nat) : Int) ⟨by omega, by have : i * k ≤ 1000 * 4 := Nat.mul_le_mul (by omega) (by omega); omega⟩ (hz z (List.mem_of_getElem? hx))]
    rw [bif_pos (by omega)]
    simp only [overO_I pre r s _ hp, bindO_val]
    rw [w64_in (n := (i : Int) + 1) (by omega), show a.length - i = (a.length - (i + 1)) + 1 by omega, spG, hd]
    exact ih (by omega) _
theorem by2 (ha : a.length ≤ 1000) (hz : ∀ z ∈ a, Small 1000000000000 z) {k : Nat} (hk : k < 4) (pre r : List Int) (hp : pre.length = k) : ∀ j, j ≤ a.length - 1 → ∀ s : Int,
    Rpulse_SpectrumBy_2 (Tpulse_SpectrumBy_2a k k (a.length - 1) (encG (a.drop 1)) ((a.length - 1 : Nat) : Int) j a.length (encG a) t.length (encG t) c (encI (pre ++ s :: r))) =
      exO (Xpulse_SpectrumBy_2a (k, a.length, encG a, t.length, encG t, c, encI (pre ++ spG a k (a.length - 1 - j) (j + 1) s :: r))) := by
  refine up_ind _ ?_ ?_
  · intro s
    refine Rpulse_SpectrumBy_2a_of _ _ _ _ _ _ _ _ _ _ _ _ ?_
    unfold Bpulse_SpectrumBy_2a
    rw [bif_neg (by omega), Nat.sub_self]
    rfl
  · intro j hj ih s
    have hi : j + 1 < a.length := by omega
    obtain ⟨z, hx, _⟩ := get_drop hi
    have hd : a.getD (j + 1) (0, 0) = z := by rw [List.getD_eq_getElem?_getD, hx]; rfl
    have hx1 : (a.drop 1)[j]? = some z := by rw [List.getElem?_drop, Nat.add_comm]; exact hx
    refine Rpulse_SpectrumBy_2a_of _ _ _ _ _ _ _ _ _ _ _ _ ?_
    unfold Bpulse_SpectrumBy_2a
    have hik : w64 (((j : Int) + 1) * k) = (((j + 1) * k : Nat) : Int) := by
      have : (j + 1) * k ≤ 1000 * 4 := Nat.mul_le_mul (by omega) (by omega)
      have e : ((j : Int) + 1) * k = (((j + 1) * k : Nat) : Int) := by rw [Int.natCast_mul]; rfl
      rw [e, w64_in (by omega)]
    have sm : Small 4611686018427387904 z := by
      have := hz z (List.mem_of_getElem? hx)
      unfold Small at this ⊢
      omega
    rw [bif_pos (by omega), bif_pos (by omega), show (j : Int).toNat = j by omega]
    simp only [encG_0, encG_1, hx1, Option.map_some, intC_int, bindO_val]
    rw [bif_pos (by omega)]
    simp only [read_I pre r s hp, intC_int, bindO_val]
    rw [w64_in (n := (j : Int) + 1) (by omega), hik]
    simp only [turned_is z (((j + 1) * k : Nat) : Int) (by omega) sm, bindO_val]
    rw [bif_pos (by omega)]
    simp only [overO_I pre r s _ hp, bindO_val]
    rw [show a.length - 1 - j = (a.length - 1 - (j + 1)) + 1 by omega, spG, hd]
    exact ih _

theorem pt_step {k : Nat} (hk : k < 4) : ptL a k = (List.range k).map (spV a) ++ 0 :: List.replicate (3 - k) 0 := by
  unfold ptL
  rw [show 4 - k = (3 - k) + 1 by omega]
  rfl
theorem pt_next {k : Nat} (hk : k < 4) : (List.range k).map (spV a) ++ spV a k :: List.replicate (3 - k) 0 = ptL a (k + 1) := by
  unfold ptL
  rw [List.range_succ, List.map_append, List.append_assoc, show 4 - (k + 1) = 3 - k by omega]
  rfl
theorem refBy0 (ha : 1 ≤ a.length ∧ a.length ≤ 1000) (hz : ∀ z ∈ a, Small 1000000000000 z) : ∀ k : Nat, k ≤ 4 →
    Rglidepathref01_By_0 (Tglidepathref01_By_0a k a.length (encG a) t.length (encG t) c (encI (ptL a k))) = exO (Xglidepathref01_By_0a (a.length, encG a, t.length, encG t, c, encI (ptL a 4))) := by
  refine up_ind _ ?_ ?_
  · refine Rglidepathref01_By_0a_of _ _ _ _ _ _ _ ?_
    unfold Bglidepathref01_By_0a
    rw [bif_neg (by omega)]
    rfl
  · intro k hk ih
    obtain ⟨z, hx, _⟩ := get_drop (show 0 < a.length by omega)
    have hd : a.getD 0 (0, 0) = z := by rw [List.getD_eq_getElem?_getD, hx]; rfl
    have e0 := encG_0 a 0
    rw [hx] at e0
    simp only [Nat.zero_mul, Option.map_some] at e0
    have hp : ((List.range k).map (spV a)).length = k := by simp
    refine Rglidepathref01_By_0a_of _ _ _ _ _ _ _ ?_
    unfold Bglidepathref01_By_0a
    have h2 := Lglidepathref01_By_2a_of (refBy2 a t c ha.2 hz hk _ (List.replicate (3 - k) 0) hp 1 ha.1 (by omega) z.1)
    rw [show ((1 : Nat) : Int) = 1 from rfl] at h2
    rw [bif_pos (by omega), bif_pos (by omega), pt_step a hk]
    simp only [e0, intC_int, bindO_val]
    rw [bif_pos (by omega)]
    simp only [overO_I _ (List.replicate (3 - k) 0) 0 z.1 hp, bindO_val, h2]
    rw [w64_in (n := (k : Int) + 1) (by omega)]
    have ev : spG a k (a.length - 1) 1 z.1 = spV a k := by unfold spV; rw [hd]
    rw [ev, pt_next a hk]
    exact ih
theorem by0 (ha : 1 ≤ a.length ∧ a.length ≤ 1000) (hz : ∀ z ∈ a, Small 1000000000000 z) : ∀ k : Nat, k ≤ 4 →
    Rpulse_SpectrumBy_0 (Tpulse_SpectrumBy_0a k a.length (encG a) t.length (encG t) c (encI (ptL a k))) = exO (Xpulse_SpectrumBy_0a (a.length, encG a, t.length, encG t, c, encI (ptL a 4))) := by
  refine up_ind _ ?_ ?_
  · refine Rpulse_SpectrumBy_0a_of _ _ _ _ _ _ _ ?_
    unfold Bpulse_SpectrumBy_0a
    rw [bif_neg (by omega)]
    rfl
  · intro k hk ih
    obtain ⟨z, hx, _⟩ := get_drop (show 0 < a.length by omega)
    have hd : a.getD 0 (0, 0) = z := by rw [List.getD_eq_getElem?_getD, hx]; rfl
    have e0 := encG_0 a 0
    rw [hx] at e0
    simp only [Nat.zero_mul, Option.map_some] at e0
    have hp : ((List.range k).map (spV a)).length = k := by simp
    refine Rpulse_SpectrumBy_0a_of _ _ _ _ _ _ _ ?_
    unfold Bpulse_SpectrumBy_0a
    have h2 := Lpulse_SpectrumBy_2a_of (by2 a t c ha.2 hz hk _ (List.replicate (3 - k) 0) hp 0 (by omega) z.1)
    rw [show ((0 : Nat) : Int) = 0 from rfl, Nat.sub_zero, Nat.zero_add] at h2
    have et : (encG a).drop 2 = encG (a.drop 1) := encG_drop a 1
    have el : List.take ((a.length - 1) * 2) (encG (a.drop 1)) = encG (a.drop 1) := List.take_of_length_le (by rw [encG_len, List.length_drop]; omega)
    rw [bif_pos (by omega), bif_pos (by omega), pt_step a hk]
    simp only [e0, intC_int, bindO_val]
    rw [bif_pos (by omega)]
    simp only [overO_I _ (List.replicate (3 - k) 0) 0 z.1 hp, bindO_val]
    rw [bif_pos (by omega), bif_pos (by rw [encG_len]; omega), et, el, h2, bindO_val]
    simp only
    rw [w64_in (n := (k : Int) + 1) (by omega)]
    have ev : spG a k (a.length - 1) 1 z.1 = spV a k := by unfold spV; rw [hd]
    rw [ev, pt_next a hk]
    exact ih

theorem refBy_is (ha : 1 ≤ a.length ∧ a.length ≤ 1000) (hz : ∀ z ∈ a, Small 1000000000000 z) :
    Fglidepathref01_By [.agg [.list a.length (encG a), .list t.length (encG t), .int .i64 c]] = some (spV a 0, spV a 1, spV a 2, spV a 3) := by
  refine Fglidepathref01_By_of _ _ _ _ _ ?_
  unfold tglidepathref01_By
  have h := Lglidepathref01_By_0a_of (refBy0 a t c ha hz 0 (by omega))
  have h : Lglidepathref01_By_0 (Tglidepathref01_By_0a 0 a.length (encG a) t.length (encG t) c [.int .i64 0, .int .i64 0, .int .i64 0, .int .i64 0]) = _ := h
  rw [h]
  rfl
theorem spectrumBy_ok (ha : a.length ≤ 1000) (ht : t.length ≤ 1000) (he : spE a t c = 0) :
    Fpulse_SpectrumBy [.agg [.list a.length (encG a), .list t.length (encG t), .int .i64 c]] = some (spV a 0, spV a 1, spV a 2, spV a 3, 0) := by
  have hs : smE a t c = 0 := by
    unfold spE at he
    by_cases k : smE a t c = 0
    · exact k
    · rw [if_neg k] at he; exact absurd he k
  have hc : ¬ c > a.length := by
    unfold spE at he
    rw [if_pos hs] at he
    split at he
    · cases he
    · assumption
  obtain ⟨⟨a1, _⟩, h2, _⟩ := sm_ok hs
  refine Fpulse_SpectrumBy_of _ _ _ _ _ ?_
  unfold tpulse_SpectrumBy
  have h := Lpulse_SpectrumBy_0a_of (by0 a t c ⟨a1, ha⟩ (fun z hz => gaussE_zero (h2 z hz)) 0 (by omega))
  have h : Lpulse_SpectrumBy_0 (Tpulse_SpectrumBy_0a 0 a.length (encG a) t.length (encG t) c [.int .i64 0, .int .i64 0, .int .i64 0, .int .i64 0]) = _ := h
  simp only [sumError_is a t c (by omega) (by omega), errorIf_is, firstError2_is, bindO_val, hs]
  rw [bif_neg hc]
  simp only [Bool.false_eq_true, if_false]
  rw [show (both 0 0 != 0) = false from rfl, cond_false, h]
  rfl
theorem spectrumBy_bad' (ha : a.length ≤ 1000) (ht : t.length ≤ 1000) (he : spE a t c ≠ 0) :
    Fpulse_SpectrumBy [.agg [.list a.length (encG a), .list t.length (encG t), .int .i64 c]] = some (0, 0, 0, 0, spE a t c) := by
  refine Fpulse_SpectrumBy_of _ _ _ _ _ ?_
  unfold tpulse_SpectrumBy
  simp only [sumError_is a t c (by omega) (by omega), errorIf_is, firstError2_is, bindO_val]
  unfold spE at he ⊢
  by_cases hs : smE a t c = 0
  · rw [if_pos hs] at he ⊢
    by_cases hc : c > a.length
    · rw [bif_pos hc, if_pos hc, hs]
      rfl
    · rw [if_neg hc] at he
      exact absurd rfl he
  · rw [if_neg hs]
    have hb : ∀ x, both (smE a t c) x = smE a t c := fun x => if_pos hs
    have hn : (smE a t c != 0) = true := by simpa using hs
    by_cases hc : c > a.length
    · rw [bif_pos hc, hb, hn]; rfl
    · rw [bif_neg hc, hb, hn]; rfl
end
theorem spectrumBy_bad {a t : List ZZ} {c : Int} (ha : a.length ≤ 1000) (ht : t.length ≤ 1000) (he : spE a t c ≠ 0) :
    Fpulse_SpectrumBy [.agg [.list a.length (encG a), .list t.length (encG t), .int .i64 c]] = some (0, 0, 0, 0, spE a t c) := spectrumBy_bad' a t c ha ht he
theorem spectra_are {a t : List ZZ} {c : Int} (ha : a.length ≤ 1000) (ht : t.length ≤ 1000) (he : spE a t c = 0) : ∃ q : Int × Int × Int × Int,
    Fpulse_SpectrumBy [.agg [.list a.length (encG a), .list t.length (encG t), .int .i64 c]] = some (q.1, q.2.1, q.2.2.1, q.2.2.2, 0) ∧
    Fglidepathref01_By [.agg [.list a.length (encG a), .list t.length (encG t), .int .i64 c]] = some q := by
  have hs : smE a t c = 0 := by
    unfold spE at he
    by_cases k : smE a t c = 0
    · exact k
    · rw [if_neg k] at he; exact absurd he k
  obtain ⟨⟨a1, _⟩, h2, _⟩ := sm_ok hs
  exact ⟨_, spectrumBy_ok a t c ha ht he, refBy_is a t c ⟨a1, ha⟩ (fun z hz => gaussE_zero (h2 z hz))⟩
end Gv
