/- Sums: concatenation, copies, correlations from an index on. -/
import Derived.Test.YtojmddikkmiohaaP20
import Derived.Test.YtojmddikkmiohaaS2
import Derived.Test.YtojmddikkmiohaaGvYc
namespace Gv
open Go
set_option maxRecDepth 100000

def encB (bs : List (List ZZ)) : List PV := bs.map fun l => .list l.length (encG l)
theorem encB_get (bs : List (List ZZ)) (i : Nat) : (encB bs)[i]? = bs[i]?.map fun l => PV.list l.length (encG l) := by simp [encB]
end Gv

/- slices.Concat of lists of integers: all of them, one after the other. -/
namespace Gv
open Go


/-- How many they are. -/
def lensG (l : List (List ZZ)) : Nat := (l.map List.length).sum

theorem lensG_drop {l : List (List ZZ)} {i : Nat} {r : List ZZ} (h : l.drop i = r :: l.drop (i + 1)) : lensG (l.drop i) = r.length + lensG (l.drop (i + 1)) := by
  rw [h]; simp [lensG]

theorem concatG_sum (l : List (List ZZ)) (hl : l.length ≤ 1000000) (hs : lensG l ≤ 1000000) : ∀ i, i ≤ l.length → ∀ a : Nat, a + lensG (l.drop i) ≤ 1000000 →
    RconcatG_0 (TconcatG_0a l.length (encB l) (a : Int) l.length (encB l) (l.length : Int) (i : Int)) = exO (XconcatG_0a (l.length, encB l, ((a + lensG (l.drop i) : Nat) : Int))) := by
  refine up_ind _ ?_ ?_
  · intro a ha
    refine RconcatG_0a_of _ _ _ _ _ _ _ ?_
    unfold BconcatG_0a
    rw [bif_neg (by omega), List.drop_length]
    simp [lensG]
    rfl
  · intro i hi ih a ha
    obtain ⟨r, h1, h2⟩ := get_drop hi
    have h3 := lensG_drop h2
    refine RconcatG_0a_of _ _ _ _ _ _ _ ?_
    unfold BconcatG_0a
    rw [bif_pos (by omega), bif_pos (by omega), show (i : Int).toNat * 1 = i by omega, encB_get, h1]
    simp only [Option.map_some, listC_list, bindO_val]
    rw [w64_in (by omega), w64_in (by omega), bif_neg (by omega)]
    have := ih (a + r.length) (by omega)
    rw [show ((a + r.length : Nat) : Int) = (a : Int) + (r.length : Int) by omega, show a + r.length + lensG (l.drop (i + 1)) = a + lensG (l.drop i) by omega] at this
    exact this

theorem lensG_flat (l : List (List ZZ)) : lensG l = l.flatten.length := by simp [lensG]

theorem concatG_nil (l : List (List ZZ)) (hl : l.length ≤ 1000000) (hs : lensG l = 0) : ∀ i, i ≤ l.length →
    RconcatG_2 (TconcatG_2a l.length (encB l) (l.length : Int) (i : Int)) = exO (XconcatG_2a ()) := by
  refine up_ind _ ?_ ?_
  · refine RconcatG_2a_of _ _ _ _ ?_
    unfold BconcatG_2a
    rw [bif_neg (by omega)]
    rfl
  · intro i hi ih
    obtain ⟨r, h1, h2⟩ := get_drop hi
    have h3 : r.length = 0 := by
      rw [lensG_flat] at hs
      rw [List.flatten_eq_nil_iff.1 (List.length_eq_zero_iff.1 hs) r (List.mem_of_getElem? h1)]
      rfl
    refine RconcatG_2a_of _ _ _ _ ?_
    unfold BconcatG_2a
    rw [bif_pos (by omega), bif_pos (by omega), show (i : Int).toNat * 1 = i by omega, encB_get, h1]
    simp only [Option.map_some, listC_list, bindO_val]
    rw [bif_pos h3, w64_in (by omega)]
    exact ih

theorem concatG_all (l : List (List ZZ)) (hl : l.length ≤ 1000000) : ∀ i, i ≤ l.length → ∀ acc : List ZZ, acc.length + lensG (l.drop i) ≤ 1000000 →
    RconcatG_2 (TconcatG_2c acc.length (encG acc) l.length (encB l) (l.length : Int) (i : Int) acc.length) =
      exO (XconcatG_2c ((acc ++ (l.drop i).flatten).length, encG (acc ++ (l.drop i).flatten), (acc ++ (l.drop i).flatten).length)) := by
  refine up_ind _ ?_ ?_
  · intro acc ha
    refine RconcatG_2c_of _ _ _ _ _ _ _ ?_
    unfold BconcatG_2c
    rw [bif_neg (by omega), List.drop_length, List.flatten_nil, List.append_nil]
    rfl
  · intro i hi ih acc ha
    obtain ⟨r, h1, h2⟩ := get_drop hi
    have h3 := lensG_drop h2
    have he : acc ++ (l.drop i).flatten = (acc ++ r) ++ (l.drop (i + 1)).flatten := by rw [h2]; simp
    have next := ih (acc ++ r) (by rw [List.length_append]; omega)
    rw [← he, List.length_append, encG_app acc r] at next
    refine RconcatG_2c_of _ _ _ _ _ _ _ ?_
    unfold BconcatG_2c
    rw [bif_pos (by omega), bif_pos (by omega), show (i : Int).toNat * 1 = i by omega, encB_get, h1]
    simp only [Option.map_some, listC_list, bindO_val]
    rw [w64_in (by omega)]
    by_cases h0 : r.length = 0
    · have hr : r = [] := List.length_eq_zero_iff.1 h0
      subst hr
      rw [bif_pos h0]
      simp at next ⊢
      exact next
    · rw [bif_neg h0, bif_pos (by rw [encG_len]), bif_pos ⟨trivial, by unfold big; omega⟩]
      exact next

theorem concatG_is (l : List (List ZZ)) (hl : l.length ≤ 1000000) (hs : l.flatten.length ≤ 1000000) : FconcatG [.list l.length (encB l)] = some (l.flatten.length, encG l.flatten) := by
  have hs' := lensG_flat l
  refine FconcatG_of _ _ ?_
  have h1 := concatG_sum l hl (by omega) 0 (Nat.zero_le _) 0 (by simp; omega)
  simp only [List.drop_zero, Nat.zero_add] at h1
  unfold tconcatG
  rw [show (0 : Int) = ((0 : Nat) : Int) from rfl, LconcatG_0a_of h1, bindO_val]
  simp only
  by_cases h0 : lensG l = 0
  · have h2 := concatG_nil l hl h0 0 (Nat.zero_le _)
    rw [bif_pos (by omega), LconcatG_2a_of h2, bindO_val]
    have : l.flatten = [] := List.length_eq_zero_iff.1 (by omega)
    simp [this]
  · have h2 := concatG_all l hl 0 (Nat.zero_le _) [] (by simp; omega)
    simp only [List.drop_zero, List.nil_append, List.length_nil] at h2
    rw [bif_neg (by omega), bif_pos (by unfold big; omega)]
    rw [show ([] : List PV) = encG [] from rfl, LconcatG_2c_of h2, bindO_val]
    simp
end Gv


namespace Gv
open Go
set_option maxRecDepth 100000

theorem clone_is (l : List ZZ) (hl : l.length ≤ 1000000) : Fn env 118 (.one .list) [.list l.length (encG l)] = some (l.length, encG l) :=
  prim_fn rfl ⟨encG_len l, by unfold big; omega⟩

/-! Correlations of what is new -/
def corrF (l : List ZZ) (lag from' : Nat) : ZZ := sumC ((l.zip (l.drop lag)).drop (from' - lag)) (0, 0)
theorem corrFrom_is (l : List ZZ) (lag from' : Nat) (hl : l.length ≤ 1000) (hg : lag ≤ 1000) (hf : from' ≤ l.length) : Fpulse_correlation [.list l.length (encG l), .int .i64 lag, .int .i64 from'] = some (corrF l lag from') := by
  refine Fpulse_correlation_of _ _ _ _ ?_
  unfold tpulse_correlation
  have hz := zip_len l lag
  by_cases h : l.length < lag
  · have h1 := Lpulse_correlation_0a_of (corr_loop l lag hl hg 0 (by omega) (0, 0))
    rw [if_neg (by omega)]
    have h1 : Lpulse_correlation_0 (Tpulse_correlation_0a l.length (encG l) lag lag 0 0) = _ := h1
    rw [h1]
    unfold corrF
    rw [List.drop_eq_nil_of_le (by omega), List.drop_eq_nil_of_le (by omega)]
    rfl
  · have h1 := Lpulse_correlation_0a_of (corr_loop l lag hl hg (from' - lag) (by omega) (0, 0))
    have e : (if (from' : Int) > lag then (from' : Int) else lag) = ((lag + (from' - lag) : Nat) : Int) := by
      split <;> omega
    rw [e]
    have h1 : Lpulse_correlation_0 (Tpulse_correlation_0a l.length (encG l) lag ((lag + (from' - lag) : Nat) : Int) 0 0) = _ := h1
    rw [h1]
    rfl

/-! All lags, one after the other -/
def enc3 (f : Nat → ZZ) (j : Nat) : List PV := [.int .i64 (j : Int), .int .i64 (f j).1, .int .i64 (f j).2]
def en3 (f : Nat → ZZ) (n : Nat) : List PV := (List.range n).flatMap (enc3 f)
theorem en3_len (f : Nat → ZZ) (n : Nat) : (en3 f n).length = n * 3 := by
  unfold en3; rw [flat_len (enc3 f) 3 (fun _ => rfl)]; simp
theorem en3_succ (f : Nat → ZZ) (n : Nat) : en3 f (n + 1) = en3 f n ++ [.int .i64 (n : Int), .int .i64 (f n).1, .int .i64 (f n).2] := by
  simp [en3, List.range_succ, enc3]
theorem en3_take (f : Nat → ZZ) {n k : Nat} (h : k ≤ n) : (en3 f n).take (k * 3) = en3 f k := by
  unfold en3
  rw [flat_take (enc3 f) 3 (fun _ => rfl), List.take_range, Nat.min_eq_left h]
theorem en3_get (f : Nat → ZZ) {n i j : Nat} (h : i < n) (hj : j < 3) : (en3 f n)[i * 3 + j]? = (enc3 f i)[j]? := by
  unfold en3
  rw [flat_get (enc3 f) 3 (fun _ => rfl) _ _ _ hj, List.getElem?_range h]
  rfl

theorem corrs_loop (l : List ZZ) (a from' : Nat) (hl : l.length ≤ 1000) (ha : a ≤ 1000) (hf : from' ≤ l.length) (k : Nat) : ∀ i, i ≤ a → i ≤ k →
    Rpulse_corrs_1_0 (Tpulse_corrs_1_0a l.length (encG l) from' a i [none, some 2] k i (en3 (fun j => corrF l j from') i)) =
      if k < a then exO (Xpulse_corrs_1_0a ([none, some 2], k, k + 1, en3 (fun j => corrF l j from') (k + 1))) else exO (Xpulse_corrs_1_0b ([none, some 2], k, a, en3 (fun j => corrF l j from') a)) := by
  refine up_ind _ ?_ ?_
  · intro hk
    rw [if_neg (by omega)]
    refine Rpulse_corrs_1_0a_of _ _ _ _ _ _ _ _ _ ?_
    unfold Bpulse_corrs_1_0a
    rw [bif_neg (by omega)]
    rfl
  · intro i hi ih hk
    obtain ⟨r, hr⟩ : ∃ r, (if k < a then exO (Xpulse_corrs_1_0a ([none, some 2], k, k + 1, en3 (fun j => corrF l j from') (k + 1))) else exO (Xpulse_corrs_1_0b ([none, some 2], k, a, en3 (fun j => corrF l j from') a))) = some r := by
      split <;> exact ⟨_, rfl⟩
    rw [hr]
    refine Rpulse_corrs_1_0a_of _ _ _ _ _ _ _ _ _ ?_
    unfold Bpulse_corrs_1_0a
    rw [bif_pos (by omega)]
    simp only [corrFrom_is l i from' hl (by omega) hf, bindO_val]
    rw [bif_pos hk, show shapeOK [none, some 2] [PV.int IntKind.i64 (i : Int), encR (RSh.agg [CK.int IntKind.i64, CK.int IntKind.i64]) (corrF l i from')] = true from rfl, cond_true]
    have e := en3_succ (fun j => corrF l j from') i
    rw [← e]
    by_cases he : i = k
    · subst he
      rw [show (i != i) = false from by simp, cond_false]
      rw [if_pos hi] at hr
      exact hr
    · rw [show (i != k) = true from by simp [he], cond_true, w64_in (by omega)]
      rw [← hr]
      exact ih (by omega)

theorem corrsIt_is (l : List ZZ) (a from' : Nat) (hl : l.length ≤ 1000) (ha : a ≤ 1000) (hf : from' ≤ l.length) : Fn env 146 (.one .list) [.it [none, some 2] 0, .imm [.int .i64 a] 0, .imm [.list l.length (encG l)] 0, .imm [.int .i64 from'] 0] = some (a, en3 (fun j => corrF l j from') a) := by
  refine it_of (by simp only [big]; omega) (by rw [en3_len]; rfl) fun k hk => ?_
  refine Fpulse_corrs_1_of _ _ _ _ _ ?_
  unfold tpulse_corrs_1
  have h := corrs_loop l a from' hl ha hf k 0 (by omega) (by omega)
  rw [show en3 (fun j => corrF l j from') 0 = [] from rfl, show ((0 : Nat) : Int) = 0 from rfl] at h
  rw [show min (k + 1) a * shSize [none, some 2] = min (k + 1) a * 3 from rfl, en3_take _ (Nat.min_le_right _ _)]
  by_cases hc : k < a
  · rw [if_pos hc] at h
    have l := Lpulse_corrs_1_0a_of h
    simp only [l, bindO_val, Sum.elim_inl]
    rw [Nat.min_eq_left (by omega)]
  · rw [if_neg hc] at h
    have l := Lpulse_corrs_1_0b_of h
    simp only [l, bindO_val, Sum.elim_inr]
    rw [Nat.min_eq_right (by omega)]

/-! Which sums are valid -/
def mnC (a : List ZZ) (c : Int) : Int := if (a.length : Int) - 1 < c then (a.length : Int) - 1 else c
def smP (a t : List ZZ) (c : Int) : Int × Int :=
  if (listE 12 1000000000000 a).2 ≠ 0 then listE 12 1000000000000 a
  else if both (rangeE c 0 1000000000000) (if (t.length : Int) ≠ mnC a c then 10 else 0) ≠ 0 then (0, both (rangeE c 0 1000000000000) (if (t.length : Int) ≠ mnC a c then 10 else 0))
  else (findE (gaussE 1000) t 0).getD (0, 0)
def smE (a t : List ZZ) (c : Int) : Int := (smP a t c).2
theorem checkSum_is (a t : List ZZ) (c : Int) (ha : a.length < 4294967296) (ht : t.length < 4294967296) : Fpulse_CheckSum [.agg [.list a.length (encG a), .list t.length (encG t), .int .i64 c]] = some (smP a t c) := by
  refine Fpulse_CheckSum_of _ _ _ _ _ ?_
  unfold tpulse_CheckSum smP
  simp only [listG_is 12 1000000000000 (by omega) a ha, bindO_val, rangeError_is, errorIf_is, firstError2_is, itemG_is 1000 (by omega) t ht, bif_ne]
  rw [w64_in (n := (a.length : Int) - 1) (by omega), show (if (a.length : Int) - 1 < c then (a.length : Int) - 1 else c) = mnC a c from rfl]
  by_cases h1 : (listE 12 1000000000000 a).2 = 0
  · rw [if_pos h1, if_neg (show ¬ (listE 12 1000000000000 a).2 ≠ 0 by omega)]
    by_cases h2 : (t.length : Int) = mnC a c
    · rw [if_pos h2, if_neg (show ¬ (t.length : Int) ≠ mnC a c by omega)]
      simp only [Bool.false_eq_true, if_false]
      by_cases h3 : both (rangeE c 0 1000000000000) 0 = 0
      · rw [if_pos h3, if_neg (by simpa using h3)]
      · rw [if_neg h3, if_pos h3]
    · rw [if_neg h2, if_pos h2]
      simp only [if_true]
      by_cases h3 : both (rangeE c 0 1000000000000) 10 = 0
      · rw [if_pos h3, if_neg (by simpa using h3)]
      · rw [if_neg h3, if_pos h3]
  · rw [if_neg h1, if_pos h1]
theorem sumError_is (a t : List ZZ) (c : Int) (ha : a.length < 4294967296) (ht : t.length < 4294967296) : Fpulse_sumError [.agg [.list a.length (encG a), .list t.length (encG t), .int .i64 c]] = some (smE a t c) := by
  refine Fpulse_sumError_of _ _ _ _ _ ?_
  unfold tpulse_sumError
  simp only [checkSum_is a t c ha ht, bindO_val]
  rfl
end Gv
