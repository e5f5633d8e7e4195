/- The spectrum by a sum: the program's and the specification's. -/
import Derived.Test.YtojmddikkmiohaaS36
import Derived.Test.YtojmddikkmiohaaP27
import Derived.Test.YtojmddikkmiohaaP28
import Derived.Test.YtojmddikkmiohaaGvYi
namespace Gv
open Go
set_option maxRecDepth 100000

/-- The power of a line: from so many lags on, so many of them. -/
def spG (a : List ZZ) (k : Nat) : Nat → Nat → Int → Int
  | 0, _, s => s
  | m + 1, i, s => spG a k m (i + 1) (w64 (s + w64 (2 * (trn (a.getD i (0, 0)) ((i * k : Nat) : Int)).1)))
def spV (a : List ZZ) (k : Nat) : Int := spG a k (a.length - 1) 1 (a.getD 0 (0, 0)).1
def ptL (a : List ZZ) (k : Nat) : List Int := (List.range k).map (spV a) ++ List.replicate (4 - k) 0

theorem overO_I (pre r : List Int) (x y : Int) {k : Nat} (hk : pre.length = k) : overO (encI (pre ++ x :: r)) (0 + (k : Int).toNat * 1) [.int .i64 y] = some (encI (pre ++ y :: r)) := by
  subst hk
  rw [Int.toNat_natCast, overO_of (by rw [encI_len]; simp), over_I]
theorem read_I (pre r : List Int) (x : Int) {k : Nat} (hk : pre.length = k) : (encI (pre ++ x :: r))[0 + (k : Int).toNat * 1]? = some (.int .i64 x) := by
  subst hk
  rw [Int.toNat_natCast, Nat.zero_add, Nat.mul_one, encI_get, List.getElem?_append_right (Nat.le_refl _), Nat.sub_self]
  rfl

section
variable (a t : List ZZ) (c : Int)
theorem refBy2 (ha : a.length ≤ 1000) (hz : ∀ z ∈ a, Small 1000000000000 z) {k : Nat} (hk : k < 4) (pre r : List Int) (hp : pre.length = k) : ∀ i, i ≤ a.length → 1 ≤ i → ∀ s : Int,
    Rglidepathref01_By_2 (Tglidepathref01_By_2a k i a.length (encG a) t.length (encG t) c (encI (pre ++ s :: r))) = exO (Xglidepathref01_By_2a (k, a.length, encG a, t.length, encG t, c, encI (pre ++ spG a k (a.length - i) i s :: r))) := by
  refine up_ind _ ?_ ?_
  · intro _ s
    refine Rglidepathref01_By_2a_of _ _ _ _ _ _ _ _ ?_
    unfold Bglidepathref01_By_2a
    rw [bif_neg (by omega), Nat.sub_self]
    rfl
  · intro i hi ih h1 s
    obtain ⟨z, hx, _⟩ := get_drop hi
    have hd : a.getD i (0, 0) = z := by rw [List.getD_eq_getElem?_getD, hx]; rfl
    refine Rglidepathref01_By_2a_of _ _ _ _ _ _ _ _ ?_
    unfold Bglidepathref01_By_2a
    have hik : w64 ((i : Int) * k) = ((i * k : Nat) : Int) := by
      have : i * k ≤ 1000 * 4 := Nat.mul_le_mul (by omega) (by omega)
      rw [w64_in (by rw [← Int.natCast_mul]; omega), Int.natCast_mul]
    rw [bif_pos (by omega), bif_pos (by omega)]
    simp only [read_I pre r s hp, intC_int, bindO_val]
    rw [bif_pos (by omega), show (i : Int).toNat = i by omega]
    simp only [encG_0, encG_1, hx, Option.map_some, intC_int, bindO_val, hik, refTurned_is z ((i * k : Nat) : Int) ⟨by omega, by have : i * k ≤ 1000 * 4 := Nat.mul_le_mul (by omega) (by omega); omega⟩ (hz z (List.mem_of_getElem? hx))]
    rw [bif_pos (by omega)]
    simp only [overO_I pre r s _ hp, bindO_val]
    rw [w64_in (n := (i : Int) + 1) (by omega), show a.length - i = (a.length - (i + 1)) + 1 by omega, spG, hd]
    exact ih (by omega) _
theorem by2 (ha : a.length ≤ 1000) (hz : ∀ z ∈ a, Small 1000000000000 z) {k : Nat} (hk : k < 4) (pre r : List Int) (hp : pre.length = k) : ∀ j, j ≤ a.length - 1 → ∀ s : Int,
    Rpulse_SpectrumBy_2 (Tpulse_SpectrumBy_2a k k (a.length - 1) (encG (a.drop 1)) ((a.length - 1 : Nat) : Int) j a.length (encG a) t.length (encG t) c (encI (pre ++ s :: r))) =
      exO (Xpulse_SpectrumBy_2a (k, a.length, encG a, t.length, encG t, c, encI (pre ++ spG a k (a.length - 1 - j) (j + 1) s :: r))) := by
  refine up_ind _ ?_ ?_
  · intro s
    refine Rpulse_SpectrumBy_2a_of _ _ _ _ _ _ _ _ _ _ _ _ ?_
    unfold Bpulse_SpectrumBy_2a
    rw [bif_neg (by omega), Nat.sub_self]
    rfl
  · intro j hj ih s
    have hi : j + 1 < a.length := by omega
    obtain ⟨z, hx, _⟩ := get_drop hi
    have hd : a.getD (j + 1) (0, 0) = z := by rw [List.getD_eq_getElem?_getD, hx]; rfl
    have hx1 : (a.drop 1)[j]? = some z := by rw [List.getElem?_drop, Nat.add_comm]; exact hx
    refine Rpulse_SpectrumBy_2a_of _ _ _ _ _ _ _ _ _ _ _ _ ?_
    unfold Bpulse_SpectrumBy_2a
    have hik : w64 (((j : Int) + 1) * k) = (((j + 1) * k : Nat) : Int) := by
      have : (j + 1) * k ≤ 1000 * 4 := Nat.mul_le_mul (by omega) (by omega)
      have e : ((j : Int) + 1) * k = (((j + 1) * k : Nat) : Int) := by rw [Int.natCast_mul]; rfl
      rw [e, w64_in (by omega)]
    have sm : Small 4611686018427387904 z := by
      have := hz z (List.mem_of_getElem? hx)
      unfold Small at this ⊢
      omega
    rw [bif_pos (by omega), bif_pos (by omega), show (j : Int).toNat = j by omega]
    simp only [encG_0, encG_1, hx1, Option.map_some, intC_int, bindO_val]
    rw [bif_pos (by omega)]
    simp only [read_I pre r s hp, intC_int, bindO_val]
    rw [w64_in (n := (j : Int) + 1) (by omega), hik]
    simp only [turned_is z (((j + 1) * k : Nat) : Int) (by omega) sm, bindO_val]
    rw [bif_pos (by omega)]
    simp only [overO_I pre r s _ hp, bindO_val]
    rw [show a.length - 1 - j = (a.length - 1 - (j + 1)) + 1 by omega, spG, hd]
    exact ih _

theorem pt_step {k : Nat} (hk : k < 4) : ptL a k = (List.range k).map (spV a) ++ 0 :: List.replicate (3 - k) 0 := by
  unfold ptL
  rw [show 4 - k = (3 - k) + 1 by omega]
  rfl
theorem pt_next {k : Nat} (hk : k < 4) : (List.range k).map (spV a) ++ spV a k :: List.replicate (3 - k) 0 = ptL a (k + 1) := by
  unfold ptL
  rw [List.range_succ, List.map_append, List.append_assoc, show 4 - (k + 1) = 3 - k by omega]
  rfl
theorem refBy0 (ha : 1 ≤ a.length ∧ a.length ≤ 1000) (hz : ∀ z ∈ a, Small 1000000000000 z) : ∀ k : Nat, k ≤ 4 →
    Rglidepathref01_By_0 (Tglidepathref01_By_0a k a.length (encG a) t.length (encG t) c (encI (ptL a k))) = exO (Xglidepathref01_By_0a (a.length, encG a, t.length, encG t, c, encI (ptL a 4))) := by
  refine up_ind _ ?_ ?_
  · refine Rglidepathref01_By_0a_of _ _ _ _ _ _ _ ?_
    unfold Bglidepathref01_By_0a
    rw [bif_neg (by omega)]
    rfl
  · intro k hk ih
    obtain ⟨z, hx, _⟩ := get_drop (show 0 < a.length by omega)
    have hd : a.getD 0 (0, 0) = z := by rw [List.getD_eq_getElem?_getD, hx]; rfl
    have e0 := encG_0 a 0
    rw [hx] at e0
    simp only [Nat.zero_mul, Option.map_some] at e0
    have hp : ((List.range k).map (spV a)).length = k := by simp
    refine Rglidepathref01_By_0a_of _ _ _ _ _ _ _ ?_
    unfold Bglidepathref01_By_0a
    have h2 := Lglidepathref01_By_2a_of (refBy2 a t c ha.2 hz hk _ (List.replicate (3 - k) 0) hp 1 ha.1 (by omega) z.1)
    rw [show ((1 : Nat) : Int) = 1 from rfl] at h2
    rw [bif_pos (by omega), bif_pos (by omega), pt_step a hk]
    simp only [e0, intC_int, bindO_val]
    rw [bif_pos (by omega)]
    simp only [overO_I _ (List.replicate (3 - k) 0) 0 z.1 hp, bindO_val, h2]
    rw [w64_in (n := (k : Int) + 1) (by omega)]
    have ev : spG a k (a.length - 1) 1 z.1 = spV a k := by unfold spV; rw [hd]
    rw [ev, pt_next a hk]
    exact ih
theorem by0 (ha : 1 ≤ a.length ∧ a.length ≤ 1000) (hz : ∀ z ∈ a, Small 1000000000000 z) : ∀ k : Nat, k ≤ 4 →
    Rpulse_SpectrumBy_0 (Tpulse_SpectrumBy_0a k a.length (encG a) t.length (encG t) c (encI (ptL a k))) = exO (Xpulse_SpectrumBy_0a (a.length, encG a, t.length, encG t, c, encI (ptL a 4))) := by
  refine up_ind _ ?_ ?_
  · refine Rpulse_SpectrumBy_0a_of _ _ _ _ _ _ _ ?_
    unfold Bpulse_SpectrumBy_0a
    rw [bif_neg (by omega)]
    rfl
  · intro k hk ih
    obtain ⟨z, hx, _⟩ := get_drop (show 0 < a.length by omega)
    have hd : a.getD 0 (0, 0) = z := by rw [List.getD_eq_getElem?_getD, hx]; rfl
    have e0 := encG_0 a 0
    rw [hx] at e0
    simp only [Nat.zero_mul, Option.map_some] at e0
    have hp : ((List.range k).map (spV a)).length = k := by simp
    refine Rpulse_SpectrumBy_0a_of _ _ _ _ _ _ _ ?_
    unfold Bpulse_SpectrumBy_0a
    have h2 := Lpulse_SpectrumBy_2a_of (by2 a t c ha.2 hz hk _ (List.replicate (3 - k) 0) hp 0 (by omega) z.1)
    rw [show ((0 : Nat) : Int) = 0 from rfl, Nat.sub_zero, Nat.zero_add] at h2
    have et : (encG a).drop 2 = encG (a.drop 1) := encG_drop a 1
    have el : List.take ((a.length - 1) * 2) (encG (a.drop 1)) = encG (a.drop 1) := List.take_of_length_le (by rw [encG_len, List.length_drop]; omega)
    rw [bif_pos (by omega), bif_pos (by omega), pt_step a hk]
    simp only [e0, intC_int, bindO_val]
    rw [bif_pos (by omega)]
    simp only [overO_I _ (List.replicate (3 - k) 0) 0 z.1 hp, bindO_val]
    rw [bif_pos (by omega), bif_pos (by rw [encG_len]; omega), et, el, h2, bindO_val]
    simp only
    rw [w64_in (n := (k : Int) + 1) (by omega)]
    have ev : spG a k (a.length - 1) 1 z.1 = spV a k := by unfold spV; rw [hd]
    rw [ev, pt_next a hk]
    exact ih

theorem refBy_is (ha : 1 ≤ a.length ∧ a.length ≤ 1000) (hz : ∀ z ∈ a, Small 1000000000000 z) :
    Fglidepathref01_By [.agg [.list a.length (encG a), .list t.length (encG t), .int .i64 c]] = some (spV a 0, spV a 1, spV a 2, spV a 3) := by
  refine Fglidepathref01_By_of _ _ _ _ _ ?_
  unfold tglidepathref01_By
  have h := Lglidepathref01_By_0a_of (refBy0 a t c ha hz 0 (by omega))
  have h : Lglidepathref01_By_0 (Tglidepathref01_By_0a 0 a.length (encG a) t.length (encG t) c [.int .i64 0, .int .i64 0, .int .i64 0, .int .i64 0]) = _ := h
  rw [h]
  rfl
theorem spectrumBy_ok (ha : a.length ≤ 1000) (ht : t.length ≤ 1000) (he : spE a t c = 0) :
    Fpulse_SpectrumBy [.agg [.list a.length (encG a), .list t.length (encG t), .int .i64 c]] = some (spV a 0, spV a 1, spV a 2, spV a 3, 0) := by
  have hs : smE a t c = 0 := by
    unfold spE at he
    by_cases k : smE a t c = 0
    · exact k
    · rw [if_neg k] at he; exact absurd he k
  have hc : ¬ c > a.length := by
    unfold spE at he
    rw [if_pos hs] at he
    split at he
    · cases he
    · assumption
  obtain ⟨⟨a1, _⟩, h2, _⟩ := sm_ok hs
  refine Fpulse_SpectrumBy_of _ _ _ _ _ ?_
  unfold tpulse_SpectrumBy
  have h := Lpulse_SpectrumBy_0a_of (by0 a t c ⟨a1, ha⟩ (fun z hz => gaussE_zero (h2 z hz)) 0 (by omega))
  have h : Lpulse_SpectrumBy_0 (Tpulse_SpectrumBy_0a 0 a.length (encG a) t.length (encG t) c [.int .i64 0, .int .i64 0, .int .i64 0, .int .i64 0]) = _ := h
  simp only [sumError_is a t c (by omega) (by omega), errorIf_is, firstError2_is, bindO_val, hs]
  rw [bif_neg hc]
  simp only [Bool.false_eq_true, if_false]
  rw [show (both 0 0 != 0) = false from rfl, cond_false, h]
  rfl
theorem spectrumBy_bad' (ha : a.length ≤ 1000) (ht : t.length ≤ 1000) (he : spE a t c ≠ 0) :
    Fpulse_SpectrumBy [.agg [.list a.length (encG a), .list t.length (encG t), .int .i64 c]] = some (0, 0, 0, 0, spE a t c) := by
  refine Fpulse_SpectrumBy_of _ _ _ _ _ ?_
  unfold tpulse_SpectrumBy
  simp only [sumError_is a t c (by omega) (by omega), errorIf_is, firstError2_is, bindO_val]
  unfold spE at he ⊢
  by_cases hs : smE a t c = 0
  · rw [if_pos hs] at he ⊢
    by_cases hc : c > a.length
    · rw [bif_pos hc, if_pos hc, hs]
      rfl
    · rw [if_neg hc] at he
      exact absurd rfl he
  · rw [if_neg hs]
    have hb : ∀ x, both (smE a t c) x = smE a t c := fun x => if_pos hs
    have hn : (smE a t c != 0) = true := by simpa using hs
    by_cases hc : c > a.length
    · rw [bif_pos hc, hb, hn]; rfl
    · rw [bif_neg hc, hb, hn]; rfl
end
theorem spectrumBy_bad {a t : List ZZ} {c : Int} (ha : a.length ≤ 1000) (ht : t.length ≤ 1000) (he : spE a t c ≠ 0) :
    Fpulse_SpectrumBy [.agg [.list a.length (encG a), .list t.length (encG t), .int .i64 c]] = some (0, 0, 0, 0, spE a t c) := spectrumBy_bad' a t c ha ht he
theorem spectra_are {a t : List ZZ} {c : Int} (ha : a.length ≤ 1000) (ht : t.length ≤ 1000) (he : spE a t c = 0) : ∃ q : Int × Int × Int × Int,
    Fpulse_SpectrumBy [.agg [.list a.length (encG a), .list t.length (encG t), .int .i64 c]] = some (q.1, q.2.1, q.2.2.1, q.2.2.2, 0) ∧
    Fglidepathref01_By [.agg [.list a.length (encG a), .list t.length (encG t), .int .i64 c]] = some q := by
  have hs : smE a t c = 0 := by
    unfold spE at he
    by_cases k : smE a t c = 0
    · exact k
    · rw [if_neg k] at he; exact absurd he k
  obtain ⟨⟨a1, _⟩, h2, _⟩ := sm_ok hs
  exact ⟨_, spectrumBy_ok a t c ha ht he, refBy_is a t c ⟨a1, ha⟩ (fun z hz => gaussE_zero (h2 z hz))⟩
end Gv
