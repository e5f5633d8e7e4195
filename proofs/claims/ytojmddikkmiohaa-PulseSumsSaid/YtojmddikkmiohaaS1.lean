/- Blocks, mixing and correlations: the program's and the specification's are the same. -/
import Derived.Test.YtojmddikkmiohaaS0
namespace Gv
open Go
set_option maxRecDepth 100000

def listE (m k : Int) (l : List ZZ) : Int × Int := if l.length = 0 then (0, 10) else if m < l.length then (0, 8) else (findE (gaussE k) l 0).getD (0, 0)

theorem itemG_is (m : Int) (hm : 0 ≤ m ∧ m ≤ 4611686018427387904) (l : List ZZ) (hl : l.length < 4294967296) :
    Fpulse_itemError_glidepath_api_Gauss_ [.list l.length (encG l), .fn 138 [.imm [.int .i64 m] 0]] = some ((findE (gaussE m) l 0).getD (0, 0)) := by
  refine Fpulse_itemError_glidepath_api_Gauss__of _ _ _ ?_
  unfold tpulse_itemError_glidepath_api_Gauss_
  have := lpO_of Ipulse_itemError_glidepath_api_Gauss__0 XIpulse_itemError_glidepath_api_Gauss__0 (itemG_loop m hm l hl 0 (by omega))
  have this : Lpulse_itemError_glidepath_api_Gauss__0 (Tpulse_itemError_glidepath_api_Gauss__0a m l.length (encG l) l.length 0) = _ := this
  rw [this]
  simp only [bindO_val, List.drop_zero]
  cases findE (gaussE m) l 0 <;> rfl

theorem listG_is (m k : Int) (hm : 0 ≤ k ∧ k ≤ 4611686018427387904) (l : List ZZ) (hl : l.length < 4294967296) :
    Fpulse_listError_glidepath_api_Gauss_ [.list l.length (encG l), .int .i64 m, .fn 138 [.imm [.int .i64 k] 0]] = some (listE m k l) := by
  refine Fpulse_listError_glidepath_api_Gauss__of _ _ _ _ ?_
  unfold tpulse_listError_glidepath_api_Gauss_ listE
  simp only [errorIf_is, firstError2_is, bindO_val, itemG_is k hm l hl, bif_eq, bif_ne, both]
  by_cases h1 : l.length = 0
  · simp [h1]
  · by_cases h2 : m < l.length <;> simp [h1, h2]

theorem checkBlock_is (l : List ZZ) (hl : l.length < 4294967296) : Fpulse_CheckBlock [.list l.length (encG l)] = some (listE 48 1000 l) := by
  refine Fpulse_CheckBlock_of _ _ ?_
  unfold tpulse_CheckBlock
  simp only [listG_is 48 1000 (by omega) l hl, bindO_val]

def blockE (l : List ZZ) : Int := (listE 48 1000 l).2

theorem blockError_is (l : List ZZ) (hl : l.length < 4294967296) : Fpulse_blockError [.list l.length (encG l)] = some (blockE l) := by
  refine Fpulse_blockError_of _ _ ?_
  unfold tpulse_blockError
  simp only [checkBlock_is l hl, bindO_val]
  rfl

/-! The specification's -/

theorem isGauss_is (z : ZZ) (m : Int) (hm : 0 ≤ m ∧ m ≤ 4611686018427387904) : Fglidepathref01_isGauss [.agg [.int .i64 z.1, .int .i64 z.2], .int .i64 m] = some (decide (gaussE m z = 0)) := by
  refine Fglidepathref01_isGauss_of _ _ _ ?_
  unfold tglidepathref01_isGauss
  rw [w64_in (by omega), Int.zero_sub]
  simp only [within_is, bindO_val]
  by_cases h1 : -m ≤ z.1 ∧ z.1 ≤ m <;> by_cases h2 : -m ≤ z.2 ∧ z.2 ≤ m
  · have : gaussE m z = 0 := by unfold gaussE; rw [rangeE_in h1, rangeE_in h2]; rfl
    rw [bif_pos h1, bif_pos h2]; simp [this]
  · have : gaussE m z = 2 := by unfold gaussE; rw [rangeE_in h1, rangeE_out h2]; rfl
    rw [bif_pos h1, bif_neg h2]; simp [this]
  · have : gaussE m z = 2 := by unfold gaussE; rw [rangeE_out h1]; rfl
    rw [bif_neg h1]; simp [this]
  · have : gaussE m z = 2 := by unfold gaussE; rw [rangeE_out h1]; rfl
    rw [bif_neg h1]; simp [this]

theorem gaussE_or (m : Int) (z : ZZ) : gaussE m z = 0 ∨ gaussE m z = 2 := by
  unfold gaussE both rangeE
  by_cases h1 : z.1 < -m ∨ m < z.1 <;> by_cases h2 : z.2 < -m ∨ m < z.2 <;> simp [h1, h2]

def sumI (o : Option (Int × Int)) : Int ⊕ Unit := match o with
  | some p => .inl p.1
  | none => .inr ()

theorem refBlock_loop (l : List ZZ) (hl : l.length < 4294967296) : ∀ i, i ≤ l.length →
    Rglidepathref01_CheckBlock_0 (Tglidepathref01_CheckBlock_0a l.length (encG l) i) = exO (XLglidepathref01_CheckBlock_0.fn (sumI (findE (gaussE 1000) (l.drop i) i))) := by
  refine up_ind _ ?_ ?_
  · refine Rglidepathref01_CheckBlock_0a_of _ _ _ ?_
    unfold Bglidepathref01_CheckBlock_0a
    rw [bif_neg (by omega), List.drop_length]
    rfl
  · intro i hi ih
    refine Rglidepathref01_CheckBlock_0a_of _ _ _ ?_
    unfold Bglidepathref01_CheckBlock_0a
    obtain ⟨x, hx, hd⟩ := get_drop hi
    rw [bif_pos (by omega), bif_pos (by omega)]
    simp only [Int.toNat_natCast, encG_0, encG_1, hx, Option.map_some, intC_int, bindO_val, isGauss_is x 1000 (by omega)]
    rw [hd, w64_in (by omega)]
    by_cases he : gaussE 1000 x = 0
    · rw [bif_pos he]
      simp only [findE, he, ne_eq, not_true_eq_false, if_false]
      exact ih
    · rw [bif_neg he]
      simp only [findE, ne_eq, he, not_false_eq_true, if_true]
      rfl

theorem findE_two (m : Int) : ∀ (l : List ZZ) (i : Nat) (p : Int × Int), findE (gaussE m) l i = some p → p.2 = 2
  | [], _, _, h => by simp [findE] at h
  | x :: l, i, p, h => by
    simp only [findE] at h
    split at h
    · rename_i hx
      simp at h
      subst h
      rcases gaussE_or m x with h | h
      · exact absurd h hx
      · exact h
    · exact findE_two m l (i + 1) p h

theorem refCheckBlock_is (l : List ZZ) : Fglidepathref01_CheckBlock [.list l.length (encG l)] = some (listE 48 1000 l) := by
  refine Fglidepathref01_CheckBlock_of _ _ ?_
  unfold tglidepathref01_CheckBlock listE
  simp only [bif_eq]
  by_cases h1 : l.length = 0
  · simp [h1]
  · by_cases h2 : 48 < l.length
    · rw [if_neg (by omega), bif_pos (by omega), if_neg h1, if_pos (by omega)]
    · have := lpO_of Iglidepathref01_CheckBlock_0 XIglidepathref01_CheckBlock_0 (refBlock_loop l (by omega) 0 (by omega))
      have this : Lglidepathref01_CheckBlock_0 (Tglidepathref01_CheckBlock_0a l.length (encG l) 0) = _ := this
      rw [this]
      simp only [bindO_val, List.drop_zero]
      rw [if_neg (by omega), bif_neg (by omega), if_neg h1, if_neg (by omega)]
      cases h : findE (gaussE 1000) l 0 with
      | none => rfl
      | some p =>
        have := findE_two 1000 l 0 p h
        obtain ⟨a, b⟩ := p
        simp only at this
        subst this
        rfl

theorem refBlockErr_is (l : List ZZ) : Fglidepathref01_BlockErr [.list l.length (encG l)] = some (blockE l) := by
  refine Fglidepathref01_BlockErr_of _ _ ?_
  unfold tglidepathref01_BlockErr
  simp only [refCheckBlock_is l, bindO_val]
  rfl

/-! Valid blocks -/

theorem findE_none {m : Int} : ∀ {l : List ZZ} {i : Nat}, findE (gaussE m) l i = none → ∀ z ∈ l, gaussE m z = 0
  | [], _, _, z, hz => by simp at hz
  | x :: l, i, h, z, hz => by
    simp only [findE] at h
    split at h
    · cases h
    · rename_i hx
      rcases List.mem_cons.1 hz with rfl | hz
      · simpa using hx
      · exact findE_none h z hz

theorem gaussE_zero {m : Int} {z : ZZ} (h : gaussE m z = 0) : (-m ≤ z.1 ∧ z.1 ≤ m) ∧ -m ≤ z.2 ∧ z.2 ≤ m := by
  by_cases h1 : -m ≤ z.1 ∧ z.1 ≤ m
  · by_cases h2 : -m ≤ z.2 ∧ z.2 ≤ m
    · exact ⟨h1, h2⟩
    · unfold gaussE at h
      rw [rangeE_in h1, rangeE_out h2] at h
      cases h
  · unfold gaussE at h
    rw [rangeE_out h1] at h
    cases h

theorem block_ok {l : List ZZ} (h : blockE l = 0) : 1 ≤ l.length ∧ l.length ≤ 48 ∧ ∀ z ∈ l, (-1000 ≤ z.1 ∧ z.1 ≤ 1000) ∧ -1000 ≤ z.2 ∧ z.2 ≤ 1000 := by
  unfold blockE listE at h
  split at h
  · cases h
  · split at h
    · cases h
    · rename_i h1 h2
      cases hf : findE (gaussE 1000) l 0 with
      | some p =>
        rw [hf] at h
        have := findE_two 1000 l 0 p hf
        simp at h
        omega
      | none => exact ⟨by omega, by omega, fun z hz => gaussE_zero (findE_none hf z hz)⟩

theorem blockE_err (l : List ZZ) : blockE l = 0 ∨ blockE l = 10 ∨ blockE l = 8 ∨ blockE l = 2 := by
  unfold blockE listE
  split
  · simp
  · split
    · simp
    · cases hf : findE (gaussE 1000) l 0 with
      | none => simp
      | some p => have := findE_two 1000 l 0 p hf; simp [this]

/-! Copies -/
theorem copyG_is (l : List ZZ) (hl : l.length ≤ 1000000) : Fglidepathbase_CopyGausses [.list l.length (encG l)] = some (l.length, encG l) := by
  refine Fglidepathbase_CopyGausses_of _ _ ?_
  unfold tglidepathbase_CopyGausses
  by_cases h : l.length = 0
  · rw [bif_pos h]
    have := List.eq_nil_of_length_eq_zero h
    subst this
    rfl
  · rw [bif_neg h, bif_pos (by simp), bif_pos ⟨rfl, by simp only [big]; omega⟩, bif_pos rfl]
    simp

/-! Quarters of a turn -/
def trn (z : ZZ) (q : Int) : ZZ := if q % 4 = 1 then (z.2, -z.1) else if q % 4 = 2 then (-z.1, -z.2) else if q % 4 = 3 then (-z.2, z.1) else z

def Small (m : Int) (z : ZZ) : Prop := (-m ≤ z.1 ∧ z.1 ≤ m) ∧ -m ≤ z.2 ∧ z.2 ≤ m

theorem turned_is (z : ZZ) (q : Int) (hq : 0 ≤ q) (hz : Small 4611686018427387904 z) : Fpulse_turned [.agg [.int .i64 z.1, .int .i64 z.2], .int .i64 q] = some (trn z q) := by
  refine Fpulse_turned_of _ _ _ ?_
  unfold tpulse_turned trn
  obtain ⟨h1, h2⟩ := hz
  rw [w64_in (by omega), w64_in (by omega), Int.tmod_eq_emod_of_nonneg hq]
  simp only [bif_eq, Int.zero_sub]
  split
  · rfl
  · split
    · rfl
    · split <;> rfl

theorem mod_is (a b : Int) (ha : -4611686018427387904 ≤ a ∧ a ≤ 4611686018427387904) (hb : 1 ≤ b ∧ b ≤ 4611686018427387904) : Fglidepathbase_Mod [.int .i64 a, .int .i64 b] = some (a % b) := by
  refine Fglidepathbase_Mod_of _ _ ?_
  unfold tglidepathbase_Mod
  rw [bif_pos (by omega)]
  have h0 : a.tmod b = if 0 ≤ a then a % b else -((-a) % b) := by
    split
    · rw [Int.tmod_eq_emod_of_nonneg (by assumption)]
    · have := Int.neg_tmod (a := -a) (b := b)
      rw [Int.neg_neg] at this
      rw [this, Int.tmod_eq_emod_of_nonneg (by omega)]
  have h1 := Int.emod_nonneg a (by omega : b ≠ 0)
  have h2 := Int.emod_lt_of_pos a (by omega : 0 < b)
  have h3 := Int.emod_nonneg (-a) (by omega : b ≠ 0)
  have h4 := Int.emod_lt_of_pos (-a) (by omega : 0 < b)
  by_cases hs : 0 ≤ a
  · rw [h0, if_pos hs, bif_neg (by omega)]
  · rw [h0, if_neg hs]
    have e : a % b = if (-a) % b = 0 then 0 else b - (-a) % b := by
      rw [Int.neg_emod]
      by_cases hd : b ∣ a
      · have : a % b = 0 := Int.emod_eq_zero_of_dvd hd
        simp [hd, this]
      · have hn : a % b ≠ 0 := fun h => hd (Int.dvd_of_emod_eq_zero h)
        have hb' : (b.natAbs : Int) = b := by omega
        simp only [if_neg hd, hb']
        split <;> omega
    by_cases hz : (-a) % b = 0
    · rw [hz, bif_neg (by omega), e, if_pos hz]; rfl
    · rw [bif_pos (by omega), w64_in (by omega), e, if_neg hz]
      congr 1
      omega
end Gv
