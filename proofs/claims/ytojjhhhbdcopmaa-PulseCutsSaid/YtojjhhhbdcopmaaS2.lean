import Derived.Test.YtojjhhhbdcopmaaGvY
import Derived.Test.YtojjhhhbdcopmaaP1

/- What the small functions give: errors, ranges, numbers with two parts. -/
namespace Gv
open Go
set_option maxRecDepth 100000

theorem up_ind {P : Nat → Prop} (n : Nat) (hend : P n) (hstep : ∀ i, i < n → P (i + 1) → P i) : ∀ i, i ≤ n → P i := by
  intro i hi
  obtain ⟨k, hk⟩ : ∃ k, k = n - i := ⟨_, rfl⟩
  induction k generalizing i with
  | zero => rw [show i = n by omega]; exact hend
  | succ k ih => exact hstep i (by omega) (ih (i + 1) (by omega) (by omega))

theorem bif_pos {α : Type} {p : Prop} [Decidable p] {a b : α} (h : p) : (bif decide p then a else b) = a := by simp [h]
theorem bif_neg {α : Type} {p : Prop} [Decidable p] {a b : α} (h : ¬ p) : (bif decide p then a else b) = b := by simp [h]

theorem bif_eq {α : Type} (x y : Int) (a b : α) : (bif x == y then a else b) = if x = y then a else b := by
  by_cases h : x = y
  · simp [h]
  · rw [if_neg h, show (x == y) = false by simpa using h]; rfl
theorem bif_ne {α : Type} (x y : Int) (a b : α) : (bif x != y then a else b) = if x = y then b else a := by
  by_cases h : x = y
  · simp [h]
  · rw [if_neg h, show (x != y) = true by simpa using h]; rfl

def both (a b : Int) : Int := if a ≠ 0 then a else b
def rangeE (x a b : Int) : Int := if x < a ∨ b < x then 2 else 0

theorem rangeE_in {x a b : Int} (h : a ≤ x ∧ x ≤ b) : rangeE x a b = 0 := if_neg (by omega)
theorem rangeE_out {x a b : Int} (h : ¬ (a ≤ x ∧ x ≤ b)) : rangeE x a b = 2 := if_pos (by omega)

theorem errorIf_is (b : Bool) (x : Int) : Fpulse_errorIf [.bool b, .int .i64 x] = some (if b then x else 0) :=
  Fpulse_errorIf_of b x (by cases b <;> rfl)

theorem rangeError_is (x a b : Int) : Fpulse_rangeError [.int .i64 x, .int .i64 a, .int .i64 b] = some (rangeE x a b) :=
  Fpulse_rangeError_of x a b (by
    unfold tpulse_rangeError rangeE
    by_cases h1 : x < a <;> by_cases h2 : b < x <;> simp [h1, h2])

theorem firstError2_is (a b : Int) : Fpulse_firstError_2 [.list 2 [.int .i64 a, .int .i64 b]] = some (both a b) :=
  Fpulse_firstError_2_of a b (by
    unfold tpulse_firstError_2 both
    simp only [bif_ne]
    by_cases h1 : a = 0 <;> by_cases h2 : b = 0 <;> simp [h1, h2])

theorem within_is (x a b : Int) : Fglidepathbase_Within [.int .i64 x, .int .i64 a, .int .i64 b] = some (decide (a ≤ x ∧ x ≤ b)) :=
  Fglidepathbase_Within_of x a b (by
    unfold tglidepathbase_Within
    by_cases h1 : a ≤ x <;> by_cases h2 : x ≤ b <;> simp [h1, h2])

def gaussE (m : Int) (z : ZZ) : Int := both (rangeE z.1 (-m) m) (rangeE z.2 (-m) m)

theorem parts_is (z : ZZ) (m : Int) (hm : 0 ≤ m ∧ m ≤ 4611686018427387904) : Fpulse_partsError_1 [.agg [.int .i64 z.1, .int .i64 z.2], .imm [.int .i64 m] 0] = some (gaussE m z) :=
  Fpulse_partsError_1_of z.1 z.2 m (by
    unfold tpulse_partsError_1
    rw [w64_in (by omega), Int.zero_sub]
    simp only [rangeError_is, firstError2_is, bindO_val]
    rfl)

/-- The first one with an error, from an index on. -/
def findE {β : Type} (f : β → Int) : List β → Nat → Option (Int × Int)
  | [], _ => none
  | x :: l, i => if f x ≠ 0 then some ((i : Int), f x) else findE f l (i + 1)

def sumE (o : Option (Int × Int)) : (Int × Int) ⊕ Unit := match o with
  | some p => .inl p
  | none => .inr ()

theorem get_drop {β : Type} {l : List β} {i : Nat} (h : i < l.length) : ∃ x, l[i]? = some x ∧ l.drop i = x :: l.drop (i + 1) :=
  ⟨l[i], List.getElem?_eq_getElem h, List.drop_eq_getElem_cons h⟩

theorem itemG_loop (m : Int) (hm : 0 ≤ m ∧ m ≤ 4611686018427387904) (l : List ZZ) (hl : l.length < 4294967296) : ∀ i, i ≤ l.length →
    Rpulse_itemError_glidepath_api_Gauss__0 (Tpulse_itemError_glidepath_api_Gauss__0a m l.length (encG l) l.length i) = exO (XLpulse_itemError_glidepath_api_Gauss__0.fn (sumE (findE (gaussE m) (l.drop i) i))) := by
  refine up_ind _ ?_ ?_
  · refine Rpulse_itemError_glidepath_api_Gauss__0a_of _ _ _ _ _ ?_
    unfold Bpulse_itemError_glidepath_api_Gauss__0a
    rw [bif_neg (by omega), List.drop_length]
    rfl
  · intro i hi ih
    refine Rpulse_itemError_glidepath_api_Gauss__0a_of _ _ _ _ _ ?_
    unfold Bpulse_itemError_glidepath_api_Gauss__0a
    obtain ⟨x, hx, hd⟩ := get_drop hi
    rw [bif_pos (by omega), bif_pos (by omega)]
    simp only [Int.toNat_natCast, encG_0, encG_1, hx, Option.map_some, intC_int, bindO_val, parts_is x m hm]
    rw [hd, w64_in (by omega)]
    by_cases he : gaussE m x = 0
    · simp only [he, bne_self_eq_false, cond_false]
      have := ih
      simp only [findE, he, ne_eq, not_true_eq_false, if_false]
      exact this
    · have : (gaussE m x != 0) = true := by simpa using he
      rw [this]
      simp only [cond_true, findE, ne_eq, he, not_false_eq_true, if_true]
      rfl
end Gv

/- Blocks, mixing and correlations: the program's and the specification's are the same. -/
namespace Gv
open Go
set_option maxRecDepth 100000

def listE (m k : Int) (l : List ZZ) : Int × Int := if l.length = 0 then (0, 10) else if m < l.length then (0, 8) else (findE (gaussE k) l 0).getD (0, 0)

theorem itemG_is (m : Int) (hm : 0 ≤ m ∧ m ≤ 4611686018427387904) (l : List ZZ) (hl : l.length < 4294967296) :
    Fpulse_itemError_glidepath_api_Gauss_ [.list l.length (encG l), .fn 138 [.imm [.int .i64 m] 0]] = some ((findE (gaussE m) l 0).getD (0, 0)) := by
  refine Fpulse_itemError_glidepath_api_Gauss__of _ _ _ ?_
  unfold tpulse_itemError_glidepath_api_Gauss_
  have := lpO_of Ipulse_itemError_glidepath_api_Gauss__0 XIpulse_itemError_glidepath_api_Gauss__0 (itemG_loop m hm l hl 0 (by omega))
  have this : Lpulse_itemError_glidepath_api_Gauss__0 (Tpulse_itemError_glidepath_api_Gauss__0a m l.length (encG l) l.length 0) = _ := this
  rw [this]
  simp only [bindO_val, List.drop_zero]
  cases findE (gaussE m) l 0 <;> rfl

theorem listG_is (m k : Int) (hm : 0 ≤ k ∧ k ≤ 4611686018427387904) (l : List ZZ) (hl : l.length < 4294967296) :
    Fpulse_listError_glidepath_api_Gauss_ [.list l.length (encG l), .int .i64 m, .fn 138 [.imm [.int .i64 k] 0]] = some (listE m k l) := by
  refine Fpulse_listError_glidepath_api_Gauss__of _ _ _ _ ?_
  unfold tpulse_listError_glidepath_api_Gauss_ listE
  simp only [errorIf_is, firstError2_is, bindO_val, itemG_is k hm l hl, bif_eq, bif_ne, both]
  by_cases h1 : l.length = 0
  · simp [h1]
  · by_cases h2 : m < l.length <;> simp [h1, h2]

theorem checkBlock_is (l : List ZZ) (hl : l.length < 4294967296) : Fpulse_CheckBlock [.list l.length (encG l)] = some (listE 48 1000 l) := by
  refine Fpulse_CheckBlock_of _ _ ?_
  unfold tpulse_CheckBlock
  simp only [listG_is 48 1000 (by omega) l hl, bindO_val]

def blockE (l : List ZZ) : Int := (listE 48 1000 l).2

theorem blockError_is (l : List ZZ) (hl : l.length < 4294967296) : Fpulse_blockError [.list l.length (encG l)] = some (blockE l) := by
  refine Fpulse_blockError_of _ _ ?_
  unfold tpulse_blockError
  simp only [checkBlock_is l hl, bindO_val]
  rfl

/-! The specification's -/

theorem isGauss_is (z : ZZ) (m : Int) (hm : 0 ≤ m ∧ m ≤ 4611686018427387904) : Fglidepathref01_isGauss [.agg [.int .i64 z.1, .int .i64 z.2], .int .i64 m] = some (decide (gaussE m z = 0)) := by
  refine Fglidepathref01_isGauss_of _ _ _ ?_
  unfold tglidepathref01_isGauss
  rw [w64_in (by omega), Int.zero_sub]
  simp only [within_is, bindO_val]
  by_cases h1 : -m ≤ z.1 ∧ z.1 ≤ m <;> by_cases h2 : -m ≤ z.2 ∧ z.2 ≤ m
  · have : gaussE m z = 0 := by unfold gaussE; rw [rangeE_in h1, rangeE_in h2]; rfl
    rw [bif_pos h1, bif_pos h2]; simp [this]
  · have : gaussE m z = 2 := by unfold gaussE; rw [rangeE_in h1, rangeE_out h2]; rfl
    rw [bif_pos h1, bif_neg h2]; simp [this]
  · have : gaussE m z = 2 := by unfold gaussE; rw [rangeE_out h1]; rfl
    rw [bif_neg h1]; simp [this]
  · have : gaussE m z = 2 := by unfold gaussE; rw [rangeE_out h1]; rfl
    rw [bif_neg h1]; simp [this]

theorem gaussE_or (m : Int) (z : ZZ) : gaussE m z = 0 ∨ gaussE m z = 2 := by
  unfold gaussE both rangeE
  by_cases h1 : z.1 < -m ∨ m < z.1 <;> by_cases h2 : z.2 < -m ∨ m < z.2 <;> simp [h1, h2]

def sumI (o : Option (Int × Int)) : Int ⊕ Unit := match o with
  | some p => .inl p.1
  | none => .inr ()

theorem refBlock_loop (l : List ZZ) (hl : l.length < 4294967296) : ∀ i, i ≤ l.length →
    Rglidepathref01_CheckBlock_0 (Tglidepathref01_CheckBlock_0a l.length (encG l) i) = exO (XLglidepathref01_CheckBlock_0.fn (sumI (findE (gaussE 1000) (l.drop i) i))) := by
  refine up_ind _ ?_ ?_
  · refine Rglidepathref01_CheckBlock_0a_of _ _ _ ?_
    unfold Bglidepathref01_CheckBlock_0a
    rw [bif_neg (by omega), List.drop_length]
    rfl
  · intro i hi ih
    refine Rglidepathref01_CheckBlock_0a_of _ _ _ ?_
    unfold Bglidepathref01_CheckBlock_0a
    obtain ⟨x, hx, hd⟩ := get_drop hi
    rw [bif_pos (by omega), bif_pos (by omega)]
    simp only [Int.toNat_natCast, encG_0, encG_1, hx, Option.map_some, intC_int, bindO_val, isGauss_is x 1000 (by omega)]
    rw [hd, w64_in (by omega)]
    by_cases he : gaussE 1000 x = 0
    · rw [bif_pos he]
      simp only [findE, he, ne_eq, not_true_eq_false, if_false]
      exact ih
    · rw [bif_neg he]
      simp only [findE, ne_eq, he, not_false_eq_true, if_true]
      rfl

theorem findE_two (m : Int) : ∀ (l : List ZZ) (i : Nat) (p : Int × Int), findE (gaussE m) l i = some p → p.2 = 2
  | [], _, _, h => by simp [findE] at h
  | x :: l, i, p, h => by
    simp only [findE] at h
    split at h
    · rename_i hx
      simp at h
      subst h
      rcases gaussE_or m x with h | h
      · exact absurd h hx
      · exact h
    · exact findE_two m l (i + 1) p h

theorem refCheckBlock_is (l : List ZZ) : Fglidepathref01_CheckBlock [.list l.length (encG l)] = some (listE 48 1000 l) := by
  refine Fglidepathref01_CheckBlock_of _ _ ?_
  unfold tglidepathref01_CheckBlock listE
  simp only [bif_eq]
  by_cases h1 : l.length = 0
  · simp [h1]
  · by_cases h2 : 48 < l.length
    · rw [if_neg (by omega), bif_pos (by omega), if_neg h1, if_pos (by omega)]
    · have := lpO_of Iglidepathref01_CheckBlock_0 XIglidepathref01_CheckBlock_0 (refBlock_loop l (by omega) 0 (by omega))
      have this : Lglidepathref01_CheckBlock_0 (Tglidepathref01_CheckBlock_0a l.length (encG l) 0) = _ := this
      rw [this]
      simp only [bindO_val, List.drop_zero]
      rw [if_neg (by omega), bif_neg (by omega), if_neg h1, if_neg (by omega)]
      cases h : findE (gaussE 1000) l 0 with
      | none => rfl
      | some p =>
        have := findE_two 1000 l 0 p h
        obtain ⟨a, b⟩ := p
        simp only at this
        subst this
        rfl

theorem refBlockErr_is (l : List ZZ) : Fglidepathref01_BlockErr [.list l.length (encG l)] = some (blockE l) := by
  refine Fglidepathref01_BlockErr_of _ _ ?_
  unfold tglidepathref01_BlockErr
  simp only [refCheckBlock_is l, bindO_val]
  rfl

/-! Valid blocks -/

theorem findE_none {m : Int} : ∀ {l : List ZZ} {i : Nat}, findE (gaussE m) l i = none → ∀ z ∈ l, gaussE m z = 0
  | [], _, _, z, hz => by simp at hz
  | x :: l, i, h, z, hz => by
    simp only [findE] at h
    split at h
    · cases h
    · rename_i hx
      rcases List.mem_cons.1 hz with rfl | hz
      · simpa using hx
      · exact findE_none h z hz

theorem gaussE_zero {m : Int} {z : ZZ} (h : gaussE m z = 0) : (-m ≤ z.1 ∧ z.1 ≤ m) ∧ -m ≤ z.2 ∧ z.2 ≤ m := by
  by_cases h1 : -m ≤ z.1 ∧ z.1 ≤ m
  · by_cases h2 : -m ≤ z.2 ∧ z.2 ≤ m
    · exact ⟨h1, h2⟩
    · unfold gaussE at h
      rw [rangeE_in h1, rangeE_out h2] at h
      cases h
  · unfold gaussE at h
    rw [rangeE_out h1] at h
    cases h

theorem block_ok {l : List ZZ} (h : blockE l = 0) : 1 ≤ l.length ∧ l.length ≤ 48 ∧ ∀ z ∈ l, (-1000 ≤ z.1 ∧ z.1 ≤ 1000) ∧ -1000 ≤ z.2 ∧ z.2 ≤ 1000 := by
  unfold blockE listE at h
  split at h
  · cases h
  · split at h
    · cases h
    · rename_i h1 h2
      cases hf : findE (gaussE 1000) l 0 with
      | some p =>
        rw [hf] at h
        have := findE_two 1000 l 0 p hf
        simp at h
        omega
      | none => exact ⟨by omega, by omega, fun z hz => gaussE_zero (findE_none hf z hz)⟩

theorem blockE_err (l : List ZZ) : blockE l = 0 ∨ blockE l = 10 ∨ blockE l = 8 ∨ blockE l = 2 := by
  unfold blockE listE
  split
  · simp
  · split
    · simp
    · cases hf : findE (gaussE 1000) l 0 with
      | none => simp
      | some p => have := findE_two 1000 l 0 p hf; simp [this]

/-! Copies -/
theorem copyG_is (l : List ZZ) (hl : l.length ≤ 1000000) : Fglidepathbase_CopyGausses [.list l.length (encG l)] = some (l.length, encG l) := by
  refine Fglidepathbase_CopyGausses_of _ _ ?_
  unfold tglidepathbase_CopyGausses
  by_cases h : l.length = 0
  · rw [bif_pos h]
    have := List.eq_nil_of_length_eq_zero h
    subst this
    rfl
  · rw [bif_neg h, bif_pos (by simp), bif_pos ⟨rfl, by simp only [big]; omega⟩, bif_pos rfl]
    simp

/-! Quarters of a turn -/
def trn (z : ZZ) (q : Int) : ZZ := if q % 4 = 1 then (z.2, -z.1) else if q % 4 = 2 then (-z.1, -z.2) else if q % 4 = 3 then (-z.2, z.1) else z

def Small (m : Int) (z : ZZ) : Prop := (-m ≤ z.1 ∧ z.1 ≤ m) ∧ -m ≤ z.2 ∧ z.2 ≤ m

theorem turned_is (z : ZZ) (q : Int) (hq : 0 ≤ q) (hz : Small 4611686018427387904 z) : Fpulse_turned [.agg [.int .i64 z.1, .int .i64 z.2], .int .i64 q] = some (trn z q) := by
  refine Fpulse_turned_of _ _ _ ?_
  unfold tpulse_turned trn
  obtain ⟨h1, h2⟩ := hz
  rw [w64_in (by omega), w64_in (by omega), Int.tmod_eq_emod_of_nonneg hq]
  simp only [bif_eq, Int.zero_sub]
  split
  · rfl
  · split
    · rfl
    · split <;> rfl

theorem mod_is (a b : Int) (ha : -4611686018427387904 ≤ a ∧ a ≤ 4611686018427387904) (hb : 1 ≤ b ∧ b ≤ 4611686018427387904) : Fglidepathbase_Mod [.int .i64 a, .int .i64 b] = some (a % b) := by
  refine Fglidepathbase_Mod_of _ _ ?_
  unfold tglidepathbase_Mod
  rw [bif_pos (by omega)]
  have h0 : a.tmod b = if 0 ≤ a then a % b else -((-a) % b) := by
    split
    · rw [Int.tmod_eq_emod_of_nonneg (by assumption)]
    · have := Int.neg_tmod (a := -a) (b := b)
      rw [Int.neg_neg] at this
      rw [this, Int.tmod_eq_emod_of_nonneg (by omega)]
  have h1 := Int.emod_nonneg a (by omega : b ≠ 0)
  have h2 := Int.emod_lt_of_pos a (by omega : 0 < b)
  have h3 := Int.emod_nonneg (-a) (by omega : b ≠ 0)
  have h4 := Int.emod_lt_of_pos (-a) (by omega : 0 < b)
  by_cases hs : 0 ≤ a
  · rw [h0, if_pos hs, bif_neg (by omega)]
  · rw [h0, if_neg hs]
    have e : a % b = if (-a) % b = 0 then 0 else b - (-a) % b := by
      rw [Int.neg_emod]
      by_cases hd : b ∣ a
      · have : a % b = 0 := Int.emod_eq_zero_of_dvd hd
        simp [hd, this]
      · have hn : a % b ≠ 0 := fun h => hd (Int.dvd_of_emod_eq_zero h)
        have hb' : (b.natAbs : Int) = b := by omega
        simp only [if_neg hd, hb']
        split <;> omega
    by_cases hz : (-a) % b = 0
    · rw [hz, bif_neg (by omega), e, if_pos hz]; rfl
    · rw [bif_pos (by omega), w64_in (by omega), e, if_neg hz]
      congr 1
      omega
end Gv

/- Mixing and correlations. -/
namespace Gv
open Go
set_option maxRecDepth 100000

theorem trn_small {m : Int} {z : ZZ} (q : Int) (h : Small m z) : Small m (trn z q) := by
  obtain ⟨h1, h2⟩ := h
  unfold trn Small
  split
  · exact ⟨by simpa using h2, by simp only; omega⟩
  · split
    · exact ⟨by simp only; omega, by simp only; omega⟩
    · split
      · exact ⟨by simp only; omega, by simpa using h1⟩
      · exact ⟨h1, h2⟩

theorem over_G (pre r : List ZZ) (a b : ZZ) : over (encG (pre ++ a :: r)) (0 + pre.length * 2) [.int .i64 b.1, .int .i64 b.2] = encG (pre ++ b :: r) := by
  unfold over
  have e : encG (pre ++ a :: r) = encG pre ++ (enc2 a ++ encG r) := by simp [encG]
  have h1 : (encG pre ++ (enc2 a ++ encG r)).take (pre.length * 2) = encG pre := by
    rw [List.take_append_of_le_length (by simp), List.take_of_length_le (by simp)]
  have h2 : (encG pre ++ (enc2 a ++ encG r)).drop (pre.length * 2 + 2) = encG r := by
    rw [← List.append_assoc]
    exact List.drop_left' (by simp [enc2_len])
  rw [e, Nat.zero_add, h1]
  show encG pre ++ (enc2 b ++ (encG pre ++ (enc2 a ++ encG r)).drop (pre.length * 2 + 2)) = _
  rw [h2]
  simp [encG]

def mixFrom (q : Int) : List ZZ → Nat → List ZZ
  | [], _ => []
  | z :: l, j => trn z (j * q) :: mixFrom q l (j + 1)

theorem mixFrom_len (q : Int) : ∀ (l : List ZZ) (j : Nat), (mixFrom q l j).length = l.length
  | [], _ => rfl
  | z :: l, j => by simp [mixFrom, mixFrom_len q l (j + 1)]

theorem rep_G : ∀ (n : Nat), rep [PV.int .i64 0, PV.int .i64 0] n = encG (List.replicate n (0, 0))
  | 0 => rfl
  | n + 1 => by simp only [rep, rep_G n, List.replicate_succ]; rfl

/-! The specification's -/

def stepT (z : ZZ) : ZZ := (z.2, -z.1)
def turnT : Nat → ZZ → ZZ
  | 0, z => z
  | n + 1, z => turnT n (stepT z)

theorem refTurned_loop (times : Int) (ht : 0 ≤ times ∧ times ≤ 4611686018427387904) (n : Nat) (hn : (n : Int) = times % 4) : ∀ i, i ≤ n → ∀ z : ZZ, Small 1000000000000 z →
    Rglidepathref01_Turned_0 (Tglidepathref01_Turned_0a times i z.1 z.2) = exO (Xglidepathref01_Turned_0a (turnT (n - i) z)) := by
  refine up_ind _ ?_ ?_
  · intro z hz
    refine Rglidepathref01_Turned_0a_of _ _ _ _ ?_
    unfold Bglidepathref01_Turned_0a
    simp only [mod_is times 4 (by omega) (by omega), bindO_val]
    rw [bif_neg (by omega), Nat.sub_self]
    rfl
  · intro i hi ih z hz
    refine Rglidepathref01_Turned_0a_of _ _ _ _ ?_
    unfold Bglidepathref01_Turned_0a
    obtain ⟨h1, h2⟩ := hz
    simp only [mod_is times 4 (by omega) (by omega), bindO_val]
    rw [bif_pos (by omega), w64_in (by omega), w64_in (by omega), Int.zero_sub]
    have := ih (stepT z) ⟨by simpa [stepT] using h2, by simp only [stepT]; omega⟩
    rw [show n - i = (n - (i + 1)) + 1 by omega]
    exact this

theorem turnT_trn (z : ZZ) (q : Int) (n : Nat) (hn : (n : Int) = q % 4) : turnT n z = trn z q := by
  have h4 : n = 0 ∨ n = 1 ∨ n = 2 ∨ n = 3 := by omega
  unfold trn
  rcases h4 with h | h | h | h <;> subst h
  · rw [if_neg (by omega), if_neg (by omega), if_neg (by omega)]; rfl
  · rw [if_pos (by omega)]; rfl
  · rw [if_neg (by omega), if_pos (by omega)]; rfl
  · rw [if_neg (by omega), if_neg (by omega), if_pos (by omega)]
    simp [turnT, stepT]

theorem refTurned_is (z : ZZ) (q : Int) (hq : 0 ≤ q ∧ q ≤ 4611686018427387904) (hz : Small 1000000000000 z) : Fglidepathref01_Turned [.agg [.int .i64 z.1, .int .i64 z.2], .int .i64 q] = some (trn z q) := by
  refine Fglidepathref01_Turned_of _ _ _ ?_
  unfold tglidepathref01_Turned
  have hn : (((q % 4).toNat : Nat) : Int) = q % 4 := by omega
  have := Lglidepathref01_Turned_0a_of (refTurned_loop q hq _ hn 0 (by omega) z hz)
  have this : Lglidepathref01_Turned_0 (Tglidepathref01_Turned_0a q 0 z.1 z.2) = some (turnT ((q % 4).toNat - 0) z) := this
  rw [this, Nat.sub_zero, turnT_trn z q _ hn]
  rfl

def accG (l : List ZZ) (n : Nat) : (Unit) ⊕ (Nat × List PV × Nat) := if n = 0 then .inl () else .inr (n, encG l, n)

/-! Lists that are the same -/

theorem gausses_loop (a : List ZZ) (hl : a.length < 4294967296) : ∀ i, i ≤ a.length →
    Rglidepathbase_Gausses_0 (Tglidepathbase_Gausses_0a a.length (encG a) a.length (encG a) i) = exO (Xglidepathbase_Gausses_0b ()) := by
  refine up_ind _ ?_ ?_
  · refine Rglidepathbase_Gausses_0a_of _ _ _ _ _ ?_
    unfold Bglidepathbase_Gausses_0a
    rw [bif_neg (by omega)]
    rfl
  · intro i hi ih
    refine Rglidepathbase_Gausses_0a_of _ _ _ _ _ ?_
    unfold Bglidepathbase_Gausses_0a
    obtain ⟨x, hx, hd⟩ := get_drop hi
    rw [bif_pos (by omega), bif_pos (by omega)]
    simp only [Int.toNat_natCast, encG_0, encG_1, hx, Option.map_some, intC_int, bindO_val]
    rw [bif_pos (by omega), w64_in (by omega)]
    simp only [beq_self_eq_true, Bool.and_self, Bool.not_true, cond_false]
    exact ih

theorem gausses_same (a : List ZZ) (hl : a.length < 4294967296) : Fglidepathbase_Gausses [.list a.length (encG a), .list a.length (encG a)] = some true := by
  refine Fglidepathbase_Gausses_of _ _ _ _ ?_
  unfold tglidepathbase_Gausses
  have := Lglidepathbase_Gausses_0b_of (gausses_loop a hl 0 (by omega))
  have this : Lglidepathbase_Gausses_0 (Tglidepathbase_Gausses_0a a.length (encG a) a.length (encG a) 0) = _ := this
  rw [this]
  simp

/-! Correlations -/

def addZ (a b : ZZ) : ZZ := (w64 (a.1 + b.1), w64 (a.2 + b.2))
def cmul (a b : ZZ) : ZZ := (w64 (a.1 * b.1 + a.2 * b.2), w64 (a.1 * b.2 - a.2 * b.1))
def sumC (ps : List (ZZ × ZZ)) (acc : ZZ) : ZZ := ps.foldl (fun acc p => addZ acc (cmul p.1 p.2)) acc

theorem plus_is (a b : ZZ) : Fpulse_plus [.agg [.int .i64 a.1, .int .i64 a.2], .agg [.int .i64 b.1, .int .i64 b.2]] = some (addZ a b) := Fpulse_plus_of _ _ _ _ rfl
theorem conj_is (a b : ZZ) : Fpulse_conjugateTimes [.agg [.int .i64 a.1, .int .i64 a.2], .agg [.int .i64 b.1, .int .i64 b.2]] = some (cmul a b) := by
  refine Fpulse_conjugateTimes_of _ _ _ _ ?_
  unfold tpulse_conjugateTimes cmul
  simp only [w64_add_l, w64_add_r, w64_sub_l, w64_sub_r]

theorem zip_get (l : List ZZ) (lag j : Nat) (h : j < (l.zip (l.drop lag)).length) : ∃ a b, l[j]? = some a ∧ l[j + lag]? = some b ∧ (l.zip (l.drop lag)).drop j = (a, b) :: (l.zip (l.drop lag)).drop (j + 1) := by
  obtain ⟨p, h1, h2⟩ := get_drop h
  refine ⟨p.1, p.2, ?_, ?_, h2⟩
  · have := List.getElem?_zip_eq_some.1 (show (l.zip (l.drop lag))[j]? = some (p.1, p.2) from h1)
    exact this.1
  · have := List.getElem?_zip_eq_some.1 (show (l.zip (l.drop lag))[j]? = some (p.1, p.2) from h1)
    rw [Nat.add_comm, ← List.getElem?_drop]
    exact this.2

theorem zip_len (l : List ZZ) (lag : Nat) : (l.zip (l.drop lag)).length = l.length - lag := by simp

theorem corr_loop (l : List ZZ) (lag : Nat) (hl : l.length ≤ 1000) (hg : lag ≤ 1000) : ∀ j, j ≤ (l.zip (l.drop lag)).length → ∀ acc : ZZ,
    Rpulse_correlation_0 (Tpulse_correlation_0a l.length (encG l) lag ((lag + j : Nat) : Int) acc.1 acc.2) = exO (Xpulse_correlation_0a (sumC ((l.zip (l.drop lag)).drop j) acc)) := by
  have hz := zip_len l lag
  refine up_ind _ ?_ ?_
  · intro acc
    refine Rpulse_correlation_0a_of _ _ _ _ _ _ ?_
    unfold Bpulse_correlation_0a
    rw [bif_neg (by omega), List.drop_length]
    rfl
  · intro j hj ih acc
    refine Rpulse_correlation_0a_of _ _ _ _ _ _ ?_
    unfold Bpulse_correlation_0a
    obtain ⟨a, b, ha, hb, hd⟩ := zip_get l lag j hj
    have e : w64 (((lag + j : Nat) : Int) - lag) = (j : Int) := by rw [w64_in (by omega)]; omega
    rw [bif_pos (by omega), e, bif_pos (by omega)]
    simp only [Int.toNat_natCast, encG_0, encG_1, ha, Option.map_some, intC_int, bindO_val]
    rw [bif_pos (by omega)]
    rw [Nat.add_comm] at hb
    simp only [hb, Option.map_some, intC_int, bindO_val, conj_is a b, plus_is acc (cmul a b)]
    rw [w64_in (by omega), hd]
    exact ih (addZ acc (cmul a b))

theorem correlation_is (l : List ZZ) (lag : Nat) (hl : l.length ≤ 1000) (hg : lag ≤ 1000) : Fpulse_correlation [.list l.length (encG l), .int .i64 lag, .int .i64 0] = some (sumC (l.zip (l.drop lag)) (0, 0)) := by
  refine Fpulse_correlation_of _ _ _ _ ?_
  unfold tpulse_correlation
  have := Lpulse_correlation_0a_of (corr_loop l lag hl hg 0 (by omega) (0, 0))
  rw [if_neg (by omega)]
  have this : Lpulse_correlation_0 (Tpulse_correlation_0a l.length (encG l) lag lag 0 0) = _ := this
  rw [this]
  rfl

theorem corrOf_is (l : List ZZ) (lag : Int) (hl : l.length ≤ 1000) : Fpulse_CorrelationOf [.list l.length (encG l), .int .i64 lag] =
    some (if both (blockE l) (rangeE lag 0 48) ≠ 0 then (0, 0, both (blockE l) (rangeE lag 0 48)) else ((sumC (l.zip (l.drop lag.toNat)) (0, 0)).1, (sumC (l.zip (l.drop lag.toNat)) (0, 0)).2, 0)) := by
  refine Fpulse_CorrelationOf_of _ _ _ ?_
  unfold tpulse_CorrelationOf
  simp only [blockError_is l (by omega), rangeError_is, firstError2_is, bindO_val, bif_ne]
  by_cases h : both (blockE l) (rangeE lag 0 48) = 0
  · rw [if_pos h, if_neg (by simpa using h)]
    have hb : blockE l = 0 ∧ rangeE lag 0 48 = 0 := by
      unfold both at h
      split at h
      · rename_i h1; exact absurd h h1
      · rename_i h1; exact ⟨by simpa using h1, h⟩
    have hq : 0 ≤ lag ∧ lag ≤ 48 := by
      have := hb.2
      unfold rangeE at this
      split at this
      · cases this
      · omega
    obtain ⟨g, rfl⟩ : ∃ g : Nat, lag = g := ⟨lag.toNat, by omega⟩
    simp only [correlation_is l g hl (by omega), Int.toNat_natCast, bindO_val]
  · rw [if_neg h, if_pos h]

theorem gadd_is (a b : ZZ) : Fglidepathbase_GAdd [.agg [.int .i64 a.1, .int .i64 a.2], .agg [.int .i64 b.1, .int .i64 b.2]] = some (addZ a b) := Fglidepathbase_GAdd_of _ _ _ _ rfl

theorem gmulconj (a b : ZZ) : (w64 (w64 (a.1 * b.1) - w64 (w64 (0 - a.2) * b.2)), w64 (w64 (a.1 * b.2) + w64 (w64 (0 - a.2) * b.1))) = cmul a b := by
  unfold cmul
  simp only [w64_add_l, w64_add_r, w64_sub_l, w64_sub_r, w64_mul_l]
  congr 2
  · rw [Int.zero_sub, Int.neg_mul]; omega
  · rw [Int.zero_sub, Int.neg_mul]; omega

theorem refCorr_loop (l : List ZZ) (lag : Nat) (hl : l.length ≤ 1000) (hg : lag ≤ 1000) : ∀ j, j ≤ (l.zip (l.drop lag)).length → ∀ acc : ZZ,
    Rglidepathref01_Correlation_0 (Tglidepathref01_Correlation_0a l.length (encG l) lag j acc.1 acc.2) = exO (Xglidepathref01_Correlation_0a (sumC ((l.zip (l.drop lag)).drop j) acc)) := by
  have hz := zip_len l lag
  refine up_ind _ ?_ ?_
  · intro acc
    refine Rglidepathref01_Correlation_0a_of _ _ _ _ _ _ ?_
    unfold Bglidepathref01_Correlation_0a
    rw [w64_in (by omega), bif_neg (by omega), List.drop_length]
    rfl
  · intro j hj ih acc
    refine Rglidepathref01_Correlation_0a_of _ _ _ _ _ _ ?_
    unfold Bglidepathref01_Correlation_0a
    obtain ⟨a, b, ha, hb, hd⟩ := zip_get l lag j hj
    have e : w64 ((j : Int) + lag) = ((j + lag : Nat) : Int) := by rw [w64_in (by omega)]; omega
    rw [e, bif_pos (by omega), bif_pos (by omega)]
    have h1 : Fglidepathbase_GConj [.agg [.int .i64 a.1, .int .i64 a.2]] = some (a.1, w64 (0 - a.2)) := Fglidepathbase_GConj_of _ _ rfl
    have h2 : Fglidepathbase_GMul [.agg [.int .i64 a.1, .int .i64 (w64 (0 - a.2))], .agg [.int .i64 b.1, .int .i64 b.2]] = some (cmul a b) := by
      refine Fglidepathbase_GMul_of _ _ _ _ ?_
      unfold tglidepathbase_GMul
      rw [gmulconj]
    simp only [Int.toNat_natCast, encG_0, encG_1, ha, Option.map_some, intC_int, bindO_val, h1]
    rw [bif_pos (by omega)]
    simp only [hb, Option.map_some, intC_int, bindO_val, h2, gadd_is acc (cmul a b)]
    rw [w64_in (by omega), hd]
    exact ih (addZ acc (cmul a b))

theorem refCorr_is (l : List ZZ) (lag : Nat) (hl : l.length ≤ 1000) (hg : lag ≤ 1000) : Fglidepathref01_Correlation [.list l.length (encG l), .int .i64 lag] = some (sumC (l.zip (l.drop lag)) (0, 0)) := by
  refine Fglidepathref01_Correlation_of _ _ _ ?_
  unfold tglidepathref01_Correlation
  have := Lglidepathref01_Correlation_0a_of (refCorr_loop l lag hl hg 0 (by omega) (0, 0))
  have this : Lglidepathref01_Correlation_0 (Tglidepathref01_Correlation_0a l.length (encG l) lag 0 0 0) = _ := this
  rw [this]
  rfl
end Gv
