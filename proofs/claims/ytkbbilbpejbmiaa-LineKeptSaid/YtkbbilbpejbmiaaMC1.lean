/- Noises and cases: the program's and the specification's. -/
import Derived.Test.YtkbbilbpejbmiaaMA
import Derived.Test.YtkbbilbpejbmiaaMW1
import Derived.Test.YtkbbilbpejbmiaaM12
import Derived.Test.YtkbbilbpejbmiaaM13
namespace Gv
open Go
set_option maxRecDepth 100000

/-! ### Divisors of any two numbers, the second one above 0 -/

theorem tmod_63 {a b : Int} (hb : 0 < b ∧ b ≤ 9223372036854775807) : Bd 9223372036854775807 (a.tmod b) := by
  have := tmod_lt (a := a) (b := b) (by omega)
  unfold Bd
  omega
theorem max_neg63 {c : Int} (h : Bd 9223372036854775807 c) : (if w64 (0 - c) > c then w64 (0 - c) else c) = (c.natAbs : Int) := by
  unfold Bd at h
  rw [w64_in (by omega)]
  split <;> omega
theorem div_loop63 : ∀ (n : Nat) (a b : Int), b.natAbs < n → Bd 9223372036854775807 a → Bd 9223372036854775807 b →
    ∃ c, Rline_divisor_0 (Tline_divisor_0a a b) = exO (Xline_divisor_0a c) ∧ c.natAbs = Int.gcd a b ∧ Bd 9223372036854775807 c
  | 0, a, b, h, _, _ => by omega
  | n + 1, a, b, h, ha, hb => by
    by_cases h0 : b = 0
    · subst h0
      refine ⟨a, Rline_divisor_0a_of _ _ ?_, by simp, ha⟩
      unfold Bline_divisor_0a
      rfl
    · have hlt := tmod_lt (a := a) h0
      obtain ⟨c, c1, c2, c3⟩ := div_loop63 n b (a.tmod b) (by omega) hb (tmod_bd ha)
      refine ⟨c, Rline_divisor_0a_of _ _ ?_, by rw [c2, gcd_step], c3⟩
      unfold Bline_divisor_0a
      rw [bif_ne, if_neg h0, bif_pos h0]
      exact c1
theorem divisor63 {a b : Int} (hb : 0 < b ∧ b ≤ 9223372036854775807) : Fline_divisor [.int .i64 a, .int .i64 b] = some (Int.gcd a b : Int) := by
  refine Fline_divisor_of _ _ ?_
  unfold tline_divisor
  have h0 : b ≠ 0 := by omega
  obtain ⟨c, c1, c2, c3⟩ := div_loop63 ((a.tmod b).natAbs + 1) b (a.tmod b) (by omega) (by unfold Bd; omega) (tmod_63 hb)
  have c0 : Rline_divisor_0 (Tline_divisor_0a a b) = exO (Xline_divisor_0a c) := by
    refine Rline_divisor_0a_of _ _ ?_
    unfold Bline_divisor_0a
    rw [bif_ne, if_neg h0, bif_pos h0]
    exact c1
  rw [Lline_divisor_0a_of c0, bindO_val, max_neg63 c3, c2, gcd_step]
theorem gcd_loop63 : ∀ (n : Nat) (a b : Int), b.natAbs < n → Bd 9223372036854775807 a → Bd 9223372036854775807 b →
    ∃ c, RBsGcd_0 (TBsGcd_0a a b) = exO (XBsGcd_0a c) ∧ c.natAbs = Int.gcd a b ∧ Bd 9223372036854775807 c
  | 0, a, b, h, _, _ => by omega
  | n + 1, a, b, h, ha, hb => by
    by_cases h0 : b = 0
    · subst h0
      refine ⟨a, RBsGcd_0a_of _ _ ?_, by simp, ha⟩
      unfold BBsGcd_0a
      rfl
    · have hlt := tmod_lt (a := a) h0
      obtain ⟨c, c1, c2, c3⟩ := gcd_loop63 n b (a.tmod b) (by omega) hb (tmod_bd ha)
      refine ⟨c, RBsGcd_0a_of _ _ ?_, by rw [c2, gcd_step], c3⟩
      unfold BBsGcd_0a
      rw [bif_ne, if_neg h0, bif_pos h0]
      exact c1
theorem size63 {c : Int} (h : Bd 9223372036854775807 c) : FBsSize [.int .i64 c] = some (c.natAbs : Int) :=
  FBsSize_of _ (by unfold tBsSize; rw [max_neg63 h])
theorem gcd63 {a b : Int} (hb : 0 < b ∧ b ≤ 9223372036854775807) : FBsGcd [.int .i64 a, .int .i64 b] = some (Int.gcd a b : Int) := by
  refine FBsGcd_of _ _ ?_
  unfold tBsGcd
  have h0 : b ≠ 0 := by omega
  obtain ⟨c, c1, c2, c3⟩ := gcd_loop63 ((a.tmod b).natAbs + 1) b (a.tmod b) (by omega) (by unfold Bd; omega) (tmod_63 hb)
  have c0 : RBsGcd_0 (TBsGcd_0a a b) = exO (XBsGcd_0a c) := by
    refine RBsGcd_0a_of _ _ ?_
    unfold BBsGcd_0a
    rw [bif_ne, if_neg h0, bif_pos h0]
    exact c1
  simp only [LBsGcd_0a_of c0, bindO_val, size63 c3, c2, gcd_step]

/-- A number of 64 bits. -/
def I64 (n : Int) : Prop := -9223372036854775808 ≤ n ∧ n ≤ 9223372036854775807
/-- A fraction in lowest terms; one whose parts are small. -/
def loQ (n d : Int) : Prop := 0 < d ∧ Int.gcd n d = 1
instance (n d : Int) : Decidable (loQ n d) := by unfold loQ; exact inferInstance
theorem isLowest_is {n d : Int} (hd : I64 d) : Fline_isLowest [.agg [.int .i64 n, .int .i64 d]] = some (decide (loQ n d)) := by
  refine Fline_isLowest_of _ _ ?_
  unfold tline_isLowest
  unfold I64 at hd
  by_cases h : 0 < d
  · rw [bif_pos (by omega)]
    simp only [divisor63 (a := n) (b := d) ⟨h, by omega⟩, bindO_val, bif_eq]
    by_cases h2 : Int.gcd n d = 1
    · rw [if_pos (by omega), decide_eq_true (show loQ n d from ⟨h, h2⟩)]
    · rw [if_neg (by omega), decide_eq_false (show ¬ loQ n d from fun k => h2 k.2)]
  · rw [bif_neg (by omega), decide_eq_false (show ¬ loQ n d from fun k => h k.1)]
theorem refIsLowest_is {n d : Int} (hd : I64 d) : FBsIsLowest [.agg [.int .i64 n, .int .i64 d]] = some (decide (loQ n d)) := by
  refine FBsIsLowest_of _ _ ?_
  unfold tBsIsLowest
  unfold I64 at hd
  by_cases h : 0 < d
  · rw [bif_pos (by omega)]
    simp only [gcd63 (a := n) (b := d) ⟨h, by omega⟩, bindO_val, bif_eq]
    by_cases h2 : Int.gcd n d = 1
    · rw [if_pos (by omega), decide_eq_true (show loQ n d from ⟨h, h2⟩)]
    · rw [if_neg (by omega), decide_eq_false (show ¬ loQ n d from fun k => h2 k.2)]
  · rw [bif_neg (by omega), decide_eq_false (show ¬ loQ n d from fun k => h k.1)]
def laQ (n d : Int) : Prop := n < -1000000000 ∨ 1000000000 < n ∨ 1000000000 < d
instance (n d : Int) : Decidable (laQ n d) := by unfold laQ; exact inferInstance
theorem isLarge_is (n d : Int) : Fline_isLarge [.agg [.int .i64 n, .int .i64 d]] = some (decide (laQ n d)) := by
  refine Fline_isLarge_of _ _ ?_
  unfold tline_isLarge
  by_cases h1 : n < -1000000000
  · rw [bif_pos h1, decide_eq_true (show laQ n d from .inl h1)]
  · rw [bif_neg h1]
    by_cases h2 : n > 1000000000
    · rw [bif_pos h2, decide_eq_true (show laQ n d from .inr (.inl h2))]
    · rw [bif_neg h2]
      by_cases h3 : d > 1000000000
      · rw [bif_pos h3, decide_eq_true (show laQ n d from .inr (.inr h3))]
      · rw [bif_neg h3, decide_eq_false (show ¬ laQ n d by unfold laQ; omega)]
theorem refIsSmall_is (n d : Int) : FBsIsSmall [.agg [.int .i64 n, .int .i64 d]] = some (decide (1 ≤ d ∧ ¬ laQ n d)) := by
  refine FBsIsSmall_of _ _ ?_
  unfold tBsIsSmall
  simp only [within_is, bindO_val, bif_dec]
  by_cases h1 : rangeE n (-1000000000) 1000000000 = 0
  · have := rangeE_ok h1
    by_cases h2 : rangeE d 1 1000000000 = 0
    · have := rangeE_ok h2
      rw [if_pos h1, if_pos h2, decide_eq_true (by unfold laQ; omega)]
    · have h3 : ¬ (1 ≤ d ∧ d ≤ 1000000000) := fun k => h2 (rangeE_in k)
      rw [if_pos h1, if_neg h2, decide_eq_false (by unfold laQ; omega)]
  · have h3 : ¬ (-1000000000 ≤ n ∧ n ≤ 1000000000) := fun k => h1 (rangeE_in k)
    rw [if_neg h1, decide_eq_false (by unfold laQ; omega)]

/-! ### Noises -/

def nzP (v : List Int) : Int × Int := listIE 4 0 1000 v
def nzE (v : List Int) : Int := (nzP v).2
theorem checkNoise_is (v : List Int) (hv : v.length < 4294967296) : Fline_CheckNoise [.agg [.list v.length (encI v)]] = some (nzP v) := by
  refine Fline_CheckNoise_of _ _ ?_
  unfold tline_CheckNoise
  simp only [numbers_is 4 0 1000 v hv, bindO_val]
  rfl
theorem noiseError_is (v : List Int) (hv : v.length < 4294967296) : Fline_noiseError [.agg [.list v.length (encI v)]] = some (nzE v) := by
  refine Fline_noiseError_of _ _ ?_
  unfold tline_noiseError
  simp only [checkNoise_is v hv, bindO_val]
  rfl
theorem refNz_loop (l : List Int) (hl : l.length < 4294967296) : ∀ i, i ≤ l.length →
    RRfCheckNoise_0 (TRfCheckNoise_0a i l.length (encI l)) = exO (XLRfCheckNoise_0.fn (match findE (fun x => rangeE x 0 1000) (l.drop i) i with | some p => .inl p.1 | none => .inr (l.length, encI l))) := by
  refine up_ind _ ?_ ?_
  · refine RRfCheckNoise_0a_of _ _ _ ?_
    unfold BRfCheckNoise_0a
    rw [bif_neg (by omega), List.drop_length]
    rfl
  · intro i hi ih
    obtain ⟨x, hx, hd⟩ := get_drop hi
    refine RRfCheckNoise_0a_of _ _ _ ?_
    unfold BRfCheckNoise_0a
    rw [bif_pos (by omega), bif_pos (by omega)]
    simp only [Int.toNat_natCast, Nat.mul_one, encI_get, hx, Option.map_some, intC_int, bindO_val, within_is]
    rw [hd, w64_in (by omega)]
    by_cases he : rangeE x 0 1000 = 0
    · rw [bif_pos he]
      simp only [findE, he, ne_eq, not_true_eq_false, if_false]
      exact ih
    · rw [bif_neg he]
      simp only [findE, ne_eq, he, not_false_eq_true, if_true]
      rfl
theorem refCheckNoise_is (l : List Int) : FRfCheckNoise [.agg [.list l.length (encI l)]] = some (nzP l) := by
  refine FRfCheckNoise_of _ _ ?_
  unfold tRfCheckNoise nzP listIE
  rw [bif_eq]
  by_cases h1 : l.length = 0
  · rw [if_pos (by omega), if_pos h1]
  · rw [if_neg (by omega), if_neg h1]
    by_cases h2 : (4 : Int) < l.length
    · rw [bif_pos (by omega), if_pos h2]
    · rw [bif_neg (by omega), if_neg h2]
      have := lpO_of IRfCheckNoise_0 XIRfCheckNoise_0 (refNz_loop l (by omega) 0 (by omega))
      have this : LRfCheckNoise_0 (TRfCheckNoise_0a 0 l.length (encI l)) = _ := this
      rw [this]
      simp only [bindO_val, List.drop_zero]
      cases hf : findE (fun x => rangeE x 0 1000) l 0 with
      | none => rfl
      | some p =>
        have a1 := findE_rng 0 1000 hf
        show some (p.1, (2 : Int)) = some p
        rw [← a1]
theorem refNoiseErr_is (v : List Int) : FRfNoiseErr [.agg [.list v.length (encI v)]] = some (nzE v) := by
  refine FRfNoiseErr_of _ _ ?_
  unfold tRfNoiseErr
  simp only [refCheckNoise_is v, bindO_val]
  rfl
/-- What is asked of a noise that is accepted. -/
structure Nz (v : List Int) : Prop where
  pos : 1 ≤ v.length
  len : v.length ≤ 4
  sm : Sm 1000 v
theorem nz_ok {v : List Int} (h : nzE v = 0) : Nz v := by
  obtain ⟨a, b, c⟩ := listIE_ok h
  exact ⟨a, by omega, c⟩

/-! ### Lines that are too strong -/

def gaS (m : Int) : List Int → Nat → Int ⊕ Unit
  | [], _ => .inr ()
  | x :: r, i => if m ≤ x then .inl (i : Int) else gaS m r (i + 1)
def anyG (m : Int) (l : List Int) : Bool := l.any fun x => decide (m ≤ x)
theorem gaS_spec (m : Int) : ∀ (l : List Int) (i : Nat), (anyG m l = true ∧ ∃ j : Int, gaS m l i = .inl j ∧ 0 ≤ j) ∨ (anyG m l = false ∧ gaS m l i = .inr ())
  | [], i => .inr ⟨rfl, rfl⟩
  | x :: r, i => by
    unfold gaS anyG
    by_cases h : m ≤ x
    · exact .inl ⟨by simp [h], i, if_pos h, by omega⟩
    · rw [if_neg h]
      have := gaS_spec m r (i + 1)
      unfold anyG at this
      simpa [h] using this
theorem atLeast1_is (x m : Int) : Fline_atLeast_1 [.int .i64 x, .imm [.int .i64 m] 0] = some (decide (m ≤ x)) :=
  Fline_atLeast_1_of x m (by
    unfold tline_atLeast_1
    by_cases h : m ≤ x
    · rw [bif_pos h, decide_eq_true h]
    · rw [bif_neg h, decide_eq_false h])
theorem idxAt_loop (m : Int) (l : List Int) (hl : l.length < 4294967296) : ∀ i, i ≤ l.length →
    Rline_IndexFunc_at_0 (Tline_IndexFunc_at_0a l.length (encI l) m l.length i) = exO (XLline_IndexFunc_at_0.fn (gaS m (l.drop i) i)) := by
  refine up_ind _ ?_ ?_
  · refine Rline_IndexFunc_at_0a_of _ _ _ _ _ ?_
    unfold Bline_IndexFunc_at_0a
    rw [bif_neg (by omega), List.drop_length]
    rfl
  · intro i hi ih
    obtain ⟨x, hx, hd⟩ := get_drop hi
    refine Rline_IndexFunc_at_0a_of _ _ _ _ _ ?_
    unfold Bline_IndexFunc_at_0a
    rw [bif_pos (by omega), bif_pos (by omega)]
    simp only [Int.toNat_natCast, Nat.mul_one, encI_get, hx, Option.map_some, intC_int, bindO_val, atLeast1_is]
    rw [hd, w64_in (by omega)]
    by_cases he : m ≤ x
    · rw [bif_pos he, show gaS m (x :: l.drop (i + 1)) i = .inl (i : Int) from if_pos he]
      rfl
    · rw [bif_neg he, show gaS m (x :: l.drop (i + 1)) i = gaS m (l.drop (i + 1)) (i + 1) from if_neg he]
      exact ih
theorem containsAt_is (m : Int) (l : List Int) (hl : l.length < 4294967296) : Fline_ContainsFunc_at [.list l.length (encI l), .fn 101 [.imm [.int .i64 m] 0]] = some (anyG m l) := by
  have q : Fline_IndexFunc_at [.list l.length (encI l), .fn 101 [.imm [.int .i64 m] 0]] = some (Sum.elim id (fun _ => -1) (gaS m l 0)) := by
    refine Fline_IndexFunc_at_of _ _ _ ?_
    unfold tline_IndexFunc_at
    have := lpO_of Iline_IndexFunc_at_0 XIline_IndexFunc_at_0 (idxAt_loop m l hl 0 (by omega))
    rw [List.drop_zero] at this
    have this : Lline_IndexFunc_at_0 (Tline_IndexFunc_at_0a l.length (encI l) m l.length 0) = _ := this
    rw [this]
    cases gaS m l 0 <;> rfl
  refine Fline_ContainsFunc_at_of _ _ _ ?_
  unfold tline_ContainsFunc_at
  simp only [q, bindO_val]
  rcases gaS_spec m l 0 with ⟨h1, j, h2, h3⟩ | ⟨h1, h2⟩
  · rw [h1, h2, bif_pos (by simpa using h3)]
  · rw [h1, h2, bif_neg (by simp)]

/-! ### How many cases -/

theorem pow_bd {v n : Nat} (hv : v ≤ 4) (hn : n ≤ 16) : v ^ n ≤ 4294967296 :=
  Nat.le_trans (Nat.pow_le_pow_left hv n) (Nat.le_trans (Nat.pow_le_pow_right (by omega) hn) (by decide))
theorem pow_w {v i n : Nat} (hv : v ≤ 4) (hn : n ≤ 16) (hi : i < n) : w64 (((v ^ i : Nat) : Int) * (v : Int)) = ((v ^ (i + 1) : Nat) : Int) := by
  have h := pow_bd (v := v) (n := i + 1) hv (by omega)
  have e : ((v ^ i : Nat) : Int) * (v : Int) = ((v ^ (i + 1) : Nat) : Int) := by rw [Nat.pow_succ, Int.natCast_mul]
  rw [e, w64_in (by omega)]
def cnt (s v : List Int) : Nat := v.length ^ s.length
theorem cnt_loop (s v : List Int) (hv : v.length ≤ 4) (hs : s.length ≤ 16) (t1 t2 : Int) : ∀ i, i ≤ s.length →
    Rline_caseCount_0 (Tline_caseCount_0a ((v.length ^ i : Nat) : Int) s.length i s.length (encI s) v.length (encI v) t1 t2) = exO (Xline_caseCount_0a ((cnt s v : Int), s.length, encI s, v.length, encI v, t1, t2)) := by
  refine up_ind _ ?_ ?_
  · refine Rline_caseCount_0a_of _ _ _ _ _ _ _ _ _ ?_
    unfold Bline_caseCount_0a
    rw [bif_neg (by omega)]
    rfl
  · intro i hi ih
    refine Rline_caseCount_0a_of _ _ _ _ _ _ _ _ _ ?_
    unfold Bline_caseCount_0a
    rw [bif_pos (by omega), pow_w hv hs hi, w64_in (by omega)]
    exact ih
theorem caseCount_is (s v : List Int) (hv : v.length ≤ 4) (hs : s.length ≤ 16) (t1 t2 : Int) : Fline_caseCount [.agg [.list s.length (encI s), .list v.length (encI v), .int .i64 t1, .int .i64 t2]] = some (cnt s v : Int) := by
  refine Fline_caseCount_of _ _ _ _ _ _ ?_
  unfold tline_caseCount
  have := Lline_caseCount_0a_of (cnt_loop s v hv hs t1 t2 0 (by omega))
  rw [show ((v.length ^ 0 : Nat) : Int) = 1 by simp, show ((0 : Nat) : Int) = 0 from rfl] at this
  simp only [this, bindO_val]

def caS (v : List Int) (n : Nat) : Unit ⊕ (Int × Nat × List PV) := if 4096 < v.length ^ n then .inl () else .inr (((v.length ^ n : Nat) : Int), v.length, encI v)
theorem cases_loop (v : List Int) (hv : 1 ≤ v.length ∧ v.length ≤ 4) (n : Nat) (hn : n ≤ 16) : ∀ i, i ≤ n → v.length ^ i ≤ 4096 →
    RRfCases_0 (TRfCases_0a n ((v.length ^ i : Nat) : Int) i v.length (encI v)) = exO (XLRfCases_0.fn (caS v n)) := by
  refine up_ind _ ?_ ?_
  · intro h
    refine RRfCases_0a_of _ _ _ _ _ ?_
    unfold BRfCases_0a
    rw [bif_neg (by omega), show caS v n = .inr (((v.length ^ n : Nat) : Int), v.length, encI v) from if_neg (by omega)]
    rfl
  · intro i hi ih h
    refine RRfCases_0a_of _ _ _ _ _ ?_
    unfold BRfCases_0a
    rw [bif_pos (by omega), pow_w hv.2 hn hi]
    have mono : v.length ^ (i + 1) ≤ v.length ^ n := Nat.pow_le_pow_right (by omega) (by omega)
    by_cases h2 : 4096 < v.length ^ (i + 1)
    · rw [bif_pos (by omega), show caS v n = .inl () from if_pos (by omega)]
      rfl
    · rw [bif_neg (by omega), w64_in (by omega)]
      exact ih (by omega)
theorem refCases_is (v : List Int) (hv : 1 ≤ v.length ∧ v.length ≤ 4) (n : Nat) (hn : n ≤ 16) : FRfCases [.agg [.list v.length (encI v)], .int .i64 n] = some (if 4096 < v.length ^ n then 4097 else ((v.length ^ n : Nat) : Int)) := by
  refine FRfCases_of _ _ _ ?_
  unfold tRfCases
  have := lpO_of IRfCases_0 XIRfCases_0 (cases_loop v hv n hn 0 (by omega) (by simp))
  rw [show ((v.length ^ 0 : Nat) : Int) = 1 by simp] at this
  have this : LRfCases_0 (TRfCases_0a n 1 0 v.length (encI v)) = _ := this
  rw [this]
  unfold caS
  by_cases h : 4096 < v.length ^ n
  · rw [if_pos h, if_pos h]; rfl
  · rw [if_neg h, if_neg h]; rfl
theorem casesError_is (s v : List Int) (hv : v.length ≤ 4) (hs : s.length ≤ 16) (t1 t2 : Int) : Fline_casesError [.agg [.list s.length (encI s), .list v.length (encI v), .int .i64 t1, .int .i64 t2]] = some (if 4096 < cnt s v then 8 else 0) := by
  refine Fline_casesError_of _ _ _ _ _ _ ?_
  unfold tline_casesError
  simp only [caseCount_is s v hv hs, bindO_val]
  by_cases h : 4096 < cnt s v
  · rw [bif_pos (by omega), if_pos h]
  · rw [bif_neg (by omega), if_neg h]

/-! ### The truth -/

def trE (n d : Int) : Int := if loQ n d then (if (-100 ≤ n ∧ n ≤ 100) ∧ d ≤ 100 then 0 else 2) else 3
def frE (n d : Int) : Int := if loQ n d then (if laQ n d then 2 else 0) else 3
theorem fractionError_is {n d : Int} (hd : I64 d) : Fline_fractionError [.agg [.int .i64 n, .int .i64 d]] = some (frE n d) := by
  refine Fline_fractionError_of _ _ ?_
  unfold tline_fractionError frE
  simp only [isLowest_is hd, isLarge_is, lnErrorIf_is, lnFirst2_is, bindO_val, bif_dec, both]
  by_cases h1 : loQ n d <;> by_cases h2 : laQ n d <;> simp [h1, h2]
theorem tr_fr (n d : Int) : first3 (frE n d) (rangeE n (-100) 100) (rangeE d 1 100) = trE n d := by
  have a0 : ∀ b c, first3 0 b c = both b c := fun b c => rfl
  have a2 : ∀ b c, first3 2 b c = 2 := fun b c => rfl
  have a3 : ∀ b c, first3 3 b c = 3 := fun b c => rfl
  unfold frE trE
  by_cases h1 : loQ n d
  · have hd := h1.1
    rw [if_pos h1, if_pos h1]
    by_cases h2 : laQ n d
    · have h3 : ¬ ((-100 ≤ n ∧ n ≤ 100) ∧ d ≤ 100) := by unfold laQ at h2; omega
      rw [if_pos h2, if_neg h3, a2]
    · rw [if_neg h2, a0]
      by_cases h3 : -100 ≤ n ∧ n ≤ 100
      · rw [rangeE_in h3, both_zero rfl]
        by_cases h4 : d ≤ 100
        · rw [rangeE_in ⟨by omega, h4⟩, if_pos ⟨h3, h4⟩]
        · have h5 : ¬ ((-100 ≤ n ∧ n ≤ 100) ∧ d ≤ 100) := fun k => h4 k.2
          rw [rangeE_out (by omega), if_neg h5]
      · have h5 : ¬ ((-100 ≤ n ∧ n ≤ 100) ∧ d ≤ 100) := fun k => h3 k.1
        rw [rangeE_out h3, if_neg h5, both_not (by omega)]
  · rw [if_neg h1, if_neg h1, a3]
theorem truthError_is {n d : Int} (hd : I64 d) : Fline_truthError [.agg [.int .i64 n, .int .i64 d]] = some (trE n d) := by
  refine Fline_truthError_of _ _ ?_
  unfold tline_truthError
  simp only [fractionError_is hd, lnRangeError_is, lnFirst3_is, bindO_val, tr_fr]
theorem refFracErr_is {n d : Int} (hd : I64 d) : FRfFracErr [.agg [.int .i64 n, .int .i64 d]] = some (frE n d) := by
  refine FRfFracErr_of _ _ ?_
  unfold tRfFracErr frE
  simp only [refIsLowest_is hd, refIsSmall_is, bindO_val, bif_dec]
  by_cases h1 : loQ n d
  · have := h1.1
    rw [if_pos h1, if_pos h1]
    by_cases h2 : laQ n d
    · rw [if_neg (fun k => k.2 h2), if_pos h2]
    · rw [if_pos ⟨by omega, h2⟩, if_neg h2]
  · rw [if_neg h1, if_neg h1]
theorem refTruthErr_is {n d : Int} (hd : I64 d) : FRfTruthErr [.agg [.int .i64 n, .int .i64 d]] = some (trE n d) := by
  refine FRfTruthErr_of _ _ ?_
  unfold tRfTruthErr
  rw [← tr_fr]
  unfold first3
  simp only [refFracErr_is hd, within_is, bindO_val, bif_ne, bif_dec]
  by_cases h0 : frE n d = 0
  · have hp : 0 < d := by
      unfold frE at h0
      split at h0
      · rename_i h; exact h.1
      · cases h0
    simp only [h0, if_true, ne_eq, not_true_eq_false, if_false]
    by_cases h3 : rangeE n (-100) 100 = 0
    · simp only [h3, if_true, not_true_eq_false, if_false]
      by_cases h4 : d ≤ 100
      · rw [if_neg (by omega), rangeE_in ⟨by omega, h4⟩]
      · rw [if_pos (by omega), rangeE_out (by omega)]
    · simp only [h3, if_false, not_false_eq_true, if_true]
      rw [rangeE_out fun k => h3 (rangeE_in k)]
  · simp only [h0, if_false, ne_eq, not_false_eq_true, if_true]

/-! ### Cases -/

def caE (s v : List Int) (n d : Int) : Int :=
  if both (spE s) (nzE v) ≠ 0 then both (spE s) (nzE v) else if anyG 9001 s = true then 2 else if 4096 < cnt s v then 8 else trE n d
theorem checkCase_is (s v : List Int) (hs : s.length < 4294967296) (hv : v.length < 4294967296) {n d : Int} (hd : I64 d) :
    Fline_CheckCase [.agg [.list s.length (encI s), .list v.length (encI v), .int .i64 n, .int .i64 d]] = some (caE s v n d) := by
  refine Fline_CheckCase_of _ _ _ _ _ _ ?_
  unfold tline_CheckCase caE
  simp only [spError_is s hs, noiseError_is v hv, lnFirst2_is, bindO_val, bif_ne]
  by_cases h0 : both (spE s) (nzE v) = 0
  · obtain ⟨h1, h2⟩ := both_nil h0
    have sp := sp_ok h1
    have nz := nz_ok h2
    simp only [h0, if_true, ne_eq, not_true_eq_false, if_false, containsAt_is 9001 s hs, casesError_is s v nz.len sp.len, truthError_is hd, lnFirst3_is, bindO_val]
    unfold first3
    cases anyG 9001 s with
    | true => rfl
    | false =>
      by_cases h3 : 4096 < cnt s v
      · simp [h3]
      · simp [h3]
  · simp only [h0, if_false, ne_eq, not_false_eq_true, if_true]

def cseS (s v : List Int) (n d : Int) (b : Bool) : Unit ⊕ (Nat × List PV × Nat × List PV × Int × Int) := if b = true then .inl () else .inr (s.length, encI s, v.length, encI v, n, d)
theorem caseErr_loop (s v : List Int) (hs : s.length < 4294967296) (n d : Int) : ∀ i, i ≤ s.length →
    RRfCaseErr_0 (TRfCaseErr_0a i s.length (encI s) v.length (encI v) n d) = exO (XLRfCaseErr_0.fn (cseS s v n d (anyG 9001 (s.drop i)))) := by
  refine up_ind _ ?_ ?_
  · refine RRfCaseErr_0a_of _ _ _ _ _ _ _ ?_
    unfold BRfCaseErr_0a
    rw [bif_neg (by omega), List.drop_length]
    rfl
  · intro i hi ih
    obtain ⟨x, hx, hdr⟩ := get_drop hi
    refine RRfCaseErr_0a_of _ _ _ _ _ _ _ ?_
    unfold BRfCaseErr_0a
    rw [bif_pos (by omega), bif_pos (by omega)]
    simp only [Int.toNat_natCast, Nat.mul_one, encI_get, hx, Option.map_some, intC_int, bindO_val]
    rw [hdr, w64_in (by omega)]
    by_cases he : 9001 ≤ x
    · rw [bif_pos (by omega), show anyG 9001 (x :: s.drop (i + 1)) = true by simp [anyG, he]]
      rfl
    · rw [bif_neg (by omega), show anyG 9001 (x :: s.drop (i + 1)) = anyG 9001 (s.drop (i + 1)) by simp [anyG, he]]
      exact ih
theorem refCaseErr_is (s v : List Int) {n d : Int} (hd : I64 d) : FRfCaseErr [.agg [.list s.length (encI s), .list v.length (encI v), .int .i64 n, .int .i64 d]] = some (caE s v n d) := by
  refine FRfCaseErr_of _ _ _ _ _ _ ?_
  unfold tRfCaseErr caE
  simp only [refSpErr_is, refNoiseErr_is, bindO_val, bif_ne]
  by_cases h1 : spE s = 0
  · by_cases h2 : nzE v = 0
    · have sp := sp_ok h1
      have nz := nz_ok h2
      have hl := sp.len
      have := lpO_of IRfCaseErr_0 XIRfCaseErr_0 (caseErr_loop s v (by omega) n d 0 (by omega))
      rw [List.drop_zero] at this
      have this : LRfCaseErr_0 (TRfCaseErr_0a 0 s.length (encI s) v.length (encI v) n d) = _ := this
      rw [this]
      unfold cseS
      cases anyG 9001 s with
      | true => simp [h1, h2, both]
      | false =>
        simp only [h1, h2, both, if_true, ne_eq, not_true_eq_false, if_false, Bool.false_eq_true, bindO_val, Sum.elim_inr, refCases_is v ⟨nz.pos, nz.len⟩ s.length hl, refTruthErr_is hd]
        rw [show v.length ^ s.length = cnt s v from rfl]
        by_cases h3 : 4096 < cnt s v
        · rw [if_pos h3, if_pos h3, bif_pos (by omega)]
        · rw [if_neg h3, if_neg h3, bif_neg (by omega)]
    · simp [h1, h2, both]
  · simp [h1, both]

/-- What is asked of a case that is accepted. -/
structure Ca (s v : List Int) (n d : Int) : Prop where
  sp : Sp s
  nz : Nz v
  weak : ∀ x ∈ s, x ≤ 9000
  cs : cnt s v ≤ 4096
  lo : loQ n d
  nb : -100 ≤ n ∧ n ≤ 100
  db : d ≤ 100
theorem ca_ok {s v : List Int} {n d : Int} (h : caE s v n d = 0) : Ca s v n d := by
  unfold caE at h
  split at h
  · contradiction
  · rename_i h0
    obtain ⟨h1, h2⟩ := both_nil (show both (spE s) (nzE v) = 0 by simpa using h0)
    split at h
    · cases h
    · rename_i h3
      split at h
      · cases h
      · rename_i h4
        unfold trE at h
        split at h
        · rename_i h5
          split at h
          · rename_i h6
            refine ⟨sp_ok h1, nz_ok h2, fun x hx => ?_, by omega, h5, h6.1, h6.2⟩
            by_cases h7 : 9001 ≤ x
            · exact absurd (List.any_eq_true.2 ⟨x, hx, decide_eq_true h7⟩) h3
            · omega
          · cases h
        · cases h

/-! ### The spectrum of a case -/

def dgI (m : Nat) (d : Int) : Nat → Int
  | 0 => d
  | i + 1 => (dgI m d i).tdiv m
theorem dg_bd {m : Nat} {d b : Int} (h : 0 ≤ d ∧ d ≤ b) : ∀ i, 0 ≤ dgI m d i ∧ dgI m d i ≤ b
  | 0 => h
  | i + 1 => by
    have a := dg_bd (m := m) h i
    have c := Int.tdiv_nonneg a.1 (show (0 : Int) ≤ (m : Int) by omega)
    have e : (dgI m d i).tdiv m ≤ dgI m d i := by
      have h1 : ((dgI m d i).tdiv m).natAbs ≤ (dgI m d i).natAbs := by rw [Int.natAbs_tdiv]; exact Nat.div_le_self _ _
      omega
    exact ⟨c, by rw [dgI]; omega⟩
def nzF (s v : List Int) (d : Int) (i : Nat) : Int := s.getD i 0 + v.getD ((dgI v.length d i).tmod v.length).toNat 0
def nzL (s v : List Int) (d : Int) : List Int := tabI (nzF s v d) s.length
theorem nzF_bd {s v : List Int} (hs : Sm 10000 s) (hv : Sm 1000 v) (d : Int) (i : Nat) : 0 ≤ nzF s v d i ∧ nzF s v d i ≤ 11000 := by
  have a := hs.getD (by omega) i
  have b := hv.getD (by omega) ((dgI v.length d i).tmod v.length).toNat
  unfold nzF
  omega
theorem dg_mod {v : List Int} (hv : 1 ≤ v.length) {x : Int} (h : 0 ≤ x) : 0 ≤ x.tmod v.length ∧ x.tmod v.length < v.length := ⟨Int.tmod_nonneg _ h, Int.tmod_lt_of_pos _ (by omega)⟩

def tNy (s v : List Int) (d t1 t2 : Int) (i : Nat) : Q :=
  if i = 0 then Tline_noisy_0a v.length (encI v) s.length d s.length (encI s) s.length s.length (encI s) v.length (encI v) t1 t2 (encI (fillI (nzF s v d) s.length 0))
  else Tline_noisy_0b v.length (encI v) s.length (dgI v.length d i) s.length (encI s) s.length i (encI (fillI (nzF s v d) s.length i))
theorem noisy_loop (s v : List Int) (h1 : 1 ≤ s.length ∧ s.length ≤ 1000) (h2 : 1 ≤ v.length ∧ v.length ≤ 1000) (hs : Sm 10000 s) (hv : Sm 1000 v) {d : Int} (hd : 0 ≤ d ∧ d ≤ 1000000000) (t1 t2 : Int) : ∀ i, i ≤ s.length →
    Rline_noisy_0 (tNy s v d t1 t2 i) = exO (Xline_noisy_0a (s.length, encI (fillI (nzF s v d) s.length s.length))) := by
  refine up_ind _ ?_ ?_
  · unfold tNy
    rw [if_neg (by omega)]
    refine Rline_noisy_0b_of _ _ _ _ _ _ _ _ _ ?_
    unfold Bline_noisy_0b
    rw [bif_neg (by omega)]
    rfl
  · intro i hi ih
    have g := dg_bd (m := v.length) hd i
    have q := dg_mod h2.1 g.1
    have b := nzF_bd hs hv d i
    have e0 : (v.length : Int) ≠ 0 := by omega
    have wd : w64 ((dgI v.length d i).tdiv (v.length : Int)) = dgI v.length d (i + 1) := by
      have := dg_bd (m := v.length) hd (i + 1)
      rw [show (dgI v.length d i).tdiv (v.length : Int) = dgI v.length d (i + 1) from rfl, w64_in (by omega)]
    have q1 : decide ((0 : Int) ≤ (dgI v.length d i).tmod v.length ∧ (dgI v.length d i).tmod v.length < (v.length : Int)) = true := decide_eq_true q
    have gv := get_getD (l := v) (i := ((dgI v.length d i).tmod v.length).toNat) 0 (by omega)
    have wx : w64 (s.getD i 0 + v.getD ((dgI v.length d i).tmod v.length).toNat 0) = nzF s v d i := by
      rw [show s.getD i 0 + v.getD ((dgI v.length d i).tmod v.length).toNat 0 = nzF s v d i from rfl, w64_in (by omega)]
    have ov := overO_fill (nzF s v d) hi
    unfold tNy at ih ⊢
    rw [if_neg (by omega)] at ih
    by_cases hz : i = 0
    · subst hz
      rw [if_pos rfl]
      refine Rline_noisy_0a_of _ _ _ _ _ _ _ _ _ _ _ _ _ _ ?_
      unfold Bline_noisy_0a
      rw [show dgI v.length d 0 = d from rfl] at q1 gv wx wd
      rw [Nat.zero_mul, Nat.zero_add] at ov
      rw [bif_pos (by omega), bif_pos (by omega)]
      simp only [encI_get, get_getD 0 hi, Option.map_some, intC_int, bindO_val, ne_eq, e0, not_false_eq_true, decide_true, cond_true, q1, Nat.mul_one, gv, wx]
      rw [bif_pos (by omega), ov]
      simp only [bindO_val, wd]
      exact ih
    · rw [if_neg hz]
      refine Rline_noisy_0b_of _ _ _ _ _ _ _ _ _ ?_
      unfold Bline_noisy_0b
      rw [bif_pos (by omega), bif_pos (by omega)]
      simp only [Int.toNat_natCast, encI_get, Nat.mul_one, get_getD 0 hi, Option.map_some, intC_int, bindO_val, ne_eq, e0, not_false_eq_true, decide_true, cond_true, q1, gv, wx]
      rw [Nat.mul_one] at ov
      rw [bif_pos (by omega), ov]
      simp only [bindO_val, wd]
      rw [w64_in (by omega)]
      exact ih
theorem noisy_is (s v : List Int) (h1 : 1 ≤ s.length ∧ s.length ≤ 1000) (h2 : 1 ≤ v.length ∧ v.length ≤ 1000) (hs : Sm 10000 s) (hv : Sm 1000 v) {d : Int} (hd : 0 ≤ d ∧ d ≤ 1000000000) (t1 t2 : Int) :
    Fline_noisy [.agg [.list s.length (encI s), .list v.length (encI v), .int .i64 t1, .int .i64 t2], .int .i64 d] = some (s.length, encI (nzL s v d)) := by
  refine Fline_noisy_of _ _ _ _ _ _ _ ?_
  unfold tline_noisy
  have := Lline_noisy_0a_of (noisy_loop s v h1 h2 hs hv hd t1 t2 0 (by omega))
  rw [show tNy s v d t1 t2 0 = _ from if_pos rfl, fillI_zero] at this
  rw [bif_pos ⟨rfl, by omega, by simp only [big]; omega⟩]
  simp only [Int.toNat_natCast, rep_I, this, bindO_val, fillI_all]
  rw [bif_pos (by simp), List.drop_zero, Nat.mul_one, List.take_of_length_le (by simp)]
  rfl

def tRN (s v : List Int) (d : Int) (i : Nat) : Q :=
  if i = 0 then TRfNoisy_0a s.length (encI s) d v.length (encI v)
  else TRfNoisy_0b s.length (encI s) (dgI v.length d i) i (encI (tabI (nzF s v d) i)) i v.length (encI v) i
theorem refNoisy_loop (s v : List Int) (h1 : 1 ≤ s.length ∧ s.length ≤ 1000) (h2 : 1 ≤ v.length ∧ v.length ≤ 1000) (hs : Sm 10000 s) (hv : Sm 1000 v) {d : Int} (hd : 0 ≤ d ∧ d ≤ 1000000000) : ∀ i, i ≤ s.length →
    RRfNoisy_0 (tRN s v d i) = exO (XRfNoisy_0b (s.length, encI (nzL s v d), v.length, encI v, s.length)) := by
  refine up_ind _ ?_ ?_
  · unfold tRN
    rw [if_neg (by omega)]
    refine RRfNoisy_0b_of _ _ _ _ _ _ _ _ _ ?_
    unfold BRfNoisy_0b
    rw [bif_neg (by omega)]
    rfl
  · intro i hi ih
    have g := dg_bd (m := v.length) hd i
    have q := dg_mod h2.1 g.1
    have b := nzF_bd hs hv d i
    have e0 : (v.length : Int) ≠ 0 := by omega
    have wd : w64 ((dgI v.length d i).tdiv (v.length : Int)) = dgI v.length d (i + 1) := by
      have := dg_bd (m := v.length) hd (i + 1)
      rw [show (dgI v.length d i).tdiv (v.length : Int) = dgI v.length d (i + 1) from rfl, w64_in (by omega)]
    have q1 : decide ((0 : Int) ≤ (dgI v.length d i).tmod v.length ∧ (dgI v.length d i).tmod v.length < (v.length : Int)) = true := decide_eq_true q
    have gv := get_getD (l := v) (i := ((dgI v.length d i).tmod v.length).toNat) 0 (by omega)
    have wx : w64 (s.getD i 0 + v.getD ((dgI v.length d i).tmod v.length).toNat 0) = nzF s v d i := by
      rw [show s.getD i 0 + v.getD ((dgI v.length d i).tmod v.length).toNat 0 = nzF s v d i from rfl, w64_in (by omega)]
    have tk : encI (tabI (nzF s v d) i) ++ [.int .i64 (nzF s v d i)] = encI (tabI (nzF s v d) (i + 1)) := by rw [encI_snoc, tabI_succ]
    unfold tRN at ih ⊢
    rw [if_neg (by omega)] at ih
    by_cases hz : i = 0
    · subst hz
      rw [if_pos rfl]
      refine RRfNoisy_0a_of _ _ _ _ _ ?_
      unfold BRfNoisy_0a
      rw [show dgI v.length d 0 = d from rfl] at q1 gv wx wd
      rw [bif_pos (by omega), bif_pos (by omega)]
      simp only [encI_get, get_getD 0 hi, Option.map_some, intC_int, bindO_val, ne_eq, e0, not_false_eq_true, decide_true, cond_true, q1, Nat.mul_one, gv, wx, wd]
      exact ih
    · rw [if_neg hz]
      refine RRfNoisy_0b_of _ _ _ _ _ _ _ _ _ ?_
      unfold BRfNoisy_0b
      rw [bif_pos (by omega), bif_pos (by omega)]
      simp only [Int.toNat_natCast, encI_get, Nat.mul_one, get_getD 0 hi, Option.map_some, intC_int, bindO_val, ne_eq, e0, not_false_eq_true, decide_true, cond_true, q1, gv, wx, wd]
      rw [bif_pos ⟨trivial, by simp only [big]; omega⟩, tk, w64_in (by omega)]
      exact ih
theorem refNoisy_is (s v : List Int) (h1 : 1 ≤ s.length ∧ s.length ≤ 1000) (h2 : 1 ≤ v.length ∧ v.length ≤ 1000) (hs : Sm 10000 s) (hv : Sm 1000 v) {d : Int} (hd : 0 ≤ d ∧ d ≤ 1000000000) :
    FRfNoisy [.list s.length (encI s), .agg [.list v.length (encI v)], .int .i64 d] = some (s.length, encI (nzL s v d)) := by
  refine FRfNoisy_of _ _ _ _ _ ?_
  unfold tRfNoisy
  have := LRfNoisy_0b_of (refNoisy_loop s v h1 h2 hs hv hd 0 (by omega))
  rw [show tRN s v d 0 = _ from if_pos rfl] at this
  simp only [this, bindO_val, Sum.elim_inr, decide_true, cond_true]

theorem hasNoCase_is (s v : List Int) (hv : v.length ≤ 4) (hs : s.length ≤ 16) (t1 t2 x : Int) : Fline_hasNoCase [.agg [.list s.length (encI s), .list v.length (encI v), .int .i64 t1, .int .i64 t2], .int .i64 x] = some (decide (rangeE x 0 ((cnt s v : Int) - 1) ≠ 0)) := by
  refine Fline_hasNoCase_of _ _ _ _ _ _ _ ?_
  unfold tline_hasNoCase
  have := pow_bd (v := v.length) (n := s.length) hv hs
  rw [show v.length ^ s.length = cnt s v from rfl] at this
  simp only [caseCount_is s v hv hs, bindO_val]
  rw [w64_in (by omega)]
  simp only [outside_is, bindO_val]
  cases decide (rangeE x 0 ((cnt s v : Int) - 1) ≠ 0) <;> rfl

def nyE (s v : List Int) (n d x : Int) : Int := if caE s v n d ≠ 0 then caE s v n d else if rangeE x 0 ((cnt s v : Int) - 1) = 0 then 0 else 6
def nyR (s v : List Int) (n d x : Int) : (Nat × List PV) × Int := if nyE s v n d x ≠ 0 then ((0, []), nyE s v n d x) else ((s.length, encI (nzL s v x)), 0)
theorem noisyOf_is (s v : List Int) (hs : s.length < 4294967296) (hv : v.length < 4294967296) {n d : Int} (hd : I64 d) (x : Int) :
    Fline_Noisy [.agg [.list s.length (encI s), .list v.length (encI v), .int .i64 n, .int .i64 d], .int .i64 x] = some (nyR s v n d x) := by
  refine Fline_Noisy_of _ _ _ _ _ _ _ ?_
  unfold tline_Noisy nyR nyE
  simp only [checkCase_is s v hs hv hd, bindO_val, bif_ne]
  by_cases h : caE s v n d = 0
  · have c := ca_ok h
    have h1 := c.sp.pos; have h2 := c.sp.len; have h3 := c.nz.pos; have h4 := c.nz.len; have h5 := c.cs
    simp only [h, if_true, ne_eq, not_true_eq_false, if_false, hasNoCase_is s v h4 h2, bindO_val]
    by_cases h6 : rangeE x 0 ((cnt s v : Int) - 1) = 0
    · have h7 := rangeE_ok h6
      simp only [h6, not_true_eq_false, decide_false, cond_false, if_true, if_false, noisy_is s v (by omega) (by omega) c.sp.sm c.nz.sm (d := x) (by omega), bindO_val]
    · simp only [h6, not_false_eq_true, decide_true, cond_true, if_false]
      rfl
  · simp only [h, if_false, ne_eq, not_false_eq_true, if_true]

theorem copyNoise_is (v : List Int) (hv : v.length ≤ 1000000) : FRfCopyNoise [.agg [.list v.length (encI v)]] = some (v.length, encI v) := by
  refine FRfCopyNoise_of _ _ ?_
  unfold tRfCopyNoise
  simp only [lcopyI_is v hv, bindO_val]
theorem copyCase_is (s v : List Int) (hs : s.length ≤ 1000000) (hv : v.length ≤ 1000000) (n d : Int) : FRfCopyCase [.agg [.list s.length (encI s), .list v.length (encI v), .int .i64 n, .int .i64 d]] = some ((s.length, encI s), ((v.length, encI v), (n, d))) := by
  refine FRfCopyCase_of _ _ _ _ _ _ ?_
  unfold tRfCopyCase
  simp only [lcopyI_is s hs, copyNoise_is v hv, bindO_val]
end Gv
