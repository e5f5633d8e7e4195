import Derived.Test.YtkbahledgljaoaaGreatZP3a
import Derived.Test.YtkbahledgljaoaaGreatZS2
import Derived.Test.YtkbahledgljaoaaGreatZC6
import Derived.Test.YtkbahledgljaoaaGreatZC7
import Derived.Test.YtkbahledgljaoaaGreatA0

/- Shares undone: parts, products and spans. -/
namespace Gv
open Go
set_option maxRecDepth 100000

theorem brk_sum {l : List Int} {c : Int} (h : brkE l c = 0) : l.sum ≤ c := by
  unfold brkE at h
  by_cases h1 : l.sum > c
  · rw [if_pos h1] at h
    cases h
  · omega
theorem rest_nonneg {l : List Int} (hv : okP l) {c : Int} (h : brkE l c = 0) {i : Nat} (hi : i ≤ l.length) : 0 ≤ restL l c i := by
  have a := restL_le hv c (l.length - i) i (by omega)
  rw [show i + (l.length - i) = l.length by omega] at a
  have e : restL l c l.length = c - l.sum := by unfold restL; rw [List.take_length]
  have := brk_sum h
  omega
theorem restL_more (l : List Int) (c d : Int) (i : Nat) : restL l (c + d) i = restL l c i + d := by
  unfold restL
  omega
theorem brk_more {l : List Int} (h1 : 1 ≤ l.length) (hv : okP l) {c d : Int} (hd : 0 ≤ d) (h : brkE l c = 0) : brkE l (c + d) = 0 := by
  have h2 := brk_sum h
  have h3 := rest_pos hv h (i := l.length - 1) (by omega)
  unfold brkE
  rw [if_neg (by omega), restL_more, if_neg (by omega)]

/-- What is known of a share. -/
theorem shr_facts {l : List Int} (hl : l.length ≤ 1000) (hv : okP l) {c : Int} (hc : 1 ≤ c ∧ c ≤ 1000000) (h : brkE l c = 0) {i : Nat} {x : Int} (hx : l[i]? = some x) :
    ∃ g : Int, 0 < g ∧ (shr l c i).1 * g = x ∧ (shr l c i).2 * g = restL l c i ∧ 0 < (shr l c i).2 ∧ (shr l c i).2 ≤ 1000000 ∧ 0 ≤ (shr l c i).1 ∧ (shr l c i).1 ≤ (shr l c i).2 ∧ Int.gcd (shr l c i).1 (shr l c i).2 = 1 := by
  have hi : i < l.length := (List.getElem?_eq_some_iff.1 hx).1
  have hp := rest_pos hv h hi
  have hxv := hv x (List.mem_of_getElem? hx)
  have hn := rest_nonneg hv h (i := i + 1) (by omega)
  rw [restL_succ c hx] at hn
  have hr0 := restL_le hv c i 0 (by omega)
  rw [Nat.zero_add, restL_zero] at hr0
  have e : shr l c i = lowF x (restL l c i) := by
    unfold shr
    rw [List.getD_eq_getElem?_getD, hx]
    rfl
  rw [e]
  obtain ⟨m1, m2⟩ := lowF_mul x (restL l c i)
  have g := gcd_pos (n := x) hp
  have hd := lowF_den (n := x) hp
  have hg := lowF_gcd (n := x) hp
  generalize (lowF x (restL l c i)).1 = p at *
  generalize (lowF x (restL l c i)).2 = q at *
  generalize (Int.gcd x (restL l c i) : Int) = k at *
  have p0 : 0 ≤ p := by
    by_cases h0 : 0 ≤ p
    · exact h0
    · have := Int.mul_neg_of_neg_of_pos (show p < 0 by omega) g
      omega
  have pq : p ≤ q := by
    by_cases h0 : p ≤ q
    · exact h0
    · have := Int.mul_lt_mul_of_pos_right (show q < p by omega) g
      omega
  have q1 : q ≤ 1000000 := by
    have := Int.mul_le_mul_of_nonneg_left (show (1 : Int) ≤ k by omega) (show 0 ≤ q by omega)
    omega
  exact ⟨k, g, m1, m2, hd, q1, p0, pq, hg⟩
theorem lowF_one (n : Int) : lowF n 1 = (n, 1) := by
  unfold lowF
  simp

def goodF (z : ZZ) : Prop := 0 < z.2 ∧ z.2 ≤ 1000000 ∧ 0 ≤ z.1 ∧ z.1 ≤ z.2 ∧ Int.gcd z.1 z.2 = 1
theorem part_is {z : ZZ} (h : goodF z) : Fcloud_partError [.agg [.int .i64 z.1, .int .i64 z.2]] = some 0 := by
  obtain ⟨h1, h2, h3, h4, h5⟩ := h
  refine Fcloud_partError_of _ _ ?_
  unfold tcloud_partError
  have hd := divisor_is (a := z.1) (b := z.2) (by unfold Bd; omega) (by unfold Bd; omega)
  rw [h5] at hd
  rw [bif_neg (by omega)]
  simp only [hd, bindO_val]
  rw [show (((1 : Nat) : Int) != 1) = false from rfl, cond_false]
  simp only [errorIf_is, rangeError_is, bindO_val, Bool.false_eq_true, if_false, rangeE_in ⟨h3, h4⟩]
  rw [bif_neg (by omega)]
  simp only [firstError3_is, bindO_val]
  rfl
theorem refPart_is {z : ZZ} (h : goodF z) : Fr8_PartErr [.agg [.int .i64 z.1, .int .i64 z.2]] = some 0 := by
  obtain ⟨h1, h2, h3, h4, h5⟩ := h
  have hl : Fb_IsLowest [.agg [.int .i64 z.1, .int .i64 z.2]] = some true := by
    refine Fb_IsLowest_of _ _ ?_
    unfold tb_IsLowest
    have hd := gcd_is (a := z.1) (b := z.2) (by unfold Bd; omega) (by unfold Bd; omega)
    rw [h5] at hd
    rw [bif_pos (by omega)]
    simp only [hd, bindO_val]
    rfl
  refine Fr8_PartErr_of _ _ ?_
  unfold tr8_PartErr
  simp only [hl, bindO_val, cond_true, within_is]
  rw [bif_pos ⟨h3, h4⟩, bif_neg (by omega)]
theorem fracsE_loop (l : List ZZ) (hl : l.length < 4294967296) (h : ∀ z ∈ l, goodF z) : ∀ i, i ≤ l.length →
    Rcloud_itemError_fracs_0 (Tcloud_itemError_fracs_0a l.length (encG l) l.length (encG l) l.length i) = exO (Xcloud_itemError_fracs_0b ()) := by
  refine up_ind _ ?_ ?_
  · refine Rcloud_itemError_fracs_0a_of _ _ _ _ _ _ ?_
    unfold Bcloud_itemError_fracs_0a
    rw [bif_neg (by omega)]
    rfl
  · intro i hi ih
    refine Rcloud_itemError_fracs_0a_of _ _ _ _ _ _ ?_
    unfold Bcloud_itemError_fracs_0a
    obtain ⟨z, hz, hd⟩ := get_drop hi
    have hp := part_is (h z (List.mem_of_getElem? hz))
    have hc : ∀ n cs, Fcloud_Attenuated_1 [.list n cs, .agg [.int .i64 z.1, .int .i64 z.2]] = some 0 := fun n cs => by
      refine Fcloud_Attenuated_1_of _ _ _ _ ?_
      unfold tcloud_Attenuated_1
      simp only [hp, bindO_val]
    rw [bif_pos (by omega), bif_pos (by omega)]
    have wk : w64 ((i : Int) + 1) = ((i + 1 : Nat) : Int) := by rw [w64_in (by omega)]; omega
    simp only [Int.toNat_natCast, gG0 hz, gG1 hz, intC_int, bindO_val, hc, wk]
    rw [bif_pos ⟨by omega, by show (i : Int) ≤ (l.length : Int); omega⟩, bif_pos (by right; rw [encG_len]; omega)]
    simp only [bne_self_eq_false, cond_false]
    exact ih
theorem filledF_is {l : List ZZ} (h1 : 1 ≤ l.length) (h2 : l.length ≤ 24) (h : ∀ z ∈ l, goodF z) : Fcloud_filledError_fracs [.list l.length (encG l), .int .i64 24, .fn 73 []] = some (0, 0) := by
  have a1 : Fcloud_itemError_fracs [.list l.length (encG l), .fn 73 []] = some (0, 0) := by
    refine Fcloud_itemError_fracs_of _ _ ?_
    unfold tcloud_itemError_fracs
    have hL := Lcloud_itemError_fracs_0b_of (y := ()) (fracsE_loop l (by omega) h 0 (by omega))
    have hL : Lcloud_itemError_fracs_0 (Tcloud_itemError_fracs_0a l.length (encG l) l.length (encG l) l.length 0) = _ := hL
    simp only [hL, bindO_val, Sum.elim_inr]
  have a2 : Fcloud_listError_fracs [.list l.length (encG l), .int .i64 24, .fn 73 []] = some (0, 0) := by
    refine Fcloud_listError_fracs_of _ _ _ ?_
    unfold tcloud_listError_fracs
    rw [bif_neg (by omega)]
    simp only [a1, bindO_val]
  refine Fcloud_filledError_fracs_of _ _ _ ?_
  unfold tcloud_filledError_fracs
  rw [bif_eq, if_neg (by omega)]
  simp only [a2, bindO_val]

theorem isLarge_is {a b : Int} (h : a = 0 ∨ (0 < a ∧ a ≤ 10000 ∧ b ≤ 10000)) : Fcloud_isLarge [.int .i64 a, .int .i64 b] = some false := by
  refine Fcloud_isLarge_of _ _ ?_
  unfold tcloud_isLarge
  rcases h with rfl | ⟨h1, h2, h3⟩
  · rw [bif_neg (by omega)]
  · have hq : (100000 : Int) ≤ Int.tdiv 1000000000 a ∧ Int.tdiv 1000000000 a ≤ 1000000000 := by
      rw [Int.tdiv_eq_ediv_of_nonneg (by omega)]
      refine ⟨(Int.le_ediv_iff_mul_le h1).2 (by omega), Int.ediv_le_self _ (by omega)⟩
    rw [bif_pos (by omega), bif_pos (by omega), w64_in (by omega), bif_neg (by omega)]
theorem product_is {p q g r x : Int} (hg : 0 < g) (hx : p * g = x) (hr : q * g = r) (hq : 0 < q) (hq2 : q ≤ 1000000) (hp : 0 ≤ p) (hpq : p ≤ q) (hx2 : x ≤ 10000) (hr2 : r ≤ 1000000) :
    Fcloud_product [.agg [.int .i64 p, .int .i64 q], .agg [.int .i64 r, .int .i64 1]] = some (x, 1, 0) := by
  refine Fcloud_product_of _ _ _ _ ?_
  unfold tcloud_product
  have r0 : 0 < r := by have := Int.mul_pos hq hg; omega
  have l1 := lowest_is (n := p) (d := 1) (by unfold Bd; omega) (by unfold Bd; omega) (by omega)
  have l2 := lowest_is (n := r) (d := q) (by unfold Bd; omega) (by unfold Bd; omega) hq
  rw [lowF_one] at l1
  have e2 : lowF r q = lowF g 1 := lowF_same hq (by omega) (by rw [Int.mul_one, ← hr, Int.mul_comm])
  rw [e2, lowF_one] at l2
  have hc : p = 0 ∨ (0 < p ∧ p ≤ 10000 ∧ g ≤ 10000) := by
    by_cases h : p = 0
    · exact .inl h
    · right
      have a := Int.mul_le_mul_of_nonneg_left (show (1 : Int) ≤ g by omega) hp
      have b := Int.mul_le_mul_of_nonneg_right (show (1 : Int) ≤ p by omega) (show 0 ≤ g by omega)
      omega
  have i1 := isLarge_is hc
  have i2 := isLarge_is (a := 1) (b := 1) (by omega)
  have x0 : 0 ≤ x := by have := Int.mul_nonneg hp (show 0 ≤ g by omega); omega
  have w1 : w64 (p * g) = x := by rw [hx, w64_in (by omega)]
  have w2 : w64 ((1 : Int) * 1) = 1 := by rw [w64_in (by omega)]; rfl
  simp only [l1, l2, bindO_val, i1, cond_false, i2, w1, w2]
theorem restAfter_is {p q g r x : Int} (hg : 0 < g) (hx : p * g = x) (hr : q * g = r) (hq : 0 < q) (hq2 : q ≤ 1000000) (hp : 0 ≤ p) (hpq : p ≤ q) (hx2 : x ≤ 10000) (hr2 : r ≤ 1000000) :
    Fcloud_restAfter [.agg [.int .i64 r, .int .i64 1], .agg [.int .i64 p, .int .i64 q], .agg [.int .i64 x, .int .i64 1]] = some (r - x, 1) := by
  refine Fcloud_restAfter_of _ _ _ _ _ _ ?_
  unfold tcloud_restAfter
  rw [bif_eq]
  by_cases h : p = 0
  · rw [if_pos h]
    have : x = 0 := by rw [← hx, h, Int.zero_mul]
    rw [this, Int.sub_zero]
  · rw [if_neg h]
    have x0 : 0 ≤ x := by have := Int.mul_nonneg hp (show 0 ≤ g by omega); omega
    have hm1 := Int.mul_nonneg x0 (show 0 ≤ q - p by omega)
    have hm2 : x * (q - p) ≤ 10000 * 1000000 := Int.mul_le_mul hx2 (by omega) (by omega) (by omega)
    have w1 : w64 (q - p) = q - p := w64_in (by omega)
    have w2 : w64 (x * (q - p)) = x * (q - p) := w64_in (by omega)
    have w3 : w64 ((1 : Int) * p) = p := by rw [Int.one_mul, w64_in (by omega)]
    have l1 := lowest_is (n := x * (q - p)) (d := p) (by unfold Bd; omega) (by unfold Bd; omega) (by omega)
    have e2 : lowF (x * (q - p)) p = lowF (r - x) 1 := lowF_same (by omega) (by omega) (by rw [← hx, ← hr]; grind)
    rw [e2, lowF_one] at l1
    simp only [w1, w2, w3, l1, bindO_val]
end Gv

/- Shares undone: signals of shares, spans, and how fractions compare. -/
namespace Gv
open Go
set_option maxRecDepth 100000

theorem shrL_get {l : List Int} {c : Int} {i : Nat} (hi : i < l.length) : (shrL l c)[i]? = some (shr l c i) := by
  unfold shrL
  rw [List.getElem?_map, List.getElem?_range hi]
  rfl
theorem shr_good {l : List Int} (hl : l.length ≤ 1000) (hv : okP l) {c : Int} (hc : 1 ≤ c ∧ c ≤ 1000000) (h : brkE l c = 0) {i : Nat} (hi : i < l.length) : goodF (shr l c i) := by
  obtain ⟨x, hx, _⟩ := get_drop hi
  obtain ⟨g, h1, h2, h3, h4, h5, h6, h7, h8⟩ := shr_facts hl hv hc h hx
  exact ⟨h4, h5, h6, h7, h8⟩
theorem shrL_good {l : List Int} (hl : l.length ≤ 1000) (hv : okP l) {c : Int} (hc : 1 ≤ c ∧ c ≤ 1000000) (h : brkE l c = 0) : ∀ z ∈ shrL l c, goodF z := fun z hz => by
  obtain ⟨i, hi, rfl⟩ := List.mem_map.1 hz
  exact shr_good hl hv hc h (List.mem_range.1 hi)

/-- A signal as a fraction. -/
def whl (l : List Int) (i : Nat) : ZZ := (l.getD i 0, 1)
def whlL (l : List Int) : List ZZ := (List.range l.length).map (whl l)
theorem whlL_len (l : List Int) : (whlL l).length = l.length := by simp [whlL]
theorem whlL_get {l : List Int} {i : Nat} {x : Int} (h : l[i]? = some x) : (whlL l)[i]? = some (x, 1) := by
  have hi : i < l.length := (List.getElem?_eq_some_iff.1 h).1
  unfold whlL whl
  rw [List.getElem?_map, List.getElem?_range hi]
  show some (l.getD i 0, (1 : Int)) = _
  rw [List.getD_eq_getElem?_getD, h]
  rfl
theorem att_loop (l : List Int) (hl : l.length ≤ 1000) (hv : okP l) (c : Int) (hc : 1 ≤ c ∧ c ≤ 1000000) (h : brkE l c = 0) : ∀ i, i ≤ l.length →
    Rcloud_Attenuated_0 (Tcloud_Attenuated_0a l.length l.length (encG (shrL l c)) l.length i (restL l c i) 1 (encG (fillG (whl l) l.length i))) = exO (Xcloud_Attenuated_0b (l.length, restL l c l.length, 1, encG (whlL l))) := by
  refine up_ind _ ?_ ?_
  · refine Rcloud_Attenuated_0a_of _ _ _ _ _ _ _ _ ?_
    unfold Bcloud_Attenuated_0a
    rw [bif_neg (by omega)]
    have : fillG (whl l) l.length l.length = whlL l := by simp [fillG, whlL]
    rw [this]
    rfl
  · intro i hi ih
    obtain ⟨x, hx, hd⟩ := get_drop hi
    have wk : w64 ((i : Int) + 1) = ((i + 1 : Nat) : Int) := by rw [w64_in (by omega)]; omega
    obtain ⟨g, h1, h2, h3, h4, h5, h6, h7, h8⟩ := shr_facts hl hv hc h hx
    have hxv := hv x (List.mem_of_getElem? hx)
    have hr0 := restL_le hv c i 0 (by omega)
    rw [Nat.zero_add, restL_zero] at hr0
    have hp := product_is h1 h2 h3 h4 h5 h6 h7 hxv.2 (by omega)
    have ha := restAfter_is h1 h2 h3 h4 h5 h6 h7 hxv.2 (by omega)
    rw [← restL_succ c hx] at ha
    have hz := shrL_get (c := c) hi
    have hw : whl l i = (x, 1) := by
      unfold whl
      rw [List.getD_eq_getElem?_getD, hx]
      rfl
    have ho := overO_fillG (whl l) hi
    rw [hw] at ho
    have hb1 : (decide (((0 : Int) ≤ (i : Int)) ∧ ((i : Int) < (l.length : Int)))) = true := decide_eq_true ⟨by omega, by omega⟩
    refine Rcloud_Attenuated_0a_of _ _ _ _ _ _ _ _ ?_
    unfold Bcloud_Attenuated_0a
    rw [bif_pos (by omega)]
    simp only [hb1, cond_true, Int.toNat_natCast, gG0 hz, gG1 hz, intC_int, bindO_val, hp, bne_self_eq_false, cond_false, ho, ha, wk]
    exact ih
theorem attenuated_is {l : List Int} (h0 : profE l = 0) {c : Int} (hc : 1 ≤ c ∧ c ≤ 1000000) (h : brkE l c = 0) :
    Fcloud_Attenuated [.list l.length (encG (shrL l c)), .int .i64 c] = some ((l.length, encG (whlL l)), 0) := by
  obtain ⟨b1, b2, hv⟩ := prof_ok h0
  refine Fcloud_Attenuated_of _ _ _ ?_
  unfold tcloud_Attenuated
  have hf := filledF_is (l := shrL l c) (by rw [shrL_len]; omega) (by rw [shrL_len]; omega) (shrL_good (by omega) hv hc h)
  rw [shrL_len] at hf
  have hbo : both 0 (rangeE c 1 1000000) = 0 := by rw [rangeE_in hc]; rfl
  simp only [hf, constantError_is, firstError2_is, bindO_val, hbo, bne_self_eq_false, cond_false]
  have hq := att_loop l (by omega) hv c hc h 0 (by omega)
  have hz : fillG (whl l) l.length 0 = List.replicate l.length (0, 0) := by simp [fillG]
  rw [hz, ← rep_G, restL_zero] at hq
  have hL := Lcloud_Attenuated_0b_of hq
  have hL : Lcloud_Attenuated_0 (Tcloud_Attenuated_0a l.length l.length (encG (shrL l c)) l.length 0 c 1 (rep [PV.int IntKind.i64 0, PV.int IntKind.i64 0] l.length)) = _ := hL
  rw [bif_pos (by first | (unfold big; omega) | exact ⟨trivial, by omega, by unfold big; omega⟩)]
  simp only [Int.toNat_natCast, hL, bindO_val, Sum.elim_inr]
  rw [bif_pos (by rw [encG_len, whlL_len]; omega)]
  rw [List.drop_zero, List.take_of_length_le (by rw [encG_len, whlL_len]; omega)]

/-! Spans -/
def spn (l : List Int) (c d : Int) (i : Nat) : Cl := ((shr l d i).1, (shr l d i).2, (shr l c i).1, (shr l c i).2)
def spnL (l : List Int) (c d : Int) : List Cl := (List.range l.length).map (spn l c d)
theorem spnL_len (l : List Int) (c d : Int) : (spnL l c d).length = l.length := by simp [spnL]
theorem spnL_get {l : List Int} {c d : Int} {i : Nat} (hi : i < l.length) : (spnL l c d)[i]? = some (spn l c d i) := by
  unfold spnL
  rw [List.getElem?_map, List.getElem?_range hi]
  rfl
def fillQ (f : Nat → Cl) (n k : Nat) : List Cl := (List.range k).map f ++ List.replicate (n - k) (0, 0, 0, 0)
theorem fillQ_len (f : Nat → Cl) {n k : Nat} (h : k ≤ n) : (fillQ f n k).length = n := by simp [fillQ]; omega
theorem over_Q (pre r : List Cl) (a b : Cl) : over (encL4 (pre ++ a :: r)) (0 + pre.length * 4) [.int .i64 b.1, .int .i64 b.2.1, .int .i64 b.2.2.1, .int .i64 b.2.2.2] = encL4 (pre ++ b :: r) := by
  unfold over
  have e : encL4 (pre ++ a :: r) = encL4 pre ++ (encCl a ++ encL4 r) := by simp [encL4]
  rw [e, Nat.zero_add, List.take_left' (encL4_len pre)]
  have : (encL4 pre ++ (encCl a ++ encL4 r)).drop (pre.length * 4 + 4) = encL4 r := by
    rw [← List.append_assoc]
    exact List.drop_left' (by rw [List.length_append, encL4_len]; rfl)
  show encL4 pre ++ ([.int .i64 b.1, .int .i64 b.2.1, .int .i64 b.2.2.1, .int .i64 b.2.2.2] ++ (encL4 pre ++ (encCl a ++ encL4 r)).drop (pre.length * 4 + 4)) = _
  rw [this]
  simp [encL4, encCl]
theorem overO_fillQ (f : Nat → Cl) {n k : Nat} (h : k < n) : overO (encL4 (fillQ f n k)) (0 + k * 4) [.int .i64 (f k).1, .int .i64 (f k).2.1, .int .i64 (f k).2.2.1, .int .i64 (f k).2.2.2] = some (encL4 (fillQ f n (k + 1))) := by
  have hl : 0 + k * 4 + [PV.int .i64 (f k).1, .int .i64 (f k).2.1, .int .i64 (f k).2.2.1, .int .i64 (f k).2.2.2].length ≤ (encL4 (fillQ f n k)).length := by
    rw [encL4_len, fillQ_len f (by omega)]
    simp only [List.length_cons, List.length_nil]
    omega
  rw [overO_of hl]
  congr 1
  unfold fillQ
  rw [show n - k = (n - (k + 1)) + 1 by omega, List.replicate_succ]
  have := over_Q ((List.range k).map f) (List.replicate (n - (k + 1)) (0, 0, 0, 0)) (0, 0, 0, 0) (f k)
  rw [List.length_map, List.length_range] at this
  rw [this, List.range_succ, List.map_append, List.append_assoc]
  rfl
theorem rep_Q : ∀ (n : Nat), rep [PV.int .i64 0, PV.int .i64 0, PV.int .i64 0, PV.int .i64 0] n = encL4 (List.replicate n (0, 0, 0, 0))
  | 0 => rfl
  | n + 1 => by simp only [rep, rep_Q n, List.replicate_succ]; rfl
theorem spans_loop (l : List Int) (hl : l.length ≤ 1000) (c d : Int) : ∀ i, i ≤ l.length →
    Rcloud_UndoneIn_0 (Tcloud_UndoneIn_0b l.length (encG (shrL l d)) l.length (encG (shrL l c)) l.length l.length i (encL4 (fillQ (spn l c d) l.length i))) = exO (Xcloud_UndoneIn_0a (l.length, encL4 (spnL l c d))) := by
  refine up_ind _ ?_ ?_
  · refine Rcloud_UndoneIn_0b_of _ _ _ _ _ _ _ _ ?_
    unfold Bcloud_UndoneIn_0b
    rw [bif_neg (by omega)]
    have : fillQ (spn l c d) l.length l.length = spnL l c d := by simp [fillQ, spnL]
    rw [this]
    rfl
  · intro i hi ih
    have wk : w64 ((i : Int) + 1) = ((i + 1 : Nat) : Int) := by rw [w64_in (by omega)]; omega
    have hz := shrL_get (l := l) (c := d) hi
    have hy := shrL_get (l := l) (c := c) hi
    have ho := overO_fillQ (spn l c d) hi
    have hb1 : (decide (((0 : Int) ≤ (i : Int)) ∧ ((i : Int) < (l.length : Int)))) = true := decide_eq_true ⟨by omega, by omega⟩
    refine Rcloud_UndoneIn_0b_of _ _ _ _ _ _ _ _ ?_
    unfold Bcloud_UndoneIn_0b
    rw [bif_pos (by omega)]
    simp only [hb1, cond_true, Int.toNat_natCast, gG0 hz, gG1 hz, gG0 hy, gG1 hy, intC_int, bindO_val, wk]
    have ho : overO (encL4 (fillQ (spn l c d) l.length i)) (0 + i * 4) [.int .i64 (shr l d i).1, .int .i64 (shr l d i).2, .int .i64 (shr l c i).1, .int .i64 (shr l c i).2] = _ := ho
    simp only [ho, bindO_val]
    exact ih
theorem undoneIn_is {l : List Int} (h0 : profE l = 0) {c d : Int} (hc : 1 ≤ c ∧ c ≤ 1000000) (hd : 1 ≤ d ∧ d ≤ 1000000) (hcd : c ≤ d) (h : brkE l c = 0) :
    Fcloud_UndoneIn [.list l.length (encI l), .agg [.int .i64 c, .int .i64 d]] = some ((l.length, encL4 (spnL l c d)), 0) := by
  obtain ⟨b1, b2, hv⟩ := prof_ok h0
  have hk : brkE l d = 0 := by
    have := brk_more (d := d - c) b1 hv (by omega) h
    rw [show c + (d - c) = d by omega] at this
    exact this
  refine Fcloud_UndoneIn_of _ _ _ _ ?_
  unfold tcloud_UndoneIn
  have c63 := profileError_is l (by omega)
  have c65 := break_is b1 (by omega) hv (c := c) (by omega)
  have s1 := shares_is (by omega) hv (c := d) (by omega) hk
  have s2 := shares_is (by omega) hv (c := c) (by omega) h
  have hfe : first4 (profE l) (rangeE c 1 1000000) (rangeE d 1 1000000) 0 = 0 := by rw [h0, rangeE_in hc, rangeE_in hd]; rfl
  simp only [c63, constantError_is, bindO_val]
  rw [bif_neg (by omega)]
  simp only [errorIf_is, Bool.false_eq_true, if_false, firstError4_is, bindO_val, hfe, bne_self_eq_false, cond_false, c65, h, s1, s2]
  have hR : Rcloud_UndoneIn_0 (Tcloud_UndoneIn_0a l.length (encG (shrL l d)) l.length (encG (shrL l c)) l.length l.length c d (rep [PV.int .i64 0, PV.int .i64 0, PV.int .i64 0, PV.int .i64 0] l.length)) = exO (Xcloud_UndoneIn_0a (l.length, encL4 (spnL l c d))) := by
    refine Rcloud_UndoneIn_0a_of _ _ _ _ _ _ _ _ _ ?_
    unfold Bcloud_UndoneIn_0a
    have hz := shrL_get (l := l) (c := d) (i := 0) (by omega)
    have hy := shrL_get (l := l) (c := c) (i := 0) (by omega)
    have g0 : (encG (shrL l d))[0]? = some (.int .i64 (shr l d 0).1) := gG0 hz
    have g1 : (encG (shrL l d))[1]? = some (.int .i64 (shr l d 0).2) := gG1 hz
    have k0 : (encG (shrL l c))[0]? = some (.int .i64 (shr l c 0).1) := gG0 hy
    have k1 : (encG (shrL l c))[1]? = some (.int .i64 (shr l c 0).2) := gG1 hy
    have hpos : (decide (((0 : Int) ≤ (0 : Int)) ∧ ((0 : Int) < (l.length : Int)))) = true := decide_eq_true ⟨by omega, by omega⟩
    have ho := overO_fillQ (spn l c d) (n := l.length) (k := 0) (by omega)
    have hz0 : fillQ (spn l c d) l.length 0 = List.replicate l.length (0, 0, 0, 0) := by simp [fillQ]
    rw [hz0, ← rep_Q] at ho
    have ho : overO (rep [PV.int .i64 0, PV.int .i64 0, PV.int .i64 0, PV.int .i64 0] l.length) 0 [.int .i64 (shr l d 0).1, .int .i64 (shr l d 0).2, .int .i64 (shr l c 0).1, .int .i64 (shr l c 0).2] = _ := ho
    rw [bif_pos (by omega)]
    simp only [hpos, cond_true, g0, g1, k0, k1, intC_int, bindO_val, ho]
    exact spans_loop l (by omega) c d 1 b1
  have hL := Lcloud_UndoneIn_0a_of hR
  rw [bif_pos (by first | (unfold big; omega) | exact ⟨trivial, by omega, by unfold big; omega⟩)]
  simp only [Int.toNat_natCast, hL, bindO_val]
  rw [bif_pos (by rw [encL4_len, spnL_len]; omega)]
  rw [List.drop_zero, List.take_of_length_le (by rw [encL4_len, spnL_len]; omega)]

/-! How fractions compare -/
def cmpF (a b : ZZ) : Int := if a.1 * b.2 < b.1 * a.2 then -1 else if a.1 * b.2 > b.1 * a.2 then 1 else 0
theorem mul_bd {a b : Int} (ha : 0 ≤ a ∧ a ≤ 1000000) (hb : 0 ≤ b ∧ b ≤ 1000000) : 0 ≤ a * b ∧ a * b ≤ 1000000000000 := by
  have h1 := Int.mul_nonneg ha.1 hb.1
  have h2 : a * b ≤ 1000000 * 1000000 := Int.mul_le_mul ha.2 hb.2 hb.1 (by omega)
  omega
theorem cmp_is {a b : ZZ} (ha : goodF a) (hb : goodF b) : Fb_Cmp [.agg [.int .i64 a.1, .int .i64 a.2], .agg [.int .i64 b.1, .int .i64 b.2]] = some (cmpF a b) := by
  obtain ⟨a1, a2, a3, a4, _⟩ := ha
  obtain ⟨b1, b2, b3, b4, _⟩ := hb
  refine Fb_Cmp_of _ _ _ _ ?_
  unfold tb_Cmp cmpF
  have m1 := mul_bd (a := a.1) (b := b.2) (by omega) (by omega)
  have m2 := mul_bd (a := b.1) (b := a.2) (by omega) (by omega)
  rw [w64_in (n := a.1 * b.2) (by omega), w64_in (n := b.1 * a.2) (by omega)]
  simp only [bif_dec]
  by_cases h1 : a.1 * b.2 < b.1 * a.2
  · rw [if_pos h1, if_pos h1]
  · rw [if_neg h1, if_neg h1]
    by_cases h2 : a.1 * b.2 > b.1 * a.2
    · rw [if_pos h2, if_pos h2]
    · rw [if_neg h2, if_neg h2]
/-- A greater constant has no greater shares. -/
theorem shr_less {l : List Int} (hl : l.length ≤ 1000) (hv : okP l) {c d : Int} (hc : 1 ≤ c ∧ c ≤ 1000000) (hd : 1 ≤ d ∧ d ≤ 1000000) (hcd : c ≤ d) (h : brkE l c = 0) (hk : brkE l d = 0) {i : Nat} (hi : i < l.length) : (shr l d i).1 * (shr l c i).2 ≤ (shr l c i).1 * (shr l d i).2 := by
  obtain ⟨x, hx, _⟩ := get_drop hi
  obtain ⟨g, a1, a2, a3, a4, _, a6, _, _⟩ := shr_facts hl hv hc h hx
  obtain ⟨k, b1, b2, b3, b4, _, b6, _, _⟩ := shr_facts hl hv hd hk hx
  have hr : restL l d i = restL l c i + (d - c) := by
    have := restL_more l c (d - c) i
    rw [show c + (d - c) = d by omega] at this
    exact this
  have hxv := hv x (List.mem_of_getElem? hx)
  generalize (shr l c i).1 = p at *
  generalize (shr l c i).2 = q at *
  generalize (shr l d i).1 = p' at *
  generalize (shr l d i).2 = q' at *
  have key : x * (q * g) ≤ x * (q' * k) := Int.mul_le_mul_of_nonneg_left (by omega) hxv.1
  have e1 : p' * q * (g * k) = x * (q * g) := by rw [← b2]; grind
  have e2 : p * q' * (g * k) = x * (q' * k) := by rw [← a2]; grind
  have hgk := Int.mul_pos a1 b1
  by_cases h0 : p' * q ≤ p * q'
  · exact h0
  · have := Int.mul_lt_mul_of_pos_right (show p * q' < p' * q by omega) hgk
    omega
theorem cmpF_le {a b : ZZ} (h : a.1 * b.2 ≤ b.1 * a.2) : ¬ cmpF a b > 0 := by
  unfold cmpF
  split
  · omega
  · rw [if_neg (by omega)]
    omega
theorem copyF_is (l : List ZZ) (hl : l.length ≤ 1000000) : Fb_CopyFracs [.list l.length (encG l)] = some (l.length, encG l) := by
  refine Fb_CopyFracs_of _ _ ?_
  unfold tb_CopyFracs
  by_cases h : l.length = 0
  · rw [bif_pos h]
    have := List.eq_nil_of_length_eq_zero h
    subst this
    rfl
  · rw [bif_neg h, bif_pos (encG_len l), bif_pos ⟨rfl, by unfold big; omega⟩, bif_pos rfl]
    simp
end Gv

/- CloudUndone: whatever the numbers and the constants, the law answers true. -/
namespace Gv
open Go
set_option maxRecDepth 100000

theorem refProfErr_is (l : List Int) (hl : l.length < 4294967296) : Fr8_ProfileErr [.list l.length (encI l)] = some (profE l) := by
  refine Fr8_ProfileErr_of _ _ ?_
  unfold tr8_ProfileErr
  simp only [refProf_is l hl, bindO_val]
  rfl

/-- One fraction of a gate lies in its span. -/
theorem one_is (l : List Int) (c m : Int) (hl : l.length ≤ 1000) (hv : okP l) (hc : 1 ≤ c ∧ c ≤ 1000000) (hm : 0 ≤ m) (hd : c + 2 * m ≤ 1000000) (h1 : 1 ≤ l.length) (h : brkE l c = 0) {i : Nat} (hi : i < l.length) {k : Nat} (hk : k < 4) :
    RcU_1000038 (TcU_1000038a l.length (encI l) c l.length (encG (shrL l c)) l.length (encG (shrL l (c + m))) l.length (encL4 (spnL l c (c + 2 * m))) i k) = exO (XcU_1000038b (l.length, encI l, c, l.length, encG (shrL l c), l.length, encG (shrL l (c + m)), l.length, encL4 (spnL l c (c + 2 * m)), i, k)) := by
  have hm1 := brk_more (d := m) h1 hv hm h
  have hm2 := brk_more (d := 2 * m) h1 hv (by omega) h
  have g0 := shr_good hl hv hc h hi
  have g1 := shr_good hl hv (c := c + m) (by omega) hm1 hi
  have g2 := shr_good hl hv (c := c + 2 * m) (by omega) hm2 hi
  have o01 := shr_less hl hv hc (d := c + m) (by omega) (by omega) h hm1 hi
  have o12 := shr_less hl hv (c := c + m) (d := c + 2 * m) (by omega) (by omega) (by omega) hm1 hm2 hi
  have o02 := shr_less hl hv hc (d := c + 2 * m) (by omega) (by omega) h hm2 hi
  have z0 := shrL_get (l := l) (c := c) hi
  have z1 := shrL_get (l := l) (c := c + m) hi
  have z2 := spnL_get (l := l) (c := c) (d := c + 2 * m) hi
  have a0 := getC0 z2
  have a1 := getC1 z2
  have a2 := getC2 z2
  have a3 := getC3 z2
  have a0 : (encL4 (spnL l c (c + 2 * m)))[i * 4]? = some (.int .i64 (shr l (c + 2 * m) i).1) := a0
  have a1 : (encL4 (spnL l c (c + 2 * m)))[i * 4 + 1]? = some (.int .i64 (shr l (c + 2 * m) i).2) := a1
  have a2 : (encL4 (spnL l c (c + 2 * m)))[i * 4 + 2]? = some (.int .i64 (shr l c i).1) := a2
  have a3 : (encL4 (spnL l c (c + 2 * m)))[i * 4 + 3]? = some (.int .i64 (shr l c i).2) := a3
  have hb1 : (decide (((0 : Int) ≤ (i : Int)) ∧ ((i : Int) < (l.length : Int)))) = true := decide_eq_true ⟨by omega, by omega⟩
  have hb2 : (decide (((0 : Int) ≤ (k : Int)) ∧ ((k : Int) < 4))) = true := decide_eq_true ⟨by omega, by omega⟩
  refine RcU_1000038a_of _ _ _ _ _ _ _ _ _ _ _ ?_
  unfold BcU_1000038a
  simp only [hb1, hb2, cond_true, Int.toNat_natCast, Nat.add_zero, Nat.add_assoc, Nat.reduceAdd, gG0 z0, gG1 z0, gG0 z1, gG1 z1, a0, a1, a2, a3, intC_int, bindO_val]
  have fin : ∀ z : ZZ, goodF z → (shr l (c + 2 * m) i).1 * z.2 ≤ z.1 * (shr l (c + 2 * m) i).2 → z.1 * (shr l c i).2 ≤ (shr l c i).1 * z.2 →
      Fr8_PartErr [.agg [.int .i64 z.1, .int .i64 z.2]] = some 0 ∧
      Fb_Cmp [.agg [.int .i64 (shr l (c + 2 * m) i).1, .int .i64 (shr l (c + 2 * m) i).2], .agg [.int .i64 z.1, .int .i64 z.2]] = some (cmpF (shr l (c + 2 * m) i) z) ∧
      Fb_Cmp [.agg [.int .i64 z.1, .int .i64 z.2], .agg [.int .i64 (shr l c i).1, .int .i64 (shr l c i).2]] = some (cmpF z (shr l c i)) ∧
      ¬ cmpF (shr l (c + 2 * m) i) z > 0 ∧ ¬ cmpF z (shr l c i) > 0 := fun z hz hx hy =>
    ⟨refPart_is hz, cmp_is g2 hz, cmp_is hz g0, cmpF_le hx, cmpF_le hy⟩
  match k, hk with
  | 0, _ =>
    obtain ⟨b1, b2, b3, b4, b5⟩ := fin (shr l c i) g0 o02 (Int.le_refl _)
    show (bindO (intC IntKind.i64 (some (.int .i64 (shr l c i).1))) fun x8 => bindO (intC IntKind.i64 (some (.int .i64 (shr l c i).2))) fun x9 => _) = _
    simp only [intC_int, bindO_val, b1, b2, b3, bne_self_eq_false, cond_false]
    rw [bif_neg b4, bif_neg b5]
    rfl
  | 1, _ =>
    obtain ⟨b1, b2, b3, b4, b5⟩ := fin (shr l (c + m) i) g1 o12 o01
    show (bindO (intC IntKind.i64 (some (.int .i64 (shr l (c + m) i).1))) fun x8 => bindO (intC IntKind.i64 (some (.int .i64 (shr l (c + m) i).2))) fun x9 => _) = _
    simp only [intC_int, bindO_val, b1, b2, b3, bne_self_eq_false, cond_false]
    rw [bif_neg b4, bif_neg b5]
    rfl
  | 2, _ =>
    obtain ⟨b1, b2, b3, b4, b5⟩ := fin (shr l (c + 2 * m) i) g2 (Int.le_refl _) o02
    show (bindO (intC IntKind.i64 (some (.int .i64 (shr l (c + 2 * m) i).1))) fun x8 => bindO (intC IntKind.i64 (some (.int .i64 (shr l (c + 2 * m) i).2))) fun x9 => _) = _
    simp only [intC_int, bindO_val, b1, b2, b3, bne_self_eq_false, cond_false]
    rw [bif_neg b4, bif_neg b5]
    rfl
  | 3, _ =>
    obtain ⟨b1, b2, b3, b4, b5⟩ := fin (shr l c i) g0 o02 (Int.le_refl _)
    show (bindO (intC IntKind.i64 (some (.int .i64 (shr l c i).1))) fun x8 => bindO (intC IntKind.i64 (some (.int .i64 (shr l c i).2))) fun x9 => _) = _
    simp only [intC_int, bindO_val, b1, b2, b3, bne_self_eq_false, cond_false]
    rw [bif_neg b4, bif_neg b5]
    rfl
  | k + 4, h => omega

theorem four_loop (l : List Int) (c m : Int) (hl : l.length ≤ 1000) (hv : okP l) (hc : 1 ≤ c ∧ c ≤ 1000000) (hm : 0 ≤ m) (hd : c + 2 * m ≤ 1000000) (h1 : 1 ≤ l.length) (h : brkE l c = 0) {i : Nat} (hi : i < l.length) : ∀ k : Nat, k ≤ 4 →
    RcU_2 (TcU_2a l.length (encI l) c l.length (encG (shrL l c)) l.length (encG (shrL l (c + m))) l.length (encL4 (spnL l c (c + 2 * m))) i k) = exO (XcU_2b (l.length, encI l, c, l.length, encG (shrL l c), l.length, encG (shrL l (c + m)), l.length, encL4 (spnL l c (c + 2 * m)), i)) := by
  refine up_ind _ ?_ ?_
  · refine RcU_2a_of _ _ _ _ _ _ _ _ _ _ _ ?_
    unfold BcU_2a
    rw [bif_neg (by omega)]
    rfl
  · intro k hk ih
    have wk : w64 ((k : Int) + 1) = ((k + 1 : Nat) : Int) := by rw [w64_in (by omega)]; omega
    have hL := LcU_1000038b_of (one_is l c m hl hv hc hm hd h1 h hi hk)
    refine RcU_2a_of _ _ _ _ _ _ _ _ _ _ _ ?_
    unfold BcU_2a
    rw [bif_pos (by omega)]
    simp only [hL, bindO_val, Sum.elim_inr, wk]
    exact ih
theorem gates_loop (l : List Int) (c m : Int) (hl : l.length ≤ 1000) (hv : okP l) (hc : 1 ≤ c ∧ c ≤ 1000000) (hm : 0 ≤ m) (hd : c + 2 * m ≤ 1000000) (h1 : 1 ≤ l.length) (h : brkE l c = 0) : ∀ i, i ≤ l.length →
    RcU_0 (TcU_0a l.length (encI l) c l.length (encG (shrL l c)) l.length (encG (shrL l (c + m))) l.length (encL4 (spnL l c (c + 2 * m))) i) = exO (XcU_0a (l.length, encI l, c, l.length, encG (shrL l c))) := by
  refine up_ind _ ?_ ?_
  · refine RcU_0a_of _ _ _ _ _ _ _ _ _ _ ?_
    unfold BcU_0a
    rw [bif_neg (by omega)]
    rfl
  · intro i hi ih
    have wk : w64 ((i : Int) + 1) = ((i + 1 : Nat) : Int) := by rw [w64_in (by omega)]; omega
    have hL := LcU_2b_of (four_loop l c m hl hv hc hm hd h1 h hi 0 (by omega))
    have hL : LcU_2 (TcU_2a l.length (encI l) c l.length (encG (shrL l c)) l.length (encG (shrL l (c + m))) l.length (encL4 (spnL l c (c + 2 * m))) i 0) = _ := hL
    refine RcU_0a_of _ _ _ _ _ _ _ _ _ _ ?_
    unfold BcU_0a
    rw [bif_pos (by omega)]
    simp only [hL, bindO_val, Sum.elim_inr, wk]
    exact ih
theorem back_loop (l : List Int) (hl : l.length ≤ 1000) : ∀ i, i ≤ l.length →
    RcU_4 (TcU_4a l.length (encI l) l.length (encG (whlL l)) i) = exO (XcU_4b ()) := by
  refine up_ind _ ?_ ?_
  · refine RcU_4a_of _ _ _ _ _ ?_
    unfold BcU_4a
    rw [bif_neg (by omega)]
    rfl
  · intro i hi ih
    obtain ⟨x, hx, hd⟩ := get_drop hi
    have wk : w64 ((i : Int) + 1) = ((i + 1 : Nat) : Int) := by rw [w64_in (by omega)]; omega
    have hz := whlL_get hx
    have hb1 : (decide (((0 : Int) ≤ (i : Int)) ∧ ((i : Int) < (l.length : Int)))) = true := decide_eq_true ⟨by omega, by omega⟩
    have hw : Fb_Whole [.int .i64 x] = some (x, 1) := Fb_Whole_of _ rfl
    refine RcU_4a_of _ _ _ _ _ ?_
    unfold BcU_4a
    rw [bif_pos (by omega)]
    simp only [hb1, cond_true, Int.toNat_natCast, Nat.mul_one, gG0 hz, gG1 hz, encI_get, hx, Option.map_some, intC_int, bindO_val, hw, beq_self_eq_true, Bool.and_true, Bool.not_true, cond_false, wk]
    exact ih

theorem undoneLaw (l : List Int) (c m : Int) : FcU [.list l.length (encI l), .int .i64 c, .int .i64 m] = some true := by
  refine FcU_of _ _ _ _ ?_
  unfold tcU
  simp only [awake_is, bindO_val, cond_true]
  by_cases hg : l.length ≤ 26 ∧ profE l = 0 ∧ rangeE c 1 1000000 = 0 ∧ brkE l c = 0 ∧ (0 ≤ m ∧ m ≤ 1000) ∧ c + 2 * m ≤ 1000000
  · obtain ⟨hl, h0, hce, h, hm, hd⟩ := hg
    obtain ⟨b1, b2, hv⟩ := prof_ok h0
    have hc := rangeE_ok hce
    have w2 : w64 (2 * m) = 2 * m := w64_in (by omega)
    have w3 : w64 (c + 2 * m) = c + 2 * m := w64_in (by omega)
    have w1 : w64 (c + m) = c + m := w64_in (by omega)
    have c26 := refProfErr_is l (by omega)
    have c18 := refBreak_is b1 (by omega) hv (c := c) (by omega)
    have h79 : LcU_1000079 (TcU_1000079a l.length (encI l) c m) = some (.inr (l.length, encI l, c, m)) := by
      refine LcU_1000079b_of (RcU_1000079a_of _ _ _ _ ?_)
      unfold BcU_1000079a
      simp only [few_is, bindO_val]
      rw [bif_pos hl]
      simp only [c26, h0, refConstant_is, hce, c18, h, bindO_val, bne_self_eq_false, cond_false, within_is, w2, w3]
      rw [bif_pos hm, bif_neg (by omega)]
      rfl
    have hm1 := brk_more (d := m) b1 hv hm.1 h
    have hund : ∀ d : Int, 1 ≤ d ∧ d ≤ 1000000 → brkE l d = 0 → undR l d = ((l.length, encG (shrL l d)), 0) := fun d hd hk => by
      have he : undE l d = 0 := by
        unfold undE
        have hbo : both (profE l) (rangeE d 1 1000000) = 0 := by rw [h0, rangeE_in hd]; rfl
        rw [if_neg (by simp [hbo]), hk]
      unfold undR
      rw [if_neg (by simp [he])]
    have c11 := copyI_is l (by omega)
    have c12 := undone_is l (by omega) c
    rw [hund c hc h] at c12
    have c12b := undone_is l (by omega) (c + m)
    rw [hund (c + m) (by omega) hm1] at c12b
    have c23 := undoneIn_is h0 hc (d := c + 2 * m) (by omega) (by omega) h
    have h66 : LcU_1000066 (TcU_1000066a l.length (encI l) c l.length (encG (shrL l c)) 0 l.length (encG (shrL l (c + m))) 0 l.length (encL4 (spnL l c (c + 2 * m))) 0) = some (.inr (l.length, encI l, c, l.length, encG (shrL l c), l.length, encG (shrL l (c + m)), l.length, encL4 (spnL l c (c + 2 * m)))) := by
      refine LcU_1000066b_of (RcU_1000066a_of _ _ _ _ _ _ _ _ _ _ _ _ ?_)
      unfold BcU_1000066a
      simp only [bne_self_eq_false, cond_false]
      rfl
    have hL0 := LcU_0a_of (gates_loop l c m (by omega) hv hc hm.1 hd b1 h 0 (by omega))
    have hL0 : LcU_0 (TcU_0a l.length (encI l) c l.length (encG (shrL l c)) l.length (encG (shrL l (c + m))) l.length (encL4 (spnL l c (c + 2 * m))) 0) = _ := hL0
    have c25 := copyF_is (shrL l c) (by rw [shrL_len]; omega)
    rw [shrL_len] at c25
    have c24 := attenuated_is h0 hc h
    have hL26 : LcU_1000026 (TcU_1000026a l.length (encI l) l.length (encG (whlL l)) 0) = some (.inr (l.length, encI l, l.length, encG (whlL l))) := by
      refine LcU_1000026b_of (RcU_1000026a_of _ _ _ _ _ ?_)
      unfold BcU_1000026a
      simp only [bne_self_eq_false, cond_false]
      rfl
    have hL4 := LcU_4b_of (y := ()) (back_loop l (by omega) 0 (by omega))
    have hL4 : LcU_4 (TcU_4a l.length (encI l) l.length (encG (whlL l)) 0) = _ := hL4
    simp only [h79, bindO_val, Sum.elim_inr, c11, c12, w1, w2, w3, c12b, c23, h66, hL0, Sum.elim_inl, c25, c24, hL26, hL4]
  · have h79 : LcU_1000079 (TcU_1000079a l.length (encI l) c m) = some (.inl ()) := by
      refine LcU_1000079a_of (RcU_1000079a_of _ _ _ _ ?_)
      unfold BcU_1000079a
      simp only [few_is, bindO_val]
      by_cases hl : l.length ≤ 26
      · rw [bif_pos hl]
        have c26 := refProfErr_is l (by omega)
        simp only [c26, bindO_val, bif_ne]
        by_cases h0 : profE l = 0
        · rw [if_pos h0]
          simp only [refConstant_is, bindO_val, bif_ne]
          obtain ⟨b1, b2, hv⟩ := prof_ok h0
          by_cases hce : rangeE c 1 1000000 = 0
          · rw [if_pos hce]
            have hc := rangeE_ok hce
            have c18 := refBreak_is b1 (by omega) hv (c := c) (by omega)
            simp only [c18, bindO_val, bif_ne]
            by_cases h : brkE l c = 0
            · rw [if_pos h]
              simp only [within_is, bindO_val]
              by_cases hm : 0 ≤ m ∧ m ≤ 1000
              · rw [bif_pos hm]
                have w2 : w64 (2 * m) = 2 * m := w64_in (by omega)
                have w3 : w64 (c + 2 * m) = c + 2 * m := w64_in (by omega)
                rw [w2, w3, bif_pos (by
                  by_cases hd : c + 2 * m ≤ 1000000
                  · exact absurd ⟨hl, h0, hce, h, hm, hd⟩ hg
                  · omega)]
                rfl
              · rw [bif_neg hm]
                rfl
            · rw [if_neg h]
              rfl
          · rw [if_neg hce]
            rfl
        · rw [if_neg h0]
          rfl
      · rw [bif_neg hl]
        rfl
    rw [h79]
    rfl
end Gv
