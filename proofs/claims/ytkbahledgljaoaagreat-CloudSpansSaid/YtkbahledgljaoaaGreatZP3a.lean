import Derived.Test.YtkbahledgljaoaaGreatGvYk
import Derived.Test.YtkbahledgljaoaaGreatZC8
import Derived.Test.YtkbahledgljaoaaGreatWD1
import Derived.Test.YtkbahledgljaoaaGreatGvYi
import Derived.Test.YtkbahledgljaoaaGreatGvYs

/- Errors, copies: what they give. -/
namespace Gv
open Go
set_option maxRecDepth 100000
theorem errorIf_is (b : Bool) (x : Int) : Fcloud_errorIf [.bool b, .int .i64 x] = some (if b then x else 0) :=
  Fcloud_errorIf_of b x (by cases b <;> rfl)
theorem rangeError_is (x a b : Int) : Fcloud_rangeError [.int .i64 x, .int .i64 a, .int .i64 b] = some (rangeE x a b) :=
  Fcloud_rangeError_of x a b (by
    unfold tcloud_rangeError rangeE
    simp only [errorIf_is, bindO_val]
    by_cases h1 : x < a <;> by_cases h2 : b < x <;> simp [h1, h2])
theorem within_is (x a b : Int) : Fb_Within [.int .i64 x, .int .i64 a, .int .i64 b] = some (decide (a ≤ x ∧ x ≤ b)) :=
  Fb_Within_of x a b (by
    unfold tb_Within
    by_cases h1 : a ≤ x <;> by_cases h2 : x ≤ b <;> simp [h1, h2])
theorem firstError2_is (a b : Int) : Fcloud_firstError_2 [.list 2 [.int .i64 a, .int .i64 b]] = some (both a b) :=
  Fcloud_firstError_2_of a b (by
    unfold tcloud_firstError_2 both
    simp only [bif_ne]
    by_cases h1 : a = 0 <;> by_cases h2 : b = 0 <;> simp [h1, h2])
theorem firstError3_is (a b c : Int) : Fcloud_firstError_3 [.list 3 [.int .i64 a, .int .i64 b, .int .i64 c]] = some (first3 a b c) :=
  Fcloud_firstError_3_of a b c (by
    unfold tcloud_firstError_3 first3
    simp only [bif_ne]
    by_cases h1 : a = 0 <;> by_cases h2 : b = 0 <;> by_cases h3 : c = 0 <;> simp [h1, h2, h3])
theorem firstError4_is (a b c d : Int) : Fcloud_firstError_4 [.list 4 [.int .i64 a, .int .i64 b, .int .i64 c, .int .i64 d]] = some (first4 a b c d) :=
  Fcloud_firstError_4_of a b c d (by
    unfold tcloud_firstError_4 first4
    simp only [bif_ne]
    by_cases h1 : a = 0 <;> by_cases h2 : b = 0 <;> by_cases h3 : c = 0 <;> by_cases h4 : d = 0 <;> simp [h1, h2, h3, h4])
theorem both_is (a b : Int) : Fw_both [.int .i64 a, .int .i64 b] = some (both a b) := by
  refine Fw_both_of _ _ ?_
  unfold tw_both both
  rw [bif_ne]
  by_cases h : a = 0
  · rw [if_pos h, if_neg (by simp [h])]
  · rw [if_neg h, if_pos h]
theorem few_is (l : List Int) : Fw_few [.list l.length (encI l)] = some (decide (l.length ≤ 26)) := by
  refine Fw_few_of _ _ ?_
  unfold tw_few
  by_cases h : l.length ≤ 26
  · rw [bif_pos (by omega), decide_eq_true h]
  · rw [bif_neg (by omega), decide_eq_false h]
theorem copyI_is (l : List Int) (hl : l.length ≤ 1000000) : Fb_CopyInts [.list l.length (encI l)] = some (l.length, encI l) := by
  refine Fb_CopyInts_of _ _ ?_
  unfold tb_CopyInts
  by_cases h : l.length = 0
  · rw [bif_pos h]
    have := List.eq_nil_of_length_eq_zero h
    subst this
    rfl
  · rw [bif_neg h, bif_pos (by simp), bif_pos ⟨rfl, by unfold big; omega⟩, bif_pos rfl]
    simp
end Gv

/- Classes: what the functions give. -/
namespace Gv
open Go
set_option maxRecDepth 100000
abbrev Cl : Type := Int × Int × Int × Int
def encCl (z : Cl) : List PV := [.int .i64 z.1, .int .i64 z.2.1, .int .i64 z.2.2.1, .int .i64 z.2.2.2]
def encL4 (l : List Cl) : List PV := l.flatMap encCl
theorem encL4_len : ∀ l : List Cl, (encL4 l).length = l.length * 4
  | [] => rfl
  | z :: l => by
    show (encCl z ++ encL4 l).length = _
    rw [List.length_append, encL4_len l, List.length_cons]
    show 4 + _ = _
    omega
theorem encL4_get : ∀ (l : List Cl) (j k : Nat), k < 4 → (encL4 l)[j * 4 + k]? = l[j]?.bind fun z => (encCl z)[k]?
  | [], j, k, _ => by simp [encL4]
  | x :: l, 0, k, hk => by
    show (encCl x ++ encL4 l)[0 * 4 + k]? = _
    rw [Nat.zero_mul, Nat.zero_add, List.getElem?_append_left (by simpa [encCl] using hk)]
    rfl
  | x :: l, j + 1, k, hk => by
    show (encCl x ++ encL4 l)[(j + 1) * 4 + k]? = _
    rw [List.getElem?_append_right (by simp [encCl]; omega), List.getElem?_cons_succ, ← encL4_get l j k hk]
    congr 1
    simp [encCl]
    omega
theorem getC0 {l : List Cl} {i : Nat} {z : Cl} (h : l[i]? = some z) : (encL4 l)[i * 4]? = some (.int .i64 z.1) := by
  have := encL4_get l i 0 (by omega)
  rw [h] at this
  exact this
theorem getC1 {l : List Cl} {i : Nat} {z : Cl} (h : l[i]? = some z) : (encL4 l)[i * 4 + 1]? = some (.int .i64 z.2.1) := by
  have := encL4_get l i 1 (by omega)
  rw [h] at this
  exact this
theorem getC2 {l : List Cl} {i : Nat} {z : Cl} (h : l[i]? = some z) : (encL4 l)[i * 4 + 2]? = some (.int .i64 z.2.2.1) := by
  have := encL4_get l i 2 (by omega)
  rw [h] at this
  exact this
theorem getC3 {l : List Cl} {i : Nat} {z : Cl} (h : l[i]? = some z) : (encL4 l)[i * 4 + 3]? = some (.int .i64 z.2.2.2) := by
  have := encL4_get l i 3 (by omega)
  rw [h] at this
  exact this
end Gv

/- Profiles: errors, rests and shares: what the functions give. -/
namespace Gv
open Go
set_option maxRecDepth 100000
theorem number_is (n : Nat) (cs : List PV) (x lo hi : Int) : Fcloud_within_1 [.list n cs, .int .i64 x, .imm [.int .i64 lo] 0, .imm [.int .i64 hi] 0] = some (rangeE x lo hi) :=
  Fcloud_within_1_of n cs x lo hi (by
    unfold tcloud_within_1
    simp only [rangeError_is, bindO_val])
theorem itemI_loop (lo hi : Int) (l : List Int) (hl : l.length < 4294967296) : ∀ i, i ≤ l.length →
    Rcloud_itemError_within_0 (Tcloud_itemError_within_0a l.length (encI l) lo hi l.length (encI l) l.length i) = exO (XLcloud_itemError_within_0.fn (sumE (findE (fun x => rangeE x lo hi) (l.drop i) i))) := by
  refine up_ind _ ?_ ?_
  · refine Rcloud_itemError_within_0a_of _ _ _ _ _ _ _ _ ?_
    unfold Bcloud_itemError_within_0a
    rw [bif_neg (by omega), List.drop_length]
    rfl
  · intro i hi' ih
    refine Rcloud_itemError_within_0a_of _ _ _ _ _ _ _ _ ?_
    unfold Bcloud_itemError_within_0a
    obtain ⟨x, hx, hd⟩ := get_drop hi'
    rw [bif_pos (by omega), bif_pos (by omega)]
    simp only [Int.toNat_natCast, Nat.mul_one, encI_get, hx, Option.map_some, intC_int, bindO_val, number_is]
    rw [bif_pos (by omega), bif_pos (by right; simp [encI]; omega)]
    rw [hd, w64_in (by omega), bif_ne]
    by_cases he : rangeE x lo hi = 0
    · rw [if_pos he]
      simp only [findE, he, ne_eq, not_true_eq_false, if_false]
      exact ih
    · rw [if_neg he]
      simp only [findE, ne_eq, he, not_false_eq_true, if_true]
      rfl
theorem itemI_is (lo hi : Int) (l : List Int) (hl : l.length < 4294967296) :
    Fcloud_itemError_within [.list l.length (encI l), .fn 111 [.imm [.int .i64 lo] 0, .imm [.int .i64 hi] 0]] = some ((findE (fun x => rangeE x lo hi) l 0).getD (0, 0)) := by
  refine Fcloud_itemError_within_of _ _ _ _ ?_
  unfold tcloud_itemError_within
  have := lpO_of Icloud_itemError_within_0 XIcloud_itemError_within_0 (itemI_loop lo hi l hl 0 (by omega))
  have this : Lcloud_itemError_within_0 (Tcloud_itemError_within_0a l.length (encI l) lo hi l.length (encI l) l.length 0) = _ := this
  rw [this]
  simp only [bindO_val, List.drop_zero]
  cases findE (fun x => rangeE x lo hi) l 0 <;> rfl
theorem filled_is (m lo hi : Int) (l : List Int) (hl : l.length < 4294967296) :
    Fcloud_filledError_within [.list l.length (encI l), .int .i64 m, .fn 111 [.imm [.int .i64 lo] 0, .imm [.int .i64 hi] 0]] = some (listIE m lo hi l) := by
  refine Fcloud_filledError_within_of _ _ _ _ _ ?_
  unfold tcloud_filledError_within
  have h : Fcloud_listError_within [.list l.length (encI l), .int .i64 m, .fn 111 [.imm [.int .i64 lo] 0, .imm [.int .i64 hi] 0]] = some (if m < l.length then (0, 8) else (findE (fun x => rangeE x lo hi) l 0).getD (0, 0)) := by
    refine Fcloud_listError_within_of _ _ _ _ _ ?_
    unfold tcloud_listError_within
    simp only [itemI_is lo hi l hl, bindO_val]
    by_cases h2 : m < l.length <;> simp [h2]
  simp only [h, bindO_val, bif_eq, listIE]
  by_cases h1 : l.length = 0
  · simp [h1]
  · simp [h1]
def okP (l : List Int) : Prop := ∀ x ∈ l, 0 ≤ x ∧ x ≤ 10000
def profE (l : List Int) : Int := (listIE 24 0 10000 l).2
theorem prof_ok {l : List Int} (h : profE l = 0) : 1 ≤ l.length ∧ l.length ≤ 24 ∧ okP l := by
  have := listIE_ok h
  exact ⟨this.1, by omega, this.2.2⟩
theorem checkProfile_is (l : List Int) (hl : l.length < 4294967296) : Fcloud_CheckProfile [.list l.length (encI l)] = some (listIE 24 0 10000 l) := by
  refine Fcloud_CheckProfile_of _ _ ?_
  unfold tcloud_CheckProfile
  have hf := filled_is 24 0 10000 l hl
  simp only [hf, bindO_val]
theorem profileError_is (l : List Int) (hl : l.length < 4294967296) : Fcloud_profileError [.list l.length (encI l)] = some (profE l) := by
  refine Fcloud_profileError_of _ _ ?_
  unfold tcloud_profileError
  simp only [checkProfile_is l hl, bindO_val]
  rfl
theorem constantError_is (c : Int) : Fcloud_constantError [.int .i64 c] = some (rangeE c 1 1000000) := by
  refine Fcloud_constantError_of _ ?_
  unfold tcloud_constantError
  simp only [rangeError_is, bindO_val]
theorem sum_bound : ∀ {l : List Int}, okP l → 0 ≤ l.sum ∧ l.sum ≤ 10000 * (l.length : Int)
  | [], _ => by simp
  | x :: l, h => by
    have hx := h x List.mem_cons_self
    have ih := sum_bound fun y hy => h y (List.mem_cons_of_mem _ hy)
    rw [List.sum_cons, List.length_cons, Int.natCast_add, Int.mul_add]
    simp only [Int.natCast_one, Int.mul_one]
    omega
theorem sum_loop (l : List Int) (hl : l.length ≤ 1000) (hv : okP l) : ∀ i, i ≤ l.length → ∀ a : Int, 0 ≤ a → a ≤ 10000 * (i : Int) →
    Rq_sum_0 (Tq_sum_0a a l.length (encI l) l.length i) = exO (Xq_sum_0a (a + (l.drop i).sum)) := by
  refine up_ind (P := fun i => ∀ a : Int, 0 ≤ a → a ≤ 10000 * (i : Int) → Rq_sum_0 (Tq_sum_0a a l.length (encI l) l.length i) = exO (Xq_sum_0a (a + (l.drop i).sum))) _ ?_ ?_
  · intro a _ _
    refine Rq_sum_0a_of _ _ _ _ _ ?_
    unfold Bq_sum_0a
    rw [bif_neg (by omega), List.drop_length]
    rw [show a + ([] : List Int).sum = a by simp]
    rfl
  · intro i hi ih a h0 h1
    obtain ⟨x, hx, hd⟩ := get_drop hi
    have hxv := hv x (List.mem_of_getElem? hx)
    refine Rq_sum_0a_of _ _ _ _ _ ?_
    unfold Bq_sum_0a
    have wk : w64 ((i : Int) + 1) = ((i + 1 : Nat) : Int) := by rw [w64_in (by omega)]; omega
    have wc : w64 (a + x) = a + x := w64_in (by omega)
    rw [bif_pos (by omega), bif_pos (by omega)]
    simp only [Int.toNat_natCast, Nat.mul_one, encI_get, hx, Option.map_some, intC_int, bindO_val, wk, wc]
    rw [hd, List.sum_cons, ← Int.add_assoc]
    exact ih (a + x) (by omega) (by omega)
theorem sum_is {l : List Int} (hl : l.length ≤ 1000) (hv : okP l) : Fq_sum [.list l.length (encI l)] = some l.sum := by
  refine Fq_sum_of _ _ ?_
  unfold tq_sum
  have hq := sum_loop l hl hv 0 (by omega) 0 (by omega) (by omega)
  rw [List.drop_zero, Int.zero_add] at hq
  have hL := Lq_sum_0a_of hq
  have hL : Lq_sum_0 (Tq_sum_0a 0 l.length (encI l) l.length 0) = _ := hL
  simp only [hL, bindO_val]
def restL (l : List Int) (c : Int) (i : Nat) : Int := c - (l.take i).sum
theorem okP_take {l : List Int} (h : okP l) (i : Nat) : okP (l.take i) := fun x hx => h x (List.mem_of_mem_take hx)
theorem restL_zero (l : List Int) (c : Int) : restL l c 0 = c := by simp [restL]
theorem restL_succ {l : List Int} (c : Int) {i : Nat} {x : Int} (h : l[i]? = some x) : restL l c (i + 1) = restL l c i - x := by
  unfold restL
  rw [List.take_add_one, h, List.sum_append]
  simp
  omega
theorem restL_le {l : List Int} (hv : okP l) (c : Int) : ∀ (d i : Nat), i + d ≤ l.length → restL l c (i + d) ≤ restL l c i
  | 0, i, _ => Int.le_refl _
  | d + 1, i, h => by
    obtain ⟨x, hx⟩ : ∃ x, l[i + d]? = some x := ⟨l[i + d]'(by omega), List.getElem?_eq_getElem _⟩
    have h1 := restL_succ c hx
    have h2 := restL_le hv c d i (by omega)
    have h3 := hv x (List.mem_of_getElem? hx)
    rw [show i + (d + 1) = i + d + 1 by omega, h1]
    omega
theorem restL_bd {l : List Int} (hl : l.length ≤ 1000) (hv : okP l) {c : Int} (hc : -100000000 ≤ c ∧ c ≤ 100000000) (i : Nat) : -200000000 ≤ restL l c i ∧ restL l c i ≤ 200000000 := by
  have h := sum_bound (okP_take hv i)
  have h2 : (l.take i).length ≤ l.length := by rw [List.length_take]; omega
  have h3 : (10000 : Int) * ((l.take i).length : Int) ≤ 10000 * 1000 := Int.mul_le_mul_of_nonneg_left (by omega) (by omega)
  unfold restL
  omega
theorem rest_is {l : List Int} (hl : l.length ≤ 1000) (hv : okP l) {c : Int} (hc : -100000000 ≤ c ∧ c ≤ 100000000) {i : Nat} (hi : i ≤ l.length) :
    Fq_restBefore [.list l.length (encI l), .int .i64 i, .int .i64 c] = some (restL l c i) := by
  refine Fq_restBefore_of _ _ _ _ ?_
  unfold tq_restBefore
  have hlen : (l.take i).length = i := by rw [List.length_take]; omega
  have hs := sum_is (l := l.take i) (by omega) (okP_take hv i)
  rw [hlen] at hs
  have he : (encI l).take i = encI (l.take i) := by simp [encI, List.map_take]
  have hb := restL_bd hl hv hc i
  have hw : w64 (c - (l.take i).sum) = restL l c i := w64_in (by unfold restL at hb; omega)
  rw [bif_pos ⟨by omega, by show (i : Int) ≤ (l.length : Int); omega⟩]
  simp only [Int.toNat_natCast, Nat.mul_one, Nat.sub_zero, List.drop_zero]
  rw [bif_pos (by right; rw [encI_len]; omega), he]
  simp only [hs, bindO_val, hw]
def brkE (l : List Int) (c : Int) : Int := if l.sum > c then 20 else if restL l c (l.length - 1) = 0 then 20 else 0
theorem break_is {l : List Int} (h1 : 1 ≤ l.length) (hl : l.length ≤ 1000) (hv : okP l) {c : Int} (hc : -100000000 ≤ c ∧ c ≤ 100000000) :
    Fq_breakError [.list l.length (encI l), .int .i64 c] = some (brkE l c) := by
  refine Fq_breakError_of _ _ _ ?_
  unfold tq_breakError brkE
  have hs := sum_is hl hv
  have wk : w64 ((l.length : Int) - 1) = ((l.length - 1 : Nat) : Int) := by rw [w64_in (by omega)]; omega
  have hr := rest_is hl hv hc (i := l.length - 1) (by omega)
  simp only [hs, bindO_val, wk, hr, errorIf_is, bif_dec, bif_eq]
  by_cases h : l.sum > c
  · rw [if_pos h, if_pos h]
    rfl
  · rw [if_neg h, if_neg h]
    by_cases h2 : restL l c (l.length - 1) = 0
    · rw [if_pos h2, if_pos h2]
      rfl
    · rw [if_neg h2, if_neg h2]
      rfl
theorem rest_pos {l : List Int} (hv : okP l) {c : Int} (h : brkE l c = 0) {i : Nat} (hi : i < l.length) : 0 < restL l c i := by
  unfold brkE at h
  by_cases h1 : l.sum > c
  · rw [if_pos h1] at h
    cases h
  · rw [if_neg h1] at h
    by_cases h2 : restL l c (l.length - 1) = 0
    · rw [if_pos h2] at h
      cases h
    · have a := restL_le hv c (l.length - 1 - i) i (by omega)
      rw [show i + (l.length - 1 - i) = l.length - 1 by omega] at a
      have b := restL_le hv c 1 (l.length - 1) (by omega)
      rw [show l.length - 1 + 1 = l.length by omega] at b
      have e : restL l c l.length = c - l.sum := by unfold restL; rw [List.take_length]
      omega
theorem divisor_loop {m : Int} (hm : m ≤ 4611686018427387904) : ∀ (n : Nat) (a b : Int), b.natAbs < n → Bd m a → Bd m b →
    ∃ c, Rcloud_divisorOf_0 (Tcloud_divisorOf_0a a b) = exO (Xcloud_divisorOf_0a c) ∧ c.natAbs = Int.gcd a b ∧ Bd m c
  | 0, a, b, h, _, _ => by omega
  | n + 1, a, b, h, ha, hb => by
    by_cases h0 : b = 0
    · subst h0
      refine ⟨a, Rcloud_divisorOf_0a_of _ _ ?_, by simp, ha⟩
      unfold Bcloud_divisorOf_0a
      rfl
    · have hlt := tmod_lt (a := a) h0
      obtain ⟨c, c1, c2, c3⟩ := divisor_loop hm n b (a.tmod b) (by omega) hb (tmod_bd ha)
      refine ⟨c, Rcloud_divisorOf_0a_of _ _ ?_, by rw [c2, gcd_step], c3⟩
      unfold Bcloud_divisorOf_0a
      rw [bif_ne, if_neg h0, bif_pos h0]
      exact c1
theorem max_neg64 {c : Int} (h : Bd 4611686018427387904 c) : (if w64 (0 - c) > c then w64 (0 - c) else c) = (c.natAbs : Int) := by
  unfold Bd at h
  rw [w64_in (by omega)]
  split <;> omega
theorem divisor_is {a b : Int} (ha : Bd 4611686018427387904 a) (hb : Bd 4611686018427387904 b) : Fcloud_divisorOf [.int .i64 a, .int .i64 b] = some (Int.gcd a b : Int) := by
  refine Fcloud_divisorOf_of _ _ ?_
  unfold tcloud_divisorOf
  obtain ⟨c, c1, c2, c3⟩ := divisor_loop (Int.le_refl _) (b.natAbs + 1) a b (by omega) ha hb
  have := Lcloud_divisorOf_0a_of c1
  rw [this, bindO_val, max_neg64 c3, c2]
theorem lowest_is {n d : Int} (hn : Bd 4611686018427387904 n) (hd : Bd 4611686018427387904 d) (hp : 0 < d) : Fcloud_lowest [.int .i64 n, .int .i64 d] = some (lowF n d) := by
  refine Fcloud_lowest_of _ _ ?_
  unfold tcloud_lowest
  have g := gcd_pos (n := n) hp
  simp only [divisor_is hn hd, bindO_val]
  rw [bif_pos (by omega), bif_pos (by omega), w64_bd (tdiv_bd _ hn), w64_bd (tdiv_bd _ hd)]
  rfl
theorem gcd_loop {m : Int} (hm : m ≤ 4611686018427387904) : ∀ (n : Nat) (a b : Int), b.natAbs < n → Bd m a → Bd m b →
    ∃ c, Rb_Gcd_0 (Tb_Gcd_0a a b) = exO (Xb_Gcd_0a c) ∧ c.natAbs = Int.gcd a b ∧ Bd m c
  | 0, a, b, h, _, _ => by omega
  | n + 1, a, b, h, ha, hb => by
    by_cases h0 : b = 0
    · subst h0
      refine ⟨a, Rb_Gcd_0a_of _ _ ?_, by simp, ha⟩
      unfold Bb_Gcd_0a
      rfl
    · have hlt := tmod_lt (a := a) h0
      obtain ⟨c, c1, c2, c3⟩ := gcd_loop hm n b (a.tmod b) (by omega) hb (tmod_bd ha)
      refine ⟨c, Rb_Gcd_0a_of _ _ ?_, by rw [c2, gcd_step], c3⟩
      unfold Bb_Gcd_0a
      rw [bif_ne, if_neg h0, bif_pos h0]
      exact c1
theorem size_is {c : Int} (h : Bd 4611686018427387904 c) : Fb_Size [.int .i64 c] = some (c.natAbs : Int) :=
  Fb_Size_of _ (by unfold tb_Size; rw [max_neg64 h])
theorem gcd_is {a b : Int} (ha : Bd 4611686018427387904 a) (hb : Bd 4611686018427387904 b) : Fb_Gcd [.int .i64 a, .int .i64 b] = some (Int.gcd a b : Int) := by
  refine Fb_Gcd_of _ _ ?_
  unfold tb_Gcd
  obtain ⟨c, c1, c2, c3⟩ := gcd_loop (Int.le_refl _) (b.natAbs + 1) a b (by omega) ha hb
  have := Lb_Gcd_0a_of c1
  simp only [this, bindO_val, size_is c3, c2]
theorem refLowest_is {n d : Int} (hn : Bd 4611686018427387904 n) (hd : Bd 4611686018427387904 d) (hp : 0 < d) : Fb_Lowest [.int .i64 n, .int .i64 d] = some (lowF n d) := by
  refine Fb_Lowest_of _ _ ?_
  unfold tb_Lowest
  have g := gcd_pos (n := n) hp
  simp only [gcd_is hn hd, bindO_val]
  rw [bif_neg (by omega), bif_pos (by omega), bif_pos (by omega), w64_bd (tdiv_bd _ hn), w64_bd (tdiv_bd _ hd)]
  rfl
end Gv

/- Shares, constants, and the reference's: what the functions give. -/
namespace Gv
open Go
set_option maxRecDepth 100000
def shr (l : List Int) (c : Int) (i : Nat) : ZZ := lowF (l.getD i 0) (restL l c i)
def fillG (f : Nat → ZZ) (n k : Nat) : List ZZ := (List.range k).map f ++ List.replicate (n - k) (0, 0)
theorem fillG_len (f : Nat → ZZ) {n k : Nat} (h : k ≤ n) : (fillG f n k).length = n := by simp [fillG]; omega
theorem over_G (pre r : List ZZ) (a b : ZZ) : over (encG (pre ++ a :: r)) (0 + pre.length * 2) [.int .i64 b.1, .int .i64 b.2] = encG (pre ++ b :: r) := by
  unfold over
  have e : encG (pre ++ a :: r) = encG pre ++ (enc2 a ++ encG r) := by simp [encG]
  rw [e, Nat.zero_add, List.take_left' (by simp)]
  have : (encG pre ++ (enc2 a ++ encG r)).drop (pre.length * 2 + 2) = encG r := by
    rw [← List.append_assoc]
    exact List.drop_left' (by simp [enc2])
  show encG pre ++ ([.int .i64 b.1, .int .i64 b.2] ++ (encG pre ++ (enc2 a ++ encG r)).drop (pre.length * 2 + 2)) = _
  rw [this]
  simp [encG, enc2]
theorem overO_fillG (f : Nat → ZZ) {n k : Nat} (h : k < n) : overO (encG (fillG f n k)) (0 + k * 2) [.int .i64 (f k).1, .int .i64 (f k).2] = some (encG (fillG f n (k + 1))) := by
  have hl : 0 + k * 2 + [PV.int .i64 (f k).1, PV.int .i64 (f k).2].length ≤ (encG (fillG f n k)).length := by
    rw [encG_len, fillG_len f (by omega)]
    simp only [List.length_cons, List.length_nil]
    omega
  rw [overO_of hl]
  congr 1
  unfold fillG
  rw [show n - k = (n - (k + 1)) + 1 by omega, List.replicate_succ]
  have := over_G ((List.range k).map f) (List.replicate (n - (k + 1)) (0, 0)) (0, 0) (f k)
  rw [List.length_map, List.length_range] at this
  rw [this, List.range_succ, List.map_append, List.append_assoc]
  rfl
theorem rep_G : ∀ (n : Nat), rep [PV.int .i64 0, PV.int .i64 0] n = encG (List.replicate n (0, 0))
  | 0 => rfl
  | n + 1 => by simp only [rep, rep_G n, List.replicate_succ]; rfl
def shrL (l : List Int) (c : Int) : List ZZ := (List.range l.length).map (shr l c)
theorem shrL_len (l : List Int) (c : Int) : (shrL l c).length = l.length := by simp [shrL]
theorem share_is {l : List Int} (hl : l.length ≤ 1000) (hv : okP l) {c : Int} (hc : -100000000 ≤ c ∧ c ≤ 100000000) (h : brkE l c = 0) {i : Nat} {x : Int} (hx : l[i]? = some x) :
    Fcloud_lowest [.int .i64 x, .int .i64 (restL l c i)] = some (shr l c i) ∧ Fb_Lowest [.int .i64 x, .int .i64 (restL l c i)] = some (shr l c i) := by
  have hi : i < l.length := (List.getElem?_eq_some_iff.1 hx).1
  have hp := rest_pos hv h hi
  have hb := restL_bd hl hv hc i
  have hxv := hv x (List.mem_of_getElem? hx)
  have e : shr l c i = lowF x (restL l c i) := by
    unfold shr
    rw [List.getD_eq_getElem?_getD, hx]
    rfl
  rw [e]
  exact ⟨lowest_is (by unfold Bd; omega) (by unfold Bd; omega) hp, refLowest_is (by unfold Bd; omega) (by unfold Bd; omega) hp⟩
theorem shares_loop (l : List Int) (hl : l.length ≤ 1000) (hv : okP l) (c : Int) (hc : -100000000 ≤ c ∧ c ≤ 100000000) (h : brkE l c = 0) : ∀ i, i ≤ l.length →
    Rq_shares_0 (Tq_shares_0a l.length (encI l) c l.length l.length (encI l) l.length i (encG (fillG (shr l c) l.length i))) = exO (Xq_shares_0a (l.length, encG (shrL l c))) := by
  refine up_ind _ ?_ ?_
  · refine Rq_shares_0a_of _ _ _ _ _ _ _ _ _ ?_
    unfold Bq_shares_0a
    rw [bif_neg (by omega)]
    have : fillG (shr l c) l.length l.length = shrL l c := by simp [fillG, shrL]
    rw [this]
    rfl
  · intro i hi ih
    obtain ⟨x, hx, hd⟩ := get_drop hi
    have wk : w64 ((i : Int) + 1) = ((i + 1 : Nat) : Int) := by rw [w64_in (by omega)]; omega
    have hr := rest_is hl hv hc (i := i) (by omega)
    have hs := (share_is hl hv hc h hx).1
    refine Rq_shares_0a_of _ _ _ _ _ _ _ _ _ ?_
    unfold Bq_shares_0a
    have hb1 : (decide (((0 : Int) ≤ (i : Int)) ∧ ((i : Int) < (l.length : Int)))) = true := decide_eq_true ⟨by omega, by omega⟩
    rw [bif_pos (by omega)]
    simp only [hb1, cond_true, Int.toNat_natCast, Nat.mul_one, encI_get, hx, Option.map_some, intC_int, bindO_val, hr, hs, wk]
    rw [overO_fillG (shr l c) hi]
    simp only [bindO_val]
    exact ih
theorem shares_is {l : List Int} (hl : l.length ≤ 1000) (hv : okP l) {c : Int} (hc : -100000000 ≤ c ∧ c ≤ 100000000) (h : brkE l c = 0) :
    Fq_shares [.list l.length (encI l), .int .i64 c] = some (l.length, encG (shrL l c)) := by
  refine Fq_shares_of _ _ _ ?_
  unfold tq_shares
  have hq := shares_loop l hl hv c hc h 0 (by omega)
  have hz : fillG (shr l c) l.length 0 = List.replicate l.length (0, 0) := by simp [fillG]
  rw [hz, ← rep_G] at hq
  have hL := Lq_shares_0a_of hq
  have hL : Lq_shares_0 (Tq_shares_0a l.length (encI l) c l.length l.length (encI l) l.length 0 (rep [PV.int .i64 0, PV.int .i64 0] l.length)) = _ := hL
  rw [bif_pos (by unfold big; omega)]
  simp only [Int.toNat_natCast, hL, bindO_val]
  rw [bif_pos (by rw [encG_len, shrL_len]; omega)]
  rw [List.drop_zero, List.take_of_length_le (by rw [encG_len, shrL_len]; omega)]
theorem gG0 {l : List ZZ} {i : Nat} {z : ZZ} (h : l[i]? = some z) : (encG l)[i * 2]? = some (.int .i64 z.1) := by rw [encG_0, h]; rfl
theorem gG1 {l : List ZZ} {i : Nat} {z : ZZ} (h : l[i]? = some z) : (encG l)[i * 2 + 1]? = some (.int .i64 z.2) := by rw [encG_1, h]; rfl
end Gv

/- Shares undone: parts, products and spans. -/
namespace Gv
open Go
set_option maxRecDepth 100000
theorem brk_sum {l : List Int} {c : Int} (h : brkE l c = 0) : l.sum ≤ c := by
  unfold brkE at h
  by_cases h1 : l.sum > c
  · rw [if_pos h1] at h
    cases h
  · omega
theorem restL_more (l : List Int) (c d : Int) (i : Nat) : restL l (c + d) i = restL l c i + d := by
  unfold restL
  omega
theorem brk_more {l : List Int} (h1 : 1 ≤ l.length) (hv : okP l) {c d : Int} (hd : 0 ≤ d) (h : brkE l c = 0) : brkE l (c + d) = 0 := by
  have h2 := brk_sum h
  have h3 := rest_pos hv h (i := l.length - 1) (by omega)
  unfold brkE
  rw [if_neg (by omega), restL_more, if_neg (by omega)]
end Gv

/- Shares undone: signals of shares, spans, and how fractions compare. -/
namespace Gv
open Go
set_option maxRecDepth 100000
theorem shrL_get {l : List Int} {c : Int} {i : Nat} (hi : i < l.length) : (shrL l c)[i]? = some (shr l c i) := by
  unfold shrL
  rw [List.getElem?_map, List.getElem?_range hi]
  rfl
def spn (l : List Int) (c d : Int) (i : Nat) : Cl := ((shr l d i).1, (shr l d i).2, (shr l c i).1, (shr l c i).2)
def spnL (l : List Int) (c d : Int) : List Cl := (List.range l.length).map (spn l c d)
theorem spnL_len (l : List Int) (c d : Int) : (spnL l c d).length = l.length := by simp [spnL]
theorem spnL_get {l : List Int} {c d : Int} {i : Nat} (hi : i < l.length) : (spnL l c d)[i]? = some (spn l c d i) := by
  unfold spnL
  rw [List.getElem?_map, List.getElem?_range hi]
  rfl
def fillQ (f : Nat → Cl) (n k : Nat) : List Cl := (List.range k).map f ++ List.replicate (n - k) (0, 0, 0, 0)
theorem fillQ_len (f : Nat → Cl) {n k : Nat} (h : k ≤ n) : (fillQ f n k).length = n := by simp [fillQ]; omega
theorem over_Q (pre r : List Cl) (a b : Cl) : over (encL4 (pre ++ a :: r)) (0 + pre.length * 4) [.int .i64 b.1, .int .i64 b.2.1, .int .i64 b.2.2.1, .int .i64 b.2.2.2] = encL4 (pre ++ b :: r) := by
  unfold over
  have e : encL4 (pre ++ a :: r) = encL4 pre ++ (encCl a ++ encL4 r) := by simp [encL4]
  rw [e, Nat.zero_add, List.take_left' (encL4_len pre)]
  have : (encL4 pre ++ (encCl a ++ encL4 r)).drop (pre.length * 4 + 4) = encL4 r := by
    rw [← List.append_assoc]
    exact List.drop_left' (by rw [List.length_append, encL4_len]; rfl)
  show encL4 pre ++ ([.int .i64 b.1, .int .i64 b.2.1, .int .i64 b.2.2.1, .int .i64 b.2.2.2] ++ (encL4 pre ++ (encCl a ++ encL4 r)).drop (pre.length * 4 + 4)) = _
  rw [this]
  simp [encL4, encCl]
theorem overO_fillQ (f : Nat → Cl) {n k : Nat} (h : k < n) : overO (encL4 (fillQ f n k)) (0 + k * 4) [.int .i64 (f k).1, .int .i64 (f k).2.1, .int .i64 (f k).2.2.1, .int .i64 (f k).2.2.2] = some (encL4 (fillQ f n (k + 1))) := by
  have hl : 0 + k * 4 + [PV.int .i64 (f k).1, .int .i64 (f k).2.1, .int .i64 (f k).2.2.1, .int .i64 (f k).2.2.2].length ≤ (encL4 (fillQ f n k)).length := by
    rw [encL4_len, fillQ_len f (by omega)]
    simp only [List.length_cons, List.length_nil]
    omega
  rw [overO_of hl]
  congr 1
  unfold fillQ
  rw [show n - k = (n - (k + 1)) + 1 by omega, List.replicate_succ]
  have := over_Q ((List.range k).map f) (List.replicate (n - (k + 1)) (0, 0, 0, 0)) (0, 0, 0, 0) (f k)
  rw [List.length_map, List.length_range] at this
  rw [this, List.range_succ, List.map_append, List.append_assoc]
  rfl
theorem rep_Q : ∀ (n : Nat), rep [PV.int .i64 0, PV.int .i64 0, PV.int .i64 0, PV.int .i64 0] n = encL4 (List.replicate n (0, 0, 0, 0))
  | 0 => rfl
  | n + 1 => by simp only [rep, rep_Q n, List.replicate_succ]; rfl
theorem spans_loop (l : List Int) (hl : l.length ≤ 1000) (c d : Int) : ∀ i, i ≤ l.length →
    Rcloud_UndoneIn_0 (Tcloud_UndoneIn_0b l.length (encG (shrL l d)) l.length (encG (shrL l c)) l.length l.length i (encL4 (fillQ (spn l c d) l.length i))) = exO (Xcloud_UndoneIn_0a (l.length, encL4 (spnL l c d))) := by
  refine up_ind _ ?_ ?_
  · refine Rcloud_UndoneIn_0b_of _ _ _ _ _ _ _ _ ?_
    unfold Bcloud_UndoneIn_0b
    rw [bif_neg (by omega)]
    have : fillQ (spn l c d) l.length l.length = spnL l c d := by simp [fillQ, spnL]
    rw [this]
    rfl
  · intro i hi ih
    have wk : w64 ((i : Int) + 1) = ((i + 1 : Nat) : Int) := by rw [w64_in (by omega)]; omega
    have hz := shrL_get (l := l) (c := d) hi
    have hy := shrL_get (l := l) (c := c) hi
    have ho := overO_fillQ (spn l c d) hi
    have hb1 : (decide (((0 : Int) ≤ (i : Int)) ∧ ((i : Int) < (l.length : Int)))) = true := decide_eq_true ⟨by omega, by omega⟩
    refine Rcloud_UndoneIn_0b_of _ _ _ _ _ _ _ _ ?_
    unfold Bcloud_UndoneIn_0b
    rw [bif_pos (by omega)]
    simp only [hb1, cond_true, Int.toNat_natCast, gG0 hz, gG1 hz, gG0 hy, gG1 hy, intC_int, bindO_val, wk]
    have ho : overO (encL4 (fillQ (spn l c d) l.length i)) (0 + i * 4) [.int .i64 (shr l d i).1, .int .i64 (shr l d i).2, .int .i64 (shr l c i).1, .int .i64 (shr l c i).2] = _ := ho
    simp only [ho, bindO_val]
    exact ih
theorem undoneIn_is {l : List Int} (h0 : profE l = 0) {c d : Int} (hc : 1 ≤ c ∧ c ≤ 1000000) (hd : 1 ≤ d ∧ d ≤ 1000000) (hcd : c ≤ d) (h : brkE l c = 0) :
    Fcloud_UndoneIn [.list l.length (encI l), .agg [.int .i64 c, .int .i64 d]] = some ((l.length, encL4 (spnL l c d)), 0) := by
  obtain ⟨b1, b2, hv⟩ := prof_ok h0
  have hk : brkE l d = 0 := by
    have := brk_more (d := d - c) b1 hv (by omega) h
    rw [show c + (d - c) = d by omega] at this
    exact this
  refine Fcloud_UndoneIn_of _ _ _ _ ?_
  unfold tcloud_UndoneIn
  have c63 := profileError_is l (by omega)
  have c65 := break_is b1 (by omega) hv (c := c) (by omega)
  have s1 := shares_is (by omega) hv (c := d) (by omega) hk
  have s2 := shares_is (by omega) hv (c := c) (by omega) h
  have hfe : first4 (profE l) (rangeE c 1 1000000) (rangeE d 1 1000000) 0 = 0 := by rw [h0, rangeE_in hc, rangeE_in hd]; rfl
  simp only [c63, constantError_is, bindO_val]
  rw [bif_neg (by omega)]
  simp only [errorIf_is, Bool.false_eq_true, if_false, firstError4_is, bindO_val, hfe, bne_self_eq_false, cond_false, c65, h, s1, s2]
  have hR : Rcloud_UndoneIn_0 (Tcloud_UndoneIn_0a l.length (encG (shrL l d)) l.length (encG (shrL l c)) l.length l.length c d (rep [PV.int .i64 0, PV.int .i64 0, PV.int .i64 0, PV.int .i64 0] l.length)) = exO (Xcloud_UndoneIn_0a (l.length, encL4 (spnL l c d))) := by
    refine Rcloud_UndoneIn_0a_of _ _ _ _ _ _ _ _ _ ?_
    unfold Bcloud_UndoneIn_0a
    have hz := shrL_get (l := l) (c := d) (i := 0) (by omega)
    have hy := shrL_get (l := l) (c := c) (i := 0) (by omega)
    have g0 : (encG (shrL l d))[0]? = some (.int .i64 (shr l d 0).1) := gG0 hz
    have g1 : (encG (shrL l d))[1]? = some (.int .i64 (shr l d 0).2) := gG1 hz
    have k0 : (encG (shrL l c))[0]? = some (.int .i64 (shr l c 0).1) := gG0 hy
    have k1 : (encG (shrL l c))[1]? = some (.int .i64 (shr l c 0).2) := gG1 hy
    have hpos : (decide (((0 : Int) ≤ (0 : Int)) ∧ ((0 : Int) < (l.length : Int)))) = true := decide_eq_true ⟨by omega, by omega⟩
    have ho := overO_fillQ (spn l c d) (n := l.length) (k := 0) (by omega)
    have hz0 : fillQ (spn l c d) l.length 0 = List.replicate l.length (0, 0, 0, 0) := by simp [fillQ]
    rw [hz0, ← rep_Q] at ho
    have ho : overO (rep [PV.int .i64 0, PV.int .i64 0, PV.int .i64 0, PV.int .i64 0] l.length) 0 [.int .i64 (shr l d 0).1, .int .i64 (shr l d 0).2, .int .i64 (shr l c 0).1, .int .i64 (shr l c 0).2] = _ := ho
    rw [bif_pos (by omega)]
    simp only [hpos, cond_true, g0, g1, k0, k1, intC_int, bindO_val, ho]
    exact spans_loop l (by omega) c d 1 b1
  have hL := Lcloud_UndoneIn_0a_of hR
  rw [bif_pos (by first | (unfold big; omega) | exact ⟨trivial, by omega, by unfold big; omega⟩)]
  simp only [Int.toNat_natCast, hL, bindO_val]
  rw [bif_pos (by rw [encL4_len, spnL_len]; omega)]
  rw [List.drop_zero, List.take_of_length_le (by rw [encL4_len, spnL_len]; omega)]
theorem copyF_is (l : List ZZ) (hl : l.length ≤ 1000000) : Fb_CopyFracs [.list l.length (encG l)] = some (l.length, encG l) := by
  refine Fb_CopyFracs_of _ _ ?_
  unfold tb_CopyFracs
  by_cases h : l.length = 0
  · rw [bif_pos h]
    have := List.eq_nil_of_length_eq_zero h
    subst this
    rfl
  · rw [bif_neg h, bif_pos (encG_len l), bif_pos ⟨rfl, by unfold big; omega⟩, bif_pos rfl]
    simp
end Gv

/- Parts of a whole: the errors of any numbers. -/
namespace Gv
open Go
set_option maxRecDepth 100000
theorem divA_loop {m : Int} (hm : m ≤ 9223372036854775807) : ∀ (n : Nat) (a b : Int), b.natAbs < n → Bd m a → Bd m b →
    ∃ c, Rcloud_divisorOf_0 (Tcloud_divisorOf_0a a b) = exO (Xcloud_divisorOf_0a c) ∧ c.natAbs = Int.gcd a b ∧ Bd m c
  | 0, a, b, h, _, _ => by omega
  | n + 1, a, b, h, ha, hb => by
    by_cases h0 : b = 0
    · subst h0
      refine ⟨a, Rcloud_divisorOf_0a_of _ _ ?_, by simp, ha⟩
      unfold Bcloud_divisorOf_0a
      rfl
    · have hlt := tmod_lt (a := a) h0
      obtain ⟨c, c1, c2, c3⟩ := divA_loop hm n b (a.tmod b) (by omega) hb (tmod_bd ha)
      refine ⟨c, Rcloud_divisorOf_0a_of _ _ ?_, by rw [c2, gcd_step], c3⟩
      unfold Bcloud_divisorOf_0a
      rw [bif_ne, if_neg h0, bif_pos h0]
      exact c1
theorem maxA_neg {c : Int} (h : Bd 9223372036854775807 c) : (if w64 (0 - c) > c then w64 (0 - c) else c) = (c.natAbs : Int) := by
  unfold Bd at h
  rw [w64_in (by omega)]
  split <;> omega
theorem tmod_Bd {a b : Int} (hb : 0 < b) (h2 : b ≤ 9223372036854775807) : Bd 9223372036854775807 (a.tmod b) := by
  have := tmod_lt (a := a) (b := b) (by omega)
  unfold Bd
  omega
theorem divisorA_is {a b : Int} (hb : 0 < b) (h2 : b ≤ 9223372036854775807) : Fcloud_divisorOf [.int .i64 a, .int .i64 b] = some (Int.gcd a b : Int) := by
  refine Fcloud_divisorOf_of _ _ ?_
  unfold tcloud_divisorOf
  obtain ⟨c, c1, c2, c3⟩ := divA_loop (Int.le_refl _) ((a.tmod b).natAbs + 1) b (a.tmod b) (by omega) (by unfold Bd; omega) (tmod_Bd hb h2)
  have c0 : Rcloud_divisorOf_0 (Tcloud_divisorOf_0a a b) = exO (Xcloud_divisorOf_0a c) := by
    refine Rcloud_divisorOf_0a_of _ _ ?_
    unfold Bcloud_divisorOf_0a
    rw [bif_ne, if_neg (by omega), bif_pos (by omega)]
    exact c1
  have := Lcloud_divisorOf_0a_of c0
  rw [this, bindO_val, maxA_neg c3, c2, gcd_step]
theorem gcdA_loop {m : Int} (hm : m ≤ 9223372036854775807) : ∀ (n : Nat) (a b : Int), b.natAbs < n → Bd m a → Bd m b →
    ∃ c, Rb_Gcd_0 (Tb_Gcd_0a a b) = exO (Xb_Gcd_0a c) ∧ c.natAbs = Int.gcd a b ∧ Bd m c
  | 0, a, b, h, _, _ => by omega
  | n + 1, a, b, h, ha, hb => by
    by_cases h0 : b = 0
    · subst h0
      refine ⟨a, Rb_Gcd_0a_of _ _ ?_, by simp, ha⟩
      unfold Bb_Gcd_0a
      rfl
    · have hlt := tmod_lt (a := a) h0
      obtain ⟨c, c1, c2, c3⟩ := gcdA_loop hm n b (a.tmod b) (by omega) hb (tmod_bd ha)
      refine ⟨c, Rb_Gcd_0a_of _ _ ?_, by rw [c2, gcd_step], c3⟩
      unfold Bb_Gcd_0a
      rw [bif_ne, if_neg h0, bif_pos h0]
      exact c1
theorem sizeA_is {c : Int} (h : Bd 9223372036854775807 c) : Fb_Size [.int .i64 c] = some (c.natAbs : Int) :=
  Fb_Size_of _ (by unfold tb_Size; rw [maxA_neg h])
theorem gcdA_is {a b : Int} (hb : 0 < b) (h2 : b ≤ 9223372036854775807) : Fb_Gcd [.int .i64 a, .int .i64 b] = some (Int.gcd a b : Int) := by
  refine Fb_Gcd_of _ _ ?_
  unfold tb_Gcd
  obtain ⟨c, c1, c2, c3⟩ := gcdA_loop (Int.le_refl _) ((a.tmod b).natAbs + 1) b (a.tmod b) (by omega) (by unfold Bd; omega) (tmod_Bd hb h2)
  have c0 : Rb_Gcd_0 (Tb_Gcd_0a a b) = exO (Xb_Gcd_0a c) := by
    refine Rb_Gcd_0a_of _ _ ?_
    unfold Bb_Gcd_0a
    rw [bif_ne, if_neg (by omega), bif_pos (by omega)]
    exact c1
  have := Lb_Gcd_0a_of c0
  simp only [this, bindO_val, sizeA_is c3, c2, gcd_step]
def partE (z : ZZ) : Int := if z.2 ≤ 0 then 3 else if Int.gcd z.1 z.2 ≠ 1 then 3 else if 0 ≤ z.1 ∧ z.1 ≤ z.2 then (if z.2 > 1000000000 then 2 else 0) else 2
theorem partE_ok {z : ZZ} (h : partE z = 0) : 0 < z.2 ∧ z.2 ≤ 1000000000 ∧ 0 ≤ z.1 ∧ z.1 ≤ z.2 := by
  unfold partE at h
  split at h <;> try (cases h; done)
  split at h <;> try (cases h; done)
  split at h <;> try (cases h; done)
  split at h <;> try (cases h; done)
  omega
theorem first3A_is (a b c : Int) : Fn env 62 (RSh.one (CK.int .i64)) [.list 3 [.int .i64 a, .int .i64 b, .int .i64 c]] = some (first3 a b c) := firstError3_is a b c
theorem partA_is (z : ZZ) (hz : z.2 ≤ 9223372036854775807) : Fcloud_partError [.agg [.int .i64 z.1, .int .i64 z.2]] = some (partE z) := by
  refine Fcloud_partError_of _ _ ?_
  unfold tcloud_partError partE
  by_cases h1 : z.2 ≤ 0
  · rw [bif_pos h1, if_pos h1]
    simp only [errorIf_is, rangeError_is, bindO_val]
    rw [bif_neg (by omega)]
    simp only [first3A_is, bindO_val]
    rfl
  · rw [bif_neg h1, if_neg h1]
    simp only [divisorA_is (a := z.1) (b := z.2) (by omega) hz, bindO_val, bif_ne]
    by_cases h2 : Int.gcd z.1 z.2 = 1
    · rw [if_pos (by omega), if_neg (by omega)]
      simp only [errorIf_is, rangeError_is, bindO_val]
      by_cases h3 : 0 ≤ z.1 ∧ z.1 ≤ z.2
      · rw [if_pos h3, rangeE_in h3]
        by_cases h4 : z.2 > 1000000000
        · rw [bif_pos h4, if_pos h4]
          simp only [first3A_is, bindO_val]
          rfl
        · rw [bif_neg h4, if_neg h4]
          simp only [first3A_is, bindO_val]
          rfl
      · rw [if_neg h3, rangeE_out h3]
        by_cases h4 : z.2 > 1000000000
        · rw [bif_pos h4]
          simp only [first3A_is, bindO_val]
          rfl
        · rw [bif_neg h4]
          simp only [first3A_is, bindO_val]
          rfl
    · rw [if_neg (by omega), if_pos (by omega)]
      simp only [errorIf_is, rangeError_is, bindO_val]
      by_cases h4 : z.2 > 1000000000
      · rw [bif_pos h4]
        simp only [first3A_is, bindO_val]
        rfl
      · rw [bif_neg h4]
        simp only [first3A_is, bindO_val]
        rfl
theorem refPartA_is (z : ZZ) (hz : z.2 ≤ 9223372036854775807) : Fr_PartErr [.agg [.int .i64 z.1, .int .i64 z.2]] = some (partE z) := by
  have hl : Fb_IsLowest [.agg [.int .i64 z.1, .int .i64 z.2]] = some (decide (0 < z.2 ∧ Int.gcd z.1 z.2 = 1)) := by
    refine Fb_IsLowest_of _ _ ?_
    unfold tb_IsLowest
    by_cases h1 : 0 < z.2
    · rw [bif_pos h1]
      simp only [gcdA_is (a := z.1) (b := z.2) h1 hz, bindO_val, bif_eq]
      by_cases h2 : Int.gcd z.1 z.2 = 1
      · rw [if_pos (by omega), decide_eq_true ⟨h1, h2⟩]
      · rw [if_neg (by omega), decide_eq_false (fun h => h2 h.2)]
    · rw [bif_neg h1, decide_eq_false (fun h => h1 h.1)]
  refine Fr_PartErr_of _ _ ?_
  unfold tr_PartErr partE
  simp only [hl, bindO_val, within_is]
  by_cases h1 : z.2 ≤ 0
  · rw [bif_neg (by omega), if_pos h1]
  · rw [if_neg h1]
    by_cases h2 : Int.gcd z.1 z.2 = 1
    · rw [bif_pos ⟨by omega, h2⟩, if_neg (by omega)]
      by_cases h3 : 0 ≤ z.1 ∧ z.1 ≤ z.2
      · rw [bif_pos h3, if_pos h3]
        by_cases h4 : z.2 > 1000000000
        · rw [bif_pos h4, if_pos h4]
        · rw [bif_neg h4, if_neg h4]
      · rw [bif_neg h3, if_neg h3]
    · rw [bif_neg (fun h => h2 h.2), if_pos h2]
end Gv

/- Profiles: the reference's errors, rests and shares. -/
namespace Gv
open Go
set_option maxRecDepth 100000
theorem refProf_loop (l : List Int) (hl : l.length < 4294967296) : ∀ i, i ≤ l.length →
    Rr_CheckProfile_0 (Tr_CheckProfile_0a l.length (encI l) i) = (match findE (fun x => rangeE x 0 10000) (l.drop i) i with | some q => exO (Xr_CheckProfile_0a q.1) | none => exO (Xr_CheckProfile_0b ())) := by
  refine up_ind _ ?_ ?_
  · rw [List.drop_length]
    show _ = exO (Xr_CheckProfile_0b ())
    refine Rr_CheckProfile_0a_of _ _ _ ?_
    unfold Br_CheckProfile_0a
    rw [bif_neg (by omega)]
    rfl
  · intro i hi ih
    obtain ⟨x, hx, hd⟩ := get_drop hi
    rw [hd]
    have wk : w64 ((i : Int) + 1) = ((i + 1 : Nat) : Int) := by rw [w64_in (by omega)]; omega
    by_cases he : 0 ≤ x ∧ x ≤ 10000
    · have e0 := rangeE_in he
      simp only [findE, e0, ne_eq, not_true_eq_false, if_false]
      have step : ∀ r, Rr_CheckProfile_0 (Tr_CheckProfile_0a l.length (encI l) (i + 1 : Nat)) = some r → Rr_CheckProfile_0 (Tr_CheckProfile_0a l.length (encI l) i) = some r := by
        intro r hr
        refine Rr_CheckProfile_0a_of _ _ _ ?_
        unfold Br_CheckProfile_0a
        rw [bif_pos (by omega), bif_pos (by omega)]
        simp only [Int.toNat_natCast, Nat.mul_one, encI_get, hx, Option.map_some, intC_int, bindO_val, within_is, wk]
        rw [bif_pos he]
        exact hr
      cases hf : findE (fun x => rangeE x 0 10000) (l.drop (i + 1)) (i + 1) with
      | none => rw [hf] at ih; exact step _ ih
      | some q => rw [hf] at ih; exact step _ ih
    · have e0 := rangeE_out he
      simp only [findE, e0]
      rw [if_pos (by decide)]
      show _ = exO (Xr_CheckProfile_0a (i : Int))
      refine Rr_CheckProfile_0a_of _ _ _ ?_
      unfold Br_CheckProfile_0a
      rw [bif_pos (by omega), bif_pos (by omega)]
      simp only [Int.toNat_natCast, Nat.mul_one, encI_get, hx, Option.map_some, intC_int, bindO_val, within_is]
      rw [bif_neg he]
      rfl
theorem refProf_is (l : List Int) (hl : l.length < 4294967296) : Fr_CheckProfile [.list l.length (encI l)] = some (listIE 24 0 10000 l) := by
  refine Fr_CheckProfile_of _ _ ?_
  unfold tr_CheckProfile listIE
  simp only [bif_eq, bif_dec]
  by_cases h1 : l.length = 0
  · simp [h1]
  · rw [if_neg (by omega), if_neg h1]
    by_cases h2 : (24 : Int) < l.length
    · rw [if_pos (by omega), if_pos h2]
    · rw [if_neg (by omega), if_neg h2]
      have hq := refProf_loop l hl 0 (by omega)
      rw [List.drop_zero] at hq
      cases hf : findE (fun x => rangeE x 0 10000) l 0 with
      | none =>
        rw [hf] at hq
        have := Lr_CheckProfile_0b_of (y := ()) hq
        have this : Lr_CheckProfile_0 (Tr_CheckProfile_0a l.length (encI l) 0) = _ := this
        rw [this]
        rfl
      | some q =>
        rw [hf] at hq
        have h2 := findE_rng 0 10000 hf
        have := Lr_CheckProfile_0a_of (y := q.1) hq
        have this : Lr_CheckProfile_0 (Tr_CheckProfile_0a l.length (encI l) 0) = _ := this
        rw [this]
        show some (q.1, (2 : Int)) = some q
        rw [← h2]
theorem refConstant_is (c : Int) : Fr_ConstantErr [.int .i64 c] = some (rangeE c 1 1000000) := by
  refine Fr_ConstantErr_of _ ?_
  unfold tr_ConstantErr
  simp only [within_is, bindO_val]
  by_cases h : 1 ≤ c ∧ c ≤ 1000000
  · rw [bif_pos h, rangeE_in h]
  · rw [bif_neg h, rangeE_out h]
theorem refRest_loop (l : List Int) (hl : l.length ≤ 1000) (hv : okP l) (c : Int) (hc : -100000000 ≤ c ∧ c ≤ 100000000) (n : Nat) (hn : n ≤ l.length) : ∀ i, i ≤ n →
    Rr_Rest_0 (Tr_Rest_0a l.length (encI l) (restL l c i) n i) = exO (Xr_Rest_0a (restL l c n)) := by
  refine up_ind _ ?_ ?_
  · refine Rr_Rest_0a_of _ _ _ _ _ ?_
    unfold Br_Rest_0a
    rw [bif_neg (by omega)]
    rfl
  · intro i hi ih
    obtain ⟨x, hx, hd⟩ := get_drop (l := l) (i := i) (by omega)
    have hb := restL_bd hl hv hc (i + 1)
    have hs := restL_succ c hx
    have wk : w64 ((i : Int) + 1) = ((i + 1 : Nat) : Int) := by rw [w64_in (by omega)]; omega
    have wr : w64 (restL l c i - x) = restL l c (i + 1) := by rw [w64_in (by omega), hs]
    refine Rr_Rest_0a_of _ _ _ _ _ ?_
    unfold Br_Rest_0a
    rw [bif_pos (by omega), bif_pos (by omega)]
    simp only [Int.toNat_natCast, Nat.mul_one, encI_get, hx, Option.map_some, intC_int, bindO_val, wk, wr]
    exact ih
theorem refRest_is {l : List Int} (hl : l.length ≤ 1000) (hv : okP l) {c : Int} (hc : -100000000 ≤ c ∧ c ≤ 100000000) {n : Nat} (hn : n ≤ l.length) :
    Fr_Rest [.list l.length (encI l), .int .i64 c, .int .i64 n] = some (restL l c n) := by
  refine Fr_Rest_of _ _ _ _ ?_
  unfold tr_Rest
  have hq := refRest_loop l hl hv c hc n hn 0 (by omega)
  rw [restL_zero] at hq
  have hL := Lr_Rest_0a_of hq
  have hL : Lr_Rest_0 (Tr_Rest_0a l.length (encI l) c n 0) = _ := hL
  simp only [hL, bindO_val]
theorem refBreak_loop (l : List Int) (hl : l.length ≤ 1000) (hv : okP l) (c : Int) (hc : -100000000 ≤ c ∧ c ≤ 100000000) : ∀ i, i ≤ l.length → i < l.length →
    Rr_BreakErr_0 (Tr_BreakErr_0a l.length (encI l) c i) = if restL l c (l.length - 1) ≤ 0 then exO (Xr_BreakErr_0a ()) else exO (Xr_BreakErr_0b (l.length, encI l, c)) := by
  refine up_ind (P := fun i => i < l.length → Rr_BreakErr_0 (Tr_BreakErr_0a l.length (encI l) c i) = if restL l c (l.length - 1) ≤ 0 then exO (Xr_BreakErr_0a ()) else exO (Xr_BreakErr_0b (l.length, encI l, c))) _ ?_ ?_
  · intro h
    omega
  · intro i hi ih _
    have wk : w64 ((i : Int) + 1) = ((i + 1 : Nat) : Int) := by rw [w64_in (by omega)]; omega
    have hr := refRest_is hl hv hc (n := i) (by omega)
    have hbody : Br_BreakErr_0a (Fn env) Rr_BreakErr_0 exO Lr_BreakErr_0 l.length (encI l) c i =
        (if restL l c i ≤ 0 then exO (Xr_BreakErr_0a ()) else Rr_BreakErr_0 (Tr_BreakErr_0a l.length (encI l) c (i + 1 : Nat))) := by
      unfold Br_BreakErr_0a
      rw [bif_pos (by omega)]
      simp only [hr, bindO_val, wk, bif_dec]
    have hle := restL_le hv c (l.length - 1 - i) i (by omega)
    rw [show i + (l.length - 1 - i) = l.length - 1 by omega] at hle
    by_cases h : restL l c i ≤ 0
    · rw [if_pos h] at hbody
      rw [if_pos (by omega)]
      exact Rr_BreakErr_0a_of _ _ _ _ hbody
    · rw [if_neg h] at hbody
      by_cases hn : i + 1 < l.length
      · have := ih hn
        by_cases h2 : restL l c (l.length - 1) ≤ 0
        · rw [if_pos h2] at this ⊢
          exact Rr_BreakErr_0a_of _ _ _ _ (hbody.trans this)
        · rw [if_neg h2] at this ⊢
          exact Rr_BreakErr_0a_of _ _ _ _ (hbody.trans this)
      · have hi1 : i = l.length - 1 := by omega
        rw [← hi1, if_neg h]
        refine Rr_BreakErr_0a_of _ _ _ _ (hbody.trans ?_)
        refine Rr_BreakErr_0a_of _ _ _ _ ?_
        unfold Br_BreakErr_0a
        rw [bif_neg (by omega)]
        rfl
theorem refBreak_is {l : List Int} (h1 : 1 ≤ l.length) (hl : l.length ≤ 1000) (hv : okP l) {c : Int} (hc : -100000000 ≤ c ∧ c ≤ 100000000) :
    Fr_BreakErr [.list l.length (encI l), .int .i64 c] = some (brkE l c) := by
  refine Fr_BreakErr_of _ _ _ ?_
  unfold tr_BreakErr
  have hq := refBreak_loop l hl hv c hc 0 (by omega) (by omega)
  have e : restL l c l.length = c - l.sum := by unfold restL; rw [List.take_length]
  have b := restL_le hv c 1 (l.length - 1) (by omega)
  rw [show l.length - 1 + 1 = l.length by omega] at b
  unfold brkE
  by_cases h : restL l c (l.length - 1) ≤ 0
  · rw [if_pos h] at hq
    have hL := Lr_BreakErr_0a_of (y := ()) hq
    have hL : Lr_BreakErr_0 (Tr_BreakErr_0a l.length (encI l) c 0) = _ := hL
    simp only [hL, bindO_val, Sum.elim_inl]
    by_cases h2 : l.sum > c
    · rw [if_pos h2]
    · rw [if_neg h2, if_pos (by omega)]
  · rw [if_neg h] at hq
    have hL := Lr_BreakErr_0b_of hq
    have hL : Lr_BreakErr_0 (Tr_BreakErr_0a l.length (encI l) c 0) = _ := hL
    have hr := refRest_is hl hv hc (n := l.length) (Nat.le_refl _)
    simp only [hL, bindO_val, Sum.elim_inr, hr, bif_dec]
    by_cases h2 : l.sum > c
    · rw [if_pos h2, if_pos (by omega)]
    · rw [if_neg h2, if_neg (by omega), if_neg (by omega)]
theorem refShares_loop (l : List Int) (hl : l.length ≤ 1000) (hv : okP l) (c : Int) (hc : -100000000 ≤ c ∧ c ≤ 100000000) (h : brkE l c = 0) : ∀ i, i ≤ l.length →
    Rr_Shares_0 (Tr_Shares_0b l.length (encI l) c i (encG ((List.range i).map (shr l c))) i i) = exO (Xr_Shares_0b (l.length, encG (shrL l c), l.length)) := by
  refine up_ind _ ?_ ?_
  · refine Rr_Shares_0b_of _ _ _ _ _ _ _ ?_
    unfold Br_Shares_0b
    rw [bif_neg (by omega)]
    rfl
  · intro i hi ih
    obtain ⟨x, hx, hd⟩ := get_drop hi
    have wk : w64 ((i : Int) + 1) = ((i + 1 : Nat) : Int) := by rw [w64_in (by omega)]; omega
    have hr := refRest_is hl hv hc (n := i) (by omega)
    have hs := (share_is hl hv hc h hx).2
    have e : encG ((List.range i).map (shr l c)) ++ [PV.int .i64 (shr l c i).1, .int .i64 (shr l c i).2] = encG ((List.range (i + 1)).map (shr l c)) := by
      rw [List.range_succ, List.map_append]
      simp [encG, enc2]
    refine Rr_Shares_0b_of _ _ _ _ _ _ _ ?_
    unfold Br_Shares_0b
    rw [bif_pos (by omega), bif_pos (by omega)]
    simp only [Int.toNat_natCast, Nat.mul_one, encI_get, hx, Option.map_some, intC_int, bindO_val, hr, hs, wk]
    rw [bif_pos (by unfold big; first | exact ⟨rfl, by omega⟩ | exact ⟨trivial, by omega⟩), e]
    exact ih
theorem refShares_is {l : List Int} (h1 : 1 ≤ l.length) (hl : l.length ≤ 1000) (hv : okP l) {c : Int} (hc : -100000000 ≤ c ∧ c ≤ 100000000) (h : brkE l c = 0) :
    Fr_Shares [.list l.length (encI l), .int .i64 c] = some (l.length, encG (shrL l c)) := by
  refine Fr_Shares_of _ _ _ ?_
  unfold tr_Shares
  obtain ⟨x, hx, hd⟩ := get_drop (l := l) (i := 0) (by omega)
  have hr := refRest_is hl hv hc (n := 0) (by omega)
  have hr : Fr_Rest [.list l.length (encI l), .int .i64 c, .int .i64 (0 : Int)] = _ := hr
  have hs := (share_is hl hv hc h hx).2
  have hR : Rr_Shares_0 (Tr_Shares_0a l.length (encI l) c) = exO (Xr_Shares_0b (l.length, encG (shrL l c), l.length)) := by
    refine Rr_Shares_0a_of _ _ _ ?_
    unfold Br_Shares_0a
    rw [bif_pos (by omega), bif_pos (by omega)]
    simp only [encI_get, hx, Option.map_some, intC_int, bindO_val, hr, hs]
    exact refShares_loop l hl hv c hc h 1 h1
  have hL := Lr_Shares_0b_of hR
  simp only [hL, bindO_val, Sum.elim_inr]
  rw [bif_pos (by first | exact rfl | exact trivial)]
theorem fracs_loop (l : List ZZ) (hl : l.length ≤ 1000) : ∀ i, i ≤ l.length →
    Rb_Fracs_0 (Tb_Fracs_0a l.length (encG l) l.length (encG l) i) = exO (Xb_Fracs_0b ()) := by
  refine up_ind _ ?_ ?_
  · refine Rb_Fracs_0a_of _ _ _ _ _ ?_
    unfold Bb_Fracs_0a
    rw [bif_neg (by omega)]
    rfl
  · intro i hi ih
    obtain ⟨z, hz, hd⟩ := get_drop hi
    have wk : w64 ((i : Int) + 1) = ((i + 1 : Nat) : Int) := by rw [w64_in (by omega)]; omega
    have hb1 : (decide (((0 : Int) ≤ (i : Int)) ∧ ((i : Int) < (l.length : Int)))) = true := decide_eq_true ⟨by omega, by omega⟩
    refine Rb_Fracs_0a_of _ _ _ _ _ ?_
    unfold Bb_Fracs_0a
    rw [bif_pos (by omega)]
    simp only [hb1, cond_true, Int.toNat_natCast, gG0 hz, gG1 hz, intC_int, bindO_val, wk, beq_self_eq_true, Bool.and_true, Bool.not_true, cond_false]
    exact ih
theorem fracs_is (l : List ZZ) (hl : l.length ≤ 1000) : Fb_Fracs [.list l.length (encG l), .list l.length (encG l)] = some true := by
  refine Fb_Fracs_of _ _ _ _ ?_
  unfold tb_Fracs
  have hq := fracs_loop l hl 0 (by omega)
  have hL := Lb_Fracs_0b_of (y := ()) hq
  have hL : Lb_Fracs_0 (Tb_Fracs_0a l.length (encG l) l.length (encG l) 0) = _ := hL
  simp only [bne_self_eq_false, cond_false, hL, bindO_val, Sum.elim_inr]
end Gv
