/- Profiles: errors, rests and shares: what the functions give. -/
import Derived.Test.YtkbahledgljaoaaGreatZS1
import Derived.Test.YtkbahledgljaoaaGreatZC5
import Derived.Test.YtkbahledgljaoaaGreatGvYi
import Derived.Test.YtkbahledgljaoaaGreatGvYs
namespace Gv
open Go
set_option maxRecDepth 100000

theorem number_is (n : Nat) (cs : List PV) (x lo hi : Int) : Fcloud_within_1 [.list n cs, .int .i64 x, .imm [.int .i64 lo] 0, .imm [.int .i64 hi] 0] = some (rangeE x lo hi) :=
  Fcloud_within_1_of n cs x lo hi (by
    unfold tcloud_within_1
    simp only [rangeError_is, bindO_val])

theorem itemI_loop (lo hi : Int) (l : List Int) (hl : l.length < 4294967296) : ∀ i, i ≤ l.length →
    Rcloud_itemError_within_0 (Tcloud_itemError_within_0a l.length (encI l) lo hi l.length (encI l) l.length i) = exO (XLcloud_itemError_within_0.fn (sumE (findE (fun x => rangeE x lo hi) (l.drop i) i))) := by
  refine up_ind _ ?_ ?_
  · refine Rcloud_itemError_within_0a_of _ _ _ _ _ _ _ _ ?_
    unfold Bcloud_itemError_within_0a
    rw [bif_neg (by omega), List.drop_length]
    rfl
  · intro i hi' ih
    refine Rcloud_itemError_within_0a_of _ _ _ _ _ _ _ _ ?_
    unfold Bcloud_itemError_within_0a
    obtain ⟨x, hx, hd⟩ := get_drop hi'
    rw [bif_pos (by omega), bif_pos (by omega)]
    simp only [Int.toNat_natCast, Nat.mul_one, encI_get, hx, Option.map_some, intC_int, bindO_val, number_is]
    rw [bif_pos (by omega), bif_pos (by right; simp [encI]; omega)]
    rw [hd, w64_in (by omega), bif_ne]
    by_cases he : rangeE x lo hi = 0
    · rw [if_pos he]
      simp only [findE, he, ne_eq, not_true_eq_false, if_false]
      exact ih
    · rw [if_neg he]
      simp only [findE, ne_eq, he, not_false_eq_true, if_true]
      rfl

theorem itemI_is (lo hi : Int) (l : List Int) (hl : l.length < 4294967296) :
    Fcloud_itemError_within [.list l.length (encI l), .fn 111 [.imm [.int .i64 lo] 0, .imm [.int .i64 hi] 0]] = some ((findE (fun x => rangeE x lo hi) l 0).getD (0, 0)) := by
  refine Fcloud_itemError_within_of _ _ _ _ ?_
  unfold tcloud_itemError_within
  have := lpO_of Icloud_itemError_within_0 XIcloud_itemError_within_0 (itemI_loop lo hi l hl 0 (by omega))
  have this : Lcloud_itemError_within_0 (Tcloud_itemError_within_0a l.length (encI l) lo hi l.length (encI l) l.length 0) = _ := this
  rw [this]
  simp only [bindO_val, List.drop_zero]
  cases findE (fun x => rangeE x lo hi) l 0 <;> rfl

theorem filled_is (m lo hi : Int) (l : List Int) (hl : l.length < 4294967296) :
    Fcloud_filledError_within [.list l.length (encI l), .int .i64 m, .fn 111 [.imm [.int .i64 lo] 0, .imm [.int .i64 hi] 0]] = some (listIE m lo hi l) := by
  refine Fcloud_filledError_within_of _ _ _ _ _ ?_
  unfold tcloud_filledError_within
  have h : Fcloud_listError_within [.list l.length (encI l), .int .i64 m, .fn 111 [.imm [.int .i64 lo] 0, .imm [.int .i64 hi] 0]] = some (if m < l.length then (0, 8) else (findE (fun x => rangeE x lo hi) l 0).getD (0, 0)) := by
    refine Fcloud_listError_within_of _ _ _ _ _ ?_
    unfold tcloud_listError_within
    simp only [itemI_is lo hi l hl, bindO_val]
    by_cases h2 : m < l.length <;> simp [h2]
  simp only [h, bindO_val, bif_eq, listIE]
  by_cases h1 : l.length = 0
  · simp [h1]
  · simp [h1]

def okP (l : List Int) : Prop := ∀ x ∈ l, 0 ≤ x ∧ x ≤ 10000
def profE (l : List Int) : Int := (listIE 24 0 10000 l).2
theorem prof_ok {l : List Int} (h : profE l = 0) : 1 ≤ l.length ∧ l.length ≤ 24 ∧ okP l := by
  have := listIE_ok h
  exact ⟨this.1, by omega, this.2.2⟩
theorem checkProfile_is (l : List Int) (hl : l.length < 4294967296) : Fcloud_CheckProfile [.list l.length (encI l)] = some (listIE 24 0 10000 l) := by
  refine Fcloud_CheckProfile_of _ _ ?_
  unfold tcloud_CheckProfile
  have hf := filled_is 24 0 10000 l hl
  simp only [hf, bindO_val]
theorem profileError_is (l : List Int) (hl : l.length < 4294967296) : Fcloud_profileError [.list l.length (encI l)] = some (profE l) := by
  refine Fcloud_profileError_of _ _ ?_
  unfold tcloud_profileError
  simp only [checkProfile_is l hl, bindO_val]
  rfl
theorem constantError_is (c : Int) : Fcloud_constantError [.int .i64 c] = some (rangeE c 1 1000000) := by
  refine Fcloud_constantError_of _ ?_
  unfold tcloud_constantError
  simp only [rangeError_is, bindO_val]

theorem sum_bound : ∀ {l : List Int}, okP l → 0 ≤ l.sum ∧ l.sum ≤ 10000 * (l.length : Int)
  | [], _ => by simp
  | x :: l, h => by
    have hx := h x List.mem_cons_self
    have ih := sum_bound fun y hy => h y (List.mem_cons_of_mem _ hy)
    rw [List.sum_cons, List.length_cons, Int.natCast_add, Int.mul_add]
    simp only [Int.natCast_one, Int.mul_one]
    omega
theorem sum_loop (l : List Int) (hl : l.length ≤ 1000) (hv : okP l) : ∀ i, i ≤ l.length → ∀ a : Int, 0 ≤ a → a ≤ 10000 * (i : Int) →
    R_glidepath_cloud_profile__sum_0 (T_glidepath_cloud_profile__sum_0a a l.length (encI l) l.length i) = exO (X_glidepath_cloud_profile__sum_0a (a + (l.drop i).sum)) := by
  refine up_ind (P := fun i => ∀ a : Int, 0 ≤ a → a ≤ 10000 * (i : Int) → R_glidepath_cloud_profile__sum_0 (T_glidepath_cloud_profile__sum_0a a l.length (encI l) l.length i) = exO (X_glidepath_cloud_profile__sum_0a (a + (l.drop i).sum))) _ ?_ ?_
  · intro a _ _
    refine R_glidepath_cloud_profile__sum_0a_of _ _ _ _ _ ?_
    unfold B_glidepath_cloud_profile__sum_0a
    rw [bif_neg (by omega), List.drop_length]
    rw [show a + ([] : List Int).sum = a by simp]
    rfl
  · intro i hi ih a h0 h1
    obtain ⟨x, hx, hd⟩ := get_drop hi
    have hxv := hv x (List.mem_of_getElem? hx)
    refine R_glidepath_cloud_profile__sum_0a_of _ _ _ _ _ ?_
    unfold B_glidepath_cloud_profile__sum_0a
    have wk : w64 ((i : Int) + 1) = ((i + 1 : Nat) : Int) := by rw [w64_in (by omega)]; omega
    have wc : w64 (a + x) = a + x := w64_in (by omega)
    rw [bif_pos (by omega), bif_pos (by omega)]
    simp only [Int.toNat_natCast, Nat.mul_one, encI_get, hx, Option.map_some, intC_int, bindO_val, wk, wc]
    rw [hd, List.sum_cons, ← Int.add_assoc]
    exact ih (a + x) (by omega) (by omega)
theorem sum_is {l : List Int} (hl : l.length ≤ 1000) (hv : okP l) : F_glidepath_cloud_profile__sum [.list l.length (encI l)] = some l.sum := by
  refine F_glidepath_cloud_profile__sum_of _ _ ?_
  unfold t_glidepath_cloud_profile__sum
  have hq := sum_loop l hl hv 0 (by omega) 0 (by omega) (by omega)
  rw [List.drop_zero, Int.zero_add] at hq
  have hL := L_glidepath_cloud_profile__sum_0a_of hq
  have hL : L_glidepath_cloud_profile__sum_0 (T_glidepath_cloud_profile__sum_0a 0 l.length (encI l) l.length 0) = _ := hL
  simp only [hL, bindO_val]

/-- What is left of a constant before a gate. -/
def restL (l : List Int) (c : Int) (i : Nat) : Int := c - (l.take i).sum
theorem okP_take {l : List Int} (h : okP l) (i : Nat) : okP (l.take i) := fun x hx => h x (List.mem_of_mem_take hx)
theorem restL_zero (l : List Int) (c : Int) : restL l c 0 = c := by simp [restL]
theorem restL_succ {l : List Int} (c : Int) {i : Nat} {x : Int} (h : l[i]? = some x) : restL l c (i + 1) = restL l c i - x := by
  unfold restL
  rw [List.take_add_one, h, List.sum_append]
  simp
  omega
theorem restL_le {l : List Int} (hv : okP l) (c : Int) : ∀ (d i : Nat), i + d ≤ l.length → restL l c (i + d) ≤ restL l c i
  | 0, i, _ => Int.le_refl _
  | d + 1, i, h => by
    obtain ⟨x, hx⟩ : ∃ x, l[i + d]? = some x := ⟨l[i + d]'(by omega), List.getElem?_eq_getElem _⟩
    have h1 := restL_succ c hx
    have h2 := restL_le hv c d i (by omega)
    have h3 := hv x (List.mem_of_getElem? hx)
    rw [show i + (d + 1) = i + d + 1 by omega, h1]
    omega
theorem restL_bd {l : List Int} (hl : l.length ≤ 1000) (hv : okP l) {c : Int} (hc : -100000000 ≤ c ∧ c ≤ 100000000) (i : Nat) : -200000000 ≤ restL l c i ∧ restL l c i ≤ 200000000 := by
  have h := sum_bound (okP_take hv i)
  have h2 : (l.take i).length ≤ l.length := by rw [List.length_take]; omega
  have h3 : (10000 : Int) * ((l.take i).length : Int) ≤ 10000 * 1000 := Int.mul_le_mul_of_nonneg_left (by omega) (by omega)
  unfold restL
  omega
theorem rest_is {l : List Int} (hl : l.length ≤ 1000) (hv : okP l) {c : Int} (hc : -100000000 ≤ c ∧ c ≤ 100000000) {i : Nat} (hi : i ≤ l.length) :
    F_glidepath_cloud_profile__restBefore [.list l.length (encI l), .int .i64 i, .int .i64 c] = some (restL l c i) := by
  refine F_glidepath_cloud_profile__restBefore_of _ _ _ _ ?_
  unfold t_glidepath_cloud_profile__restBefore
  have hlen : (l.take i).length = i := by rw [List.length_take]; omega
  have hs := sum_is (l := l.take i) (by omega) (okP_take hv i)
  rw [hlen] at hs
  have he : (encI l).take i = encI (l.take i) := by simp [encI, List.map_take]
  have hb := restL_bd hl hv hc i
  have hw : w64 (c - (l.take i).sum) = restL l c i := w64_in (by unfold restL at hb; omega)
  rw [bif_pos ⟨by omega, by show (i : Int) ≤ (l.length : Int); omega⟩]
  simp only [Int.toNat_natCast, Nat.mul_one, Nat.sub_zero, List.drop_zero]
  rw [bif_pos (by right; rw [encI_len]; omega), he]
  simp only [hs, bindO_val, hw]

def brk (l : List Int) (c : Int) : Prop := l.sum > c ∨ restL l c (l.length - 1) = 0
def brkE (l : List Int) (c : Int) : Int := if l.sum > c then 20 else if restL l c (l.length - 1) = 0 then 20 else 0
theorem break_is {l : List Int} (h1 : 1 ≤ l.length) (hl : l.length ≤ 1000) (hv : okP l) {c : Int} (hc : -100000000 ≤ c ∧ c ≤ 100000000) :
    F_glidepath_cloud_profile__breakError [.list l.length (encI l), .int .i64 c] = some (brkE l c) := by
  refine F_glidepath_cloud_profile__breakError_of _ _ _ ?_
  unfold t_glidepath_cloud_profile__breakError brkE
  have hs := sum_is hl hv
  have wk : w64 ((l.length : Int) - 1) = ((l.length - 1 : Nat) : Int) := by rw [w64_in (by omega)]; omega
  have hr := rest_is hl hv hc (i := l.length - 1) (by omega)
  simp only [hs, bindO_val, wk, hr, errorIf_is, bif_dec, bif_eq]
  by_cases h : l.sum > c
  · rw [if_pos h, if_pos h]
    rfl
  · rw [if_neg h, if_neg h]
    by_cases h2 : restL l c (l.length - 1) = 0
    · rw [if_pos h2, if_pos h2]
      rfl
    · rw [if_neg h2, if_neg h2]
      rfl
theorem rest_pos {l : List Int} (hv : okP l) {c : Int} (h : brkE l c = 0) {i : Nat} (hi : i < l.length) : 0 < restL l c i := by
  unfold brkE at h
  by_cases h1 : l.sum > c
  · rw [if_pos h1] at h
    cases h
  · rw [if_neg h1] at h
    by_cases h2 : restL l c (l.length - 1) = 0
    · rw [if_pos h2] at h
      cases h
    · have a := restL_le hv c (l.length - 1 - i) i (by omega)
      rw [show i + (l.length - 1 - i) = l.length - 1 by omega] at a
      have b := restL_le hv c 1 (l.length - 1) (by omega)
      rw [show l.length - 1 + 1 = l.length by omega] at b
      have e : restL l c l.length = c - l.sum := by unfold restL; rw [List.take_length]
      omega

theorem divisor_loop {m : Int} (hm : m ≤ 4611686018427387904) : ∀ (n : Nat) (a b : Int), b.natAbs < n → Bd m a → Bd m b →
    ∃ c, Rcloud_divisorOf_0 (Tcloud_divisorOf_0a a b) = exO (Xcloud_divisorOf_0a c) ∧ c.natAbs = Int.gcd a b ∧ Bd m c
  | 0, a, b, h, _, _ => by omega
  | n + 1, a, b, h, ha, hb => by
    by_cases h0 : b = 0
    · subst h0
      refine ⟨a, Rcloud_divisorOf_0a_of _ _ ?_, by simp, ha⟩
      unfold Bcloud_divisorOf_0a
      rfl
    · have hlt := tmod_lt (a := a) h0
      obtain ⟨c, c1, c2, c3⟩ := divisor_loop hm n b (a.tmod b) (by omega) hb (tmod_bd ha)
      refine ⟨c, Rcloud_divisorOf_0a_of _ _ ?_, by rw [c2, gcd_step], c3⟩
      unfold Bcloud_divisorOf_0a
      rw [bif_ne, if_neg h0, bif_pos h0]
      exact c1
theorem max_neg64 {c : Int} (h : Bd 4611686018427387904 c) : (if w64 (0 - c) > c then w64 (0 - c) else c) = (c.natAbs : Int) := by
  unfold Bd at h
  rw [w64_in (by omega)]
  split <;> omega
theorem divisor_is {a b : Int} (ha : Bd 4611686018427387904 a) (hb : Bd 4611686018427387904 b) : Fcloud_divisorOf [.int .i64 a, .int .i64 b] = some (Int.gcd a b : Int) := by
  refine Fcloud_divisorOf_of _ _ ?_
  unfold tcloud_divisorOf
  obtain ⟨c, c1, c2, c3⟩ := divisor_loop (Int.le_refl _) (b.natAbs + 1) a b (by omega) ha hb
  have := Lcloud_divisorOf_0a_of c1
  rw [this, bindO_val, max_neg64 c3, c2]
theorem lowest_is {n d : Int} (hn : Bd 4611686018427387904 n) (hd : Bd 4611686018427387904 d) (hp : 0 < d) : Fcloud_lowest [.int .i64 n, .int .i64 d] = some (lowF n d) := by
  refine Fcloud_lowest_of _ _ ?_
  unfold tcloud_lowest
  have g := gcd_pos (n := n) hp
  simp only [divisor_is hn hd, bindO_val]
  rw [bif_pos (by omega), bif_pos (by omega), w64_bd (tdiv_bd _ hn), w64_bd (tdiv_bd _ hd)]
  rfl
theorem gcd_loop {m : Int} (hm : m ≤ 4611686018427387904) : ∀ (n : Nat) (a b : Int), b.natAbs < n → Bd m a → Bd m b →
    ∃ c, Rglidepathbase_Gcd_0 (Tglidepathbase_Gcd_0a a b) = exO (Xglidepathbase_Gcd_0a c) ∧ c.natAbs = Int.gcd a b ∧ Bd m c
  | 0, a, b, h, _, _ => by omega
  | n + 1, a, b, h, ha, hb => by
    by_cases h0 : b = 0
    · subst h0
      refine ⟨a, Rglidepathbase_Gcd_0a_of _ _ ?_, by simp, ha⟩
      unfold Bglidepathbase_Gcd_0a
      rfl
    · have hlt := tmod_lt (a := a) h0
      obtain ⟨c, c1, c2, c3⟩ := gcd_loop hm n b (a.tmod b) (by omega) hb (tmod_bd ha)
      refine ⟨c, Rglidepathbase_Gcd_0a_of _ _ ?_, by rw [c2, gcd_step], c3⟩
      unfold Bglidepathbase_Gcd_0a
      rw [bif_ne, if_neg h0, bif_pos h0]
      exact c1
theorem size_is {c : Int} (h : Bd 4611686018427387904 c) : Fglidepathbase_Size [.int .i64 c] = some (c.natAbs : Int) :=
  Fglidepathbase_Size_of _ (by unfold tglidepathbase_Size; rw [max_neg64 h])
theorem gcd_is {a b : Int} (ha : Bd 4611686018427387904 a) (hb : Bd 4611686018427387904 b) : Fglidepathbase_Gcd [.int .i64 a, .int .i64 b] = some (Int.gcd a b : Int) := by
  refine Fglidepathbase_Gcd_of _ _ ?_
  unfold tglidepathbase_Gcd
  obtain ⟨c, c1, c2, c3⟩ := gcd_loop (Int.le_refl _) (b.natAbs + 1) a b (by omega) ha hb
  have := Lglidepathbase_Gcd_0a_of c1
  simp only [this, bindO_val, size_is c3, c2]
theorem refLowest_is {n d : Int} (hn : Bd 4611686018427387904 n) (hd : Bd 4611686018427387904 d) (hp : 0 < d) : Fglidepathbase_Lowest [.int .i64 n, .int .i64 d] = some (lowF n d) := by
  refine Fglidepathbase_Lowest_of _ _ ?_
  unfold tglidepathbase_Lowest
  have g := gcd_pos (n := n) hp
  simp only [gcd_is hn hd, bindO_val]
  rw [bif_neg (by omega), bif_pos (by omega), bif_pos (by omega), w64_bd (tdiv_bd _ hn), w64_bd (tdiv_bd _ hd)]
  rfl
end Gv
