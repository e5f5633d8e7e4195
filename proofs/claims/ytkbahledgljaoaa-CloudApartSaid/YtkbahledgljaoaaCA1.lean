/- Layers and visibility: what the functions give. -/
import Derived.Test.YtkbahledgljaoaaCH1
import Derived.Test.YtkbahledgljaoaaCS3a
import Derived.Test.YtkbahledgljaoaaCAr
namespace Gv
open Go
set_option maxRecDepth 100000
def okP (l : List Int) : Prop := ∀ x ∈ l, 0 ≤ x ∧ x ≤ 10000
def profE (l : List Int) : Int := (listIE 24 0 10000 l).2
theorem prof_ok {l : List Int} (h : profE l = 0) : 1 ≤ l.length ∧ l.length ≤ 24 ∧ okP l := by
  have := listIE_ok h
  exact ⟨this.1, by omega, this.2.2⟩
theorem checkProfile_is (l : List Int) (hl : l.length < 4294967296) : Fcloud_CheckProfile [.list l.length (encI l)] = some (listIE 24 0 10000 l) := by
  refine Fcloud_CheckProfile_of _ _ ?_
  unfold tcloud_CheckProfile
  have hf := filled_is 24 0 10000 l hl
  simp only [hf, bindO_val]
theorem profileError_is (l : List Int) (hl : l.length < 4294967296) : Fcloud_profileError [.list l.length (encI l)] = some (profE l) := by
  refine Fcloud_profileError_of _ _ ?_
  unfold tcloud_profileError
  simp only [checkProfile_is l hl, bindO_val]
  rfl
theorem refProf_loop (l : List Int) (hl : l.length < 4294967296) : ∀ i, i ≤ l.length →
    Rr_CheckProfile_0 (Tr_CheckProfile_0a l.length (encI l) i) = (match findE (fun x => rangeE x 0 10000) (l.drop i) i with | some q => exO (Xr_CheckProfile_0a q.1) | none => exO (Xr_CheckProfile_0b ())) := by
  refine up_ind _ ?_ ?_
  · rw [List.drop_length]
    show _ = exO (Xr_CheckProfile_0b ())
    refine Rr_CheckProfile_0a_of _ _ _ ?_
    unfold Br_CheckProfile_0a
    rw [bif_neg (by omega)]
    rfl
  · intro i hi ih
    obtain ⟨x, hx, hd⟩ := get_drop hi
    rw [hd]
    have wk : w64 ((i : Int) + 1) = ((i + 1 : Nat) : Int) := by rw [w64_in (by omega)]; omega
    by_cases he : 0 ≤ x ∧ x ≤ 10000
    · have e0 := rangeE_in he
      simp only [findE, e0, ne_eq, not_true_eq_false, if_false]
      have step : ∀ r, Rr_CheckProfile_0 (Tr_CheckProfile_0a l.length (encI l) (i + 1 : Nat)) = some r → Rr_CheckProfile_0 (Tr_CheckProfile_0a l.length (encI l) i) = some r := by
        intro r hr
        refine Rr_CheckProfile_0a_of _ _ _ ?_
        unfold Br_CheckProfile_0a
        rw [bif_pos (by omega), bif_pos (by omega)]
        simp only [Int.toNat_natCast, Nat.mul_one, encI_get, hx, Option.map_some, intC_int, bindO_val, within_is, wk]
        rw [bif_pos he]
        exact hr
      cases hf : findE (fun x => rangeE x 0 10000) (l.drop (i + 1)) (i + 1) with
      | none => rw [hf] at ih; exact step _ ih
      | some q => rw [hf] at ih; exact step _ ih
    · have e0 := rangeE_out he
      simp only [findE, e0]
      rw [if_pos (by decide)]
      show _ = exO (Xr_CheckProfile_0a (i : Int))
      refine Rr_CheckProfile_0a_of _ _ _ ?_
      unfold Br_CheckProfile_0a
      rw [bif_pos (by omega), bif_pos (by omega)]
      simp only [Int.toNat_natCast, Nat.mul_one, encI_get, hx, Option.map_some, intC_int, bindO_val, within_is]
      rw [bif_neg he]
      rfl
theorem refProf_is (l : List Int) (hl : l.length < 4294967296) : Fr_CheckProfile [.list l.length (encI l)] = some (listIE 24 0 10000 l) := by
  refine Fr_CheckProfile_of _ _ ?_
  unfold tr_CheckProfile listIE
  simp only [bif_eq, bif_dec]
  by_cases h1 : l.length = 0
  · simp [h1]
  · rw [if_neg (by omega), if_neg h1]
    by_cases h2 : (24 : Int) < l.length
    · rw [if_pos (by omega), if_pos h2]
    · rw [if_neg (by omega), if_neg h2]
      have hq := refProf_loop l hl 0 (by omega)
      rw [List.drop_zero] at hq
      cases hf : findE (fun x => rangeE x 0 10000) l 0 with
      | none =>
        rw [hf] at hq
        have := Lr_CheckProfile_0b_of (y := ()) hq
        have this : Lr_CheckProfile_0 (Tr_CheckProfile_0a l.length (encI l) 0) = _ := this
        rw [this]
        rfl
      | some q =>
        rw [hf] at hq
        have h2 := findE_rng 0 10000 hf
        have := Lr_CheckProfile_0a_of (y := q.1) hq
        have this : Lr_CheckProfile_0 (Tr_CheckProfile_0a l.length (encI l) 0) = _ := this
        rw [this]
        show some (q.1, (2 : Int)) = some q
        rw [← h2]
theorem refProfErr_is (l : List Int) (hl : l.length < 4294967296) : Fr_ProfileErr [.list l.length (encI l)] = some (profE l) := by
  refine Fr_ProfileErr_of _ _ ?_
  unfold tr_ProfileErr
  simp only [refProf_is l hl, bindO_val]
  rfl
theorem few_is (l : List Int) : Fw_few [.list l.length (encI l)] = some (decide (l.length ≤ 26)) := by
  refine Fw_few_of _ _ ?_
  unfold tw_few
  by_cases h : l.length ≤ 26
  · rw [bif_pos (by omega), decide_eq_true h]
  · rw [bif_neg (by omega), decide_eq_false h]
theorem constantError_is (c : Int) : Fcloud_constantError [.int .i64 c] = some (rangeE c 1 1000000) := by
  refine Fcloud_constantError_of _ ?_
  unfold tcloud_constantError
  simp only [rangeError_is, bindO_val]
theorem sum_bound : ∀ {l : List Int}, okP l → 0 ≤ l.sum ∧ l.sum ≤ 10000 * (l.length : Int)
  | [], _ => by simp
  | x :: l, h => by
    have hx := h x List.mem_cons_self
    have ih := sum_bound fun y hy => h y (List.mem_cons_of_mem _ hy)
    rw [List.sum_cons, List.length_cons, Int.natCast_add, Int.mul_add]
    simp only [Int.natCast_one, Int.mul_one]
    omega
theorem sum_loop (l : List Int) (hl : l.length ≤ 1000) (hv : okP l) : ∀ i, i ≤ l.length → ∀ a : Int, 0 ≤ a → a ≤ 10000 * (i : Int) →
    Rq_sum_0 (Tq_sum_0a a l.length (encI l) l.length i) = exO (Xq_sum_0a (a + (l.drop i).sum)) := by
  refine up_ind (P := fun i => ∀ a : Int, 0 ≤ a → a ≤ 10000 * (i : Int) → Rq_sum_0 (Tq_sum_0a a l.length (encI l) l.length i) = exO (Xq_sum_0a (a + (l.drop i).sum))) _ ?_ ?_
  · intro a _ _
    refine Rq_sum_0a_of _ _ _ _ _ ?_
    unfold Bq_sum_0a
    rw [bif_neg (by omega), List.drop_length]
    rw [show a + ([] : List Int).sum = a by simp]
    rfl
  · intro i hi ih a h0 h1
    obtain ⟨x, hx, hd⟩ := get_drop hi
    have hxv := hv x (List.mem_of_getElem? hx)
    refine Rq_sum_0a_of _ _ _ _ _ ?_
    unfold Bq_sum_0a
    have wk : w64 ((i : Int) + 1) = ((i + 1 : Nat) : Int) := by rw [w64_in (by omega)]; omega
    have wc : w64 (a + x) = a + x := w64_in (by omega)
    rw [bif_pos (by omega), bif_pos (by omega)]
    simp only [Int.toNat_natCast, Nat.mul_one, encI_get, hx, Option.map_some, intC_int, bindO_val, wk, wc]
    rw [hd, List.sum_cons, ← Int.add_assoc]
    exact ih (a + x) (by omega) (by omega)
theorem sum_is {l : List Int} (hl : l.length ≤ 1000) (hv : okP l) : Fq_sum [.list l.length (encI l)] = some l.sum := by
  refine Fq_sum_of _ _ ?_
  unfold tq_sum
  have hq := sum_loop l hl hv 0 (by omega) 0 (by omega) (by omega)
  rw [List.drop_zero, Int.zero_add] at hq
  have hL := Lq_sum_0a_of hq
  have hL : Lq_sum_0 (Tq_sum_0a 0 l.length (encI l) l.length 0) = _ := hL
  simp only [hL, bindO_val]
def restL (l : List Int) (c : Int) (i : Nat) : Int := c - (l.take i).sum
theorem okP_take {l : List Int} (h : okP l) (i : Nat) : okP (l.take i) := fun x hx => h x (List.mem_of_mem_take hx)
theorem restL_zero (l : List Int) (c : Int) : restL l c 0 = c := by simp [restL]
theorem restL_succ {l : List Int} (c : Int) {i : Nat} {x : Int} (h : l[i]? = some x) : restL l c (i + 1) = restL l c i - x := by
  unfold restL
  rw [List.take_add_one, h, List.sum_append]
  simp
  omega
theorem restL_bd {l : List Int} (hl : l.length ≤ 1000) (hv : okP l) {c : Int} (hc : -100000000 ≤ c ∧ c ≤ 100000000) (i : Nat) : -200000000 ≤ restL l c i ∧ restL l c i ≤ 200000000 := by
  have h := sum_bound (okP_take hv i)
  have h2 : (l.take i).length ≤ l.length := by rw [List.length_take]; omega
  have h3 : (10000 : Int) * ((l.take i).length : Int) ≤ 10000 * 1000 := Int.mul_le_mul_of_nonneg_left (by omega) (by omega)
  unfold restL
  omega
theorem rest_is {l : List Int} (hl : l.length ≤ 1000) (hv : okP l) {c : Int} (hc : -100000000 ≤ c ∧ c ≤ 100000000) {i : Nat} (hi : i ≤ l.length) :
    Fq_restBefore [.list l.length (encI l), .int .i64 i, .int .i64 c] = some (restL l c i) := by
  refine Fq_restBefore_of _ _ _ _ ?_
  unfold tq_restBefore
  have hlen : (l.take i).length = i := by rw [List.length_take]; omega
  have hs := sum_is (l := l.take i) (by omega) (okP_take hv i)
  rw [hlen] at hs
  have he : (encI l).take i = encI (l.take i) := by simp [encI, List.map_take]
  have hb := restL_bd hl hv hc i
  have hw : w64 (c - (l.take i).sum) = restL l c i := w64_in (by unfold restL at hb; omega)
  rw [bif_pos ⟨by omega, by show (i : Int) ≤ (l.length : Int); omega⟩]
  simp only [Int.toNat_natCast, Nat.mul_one, Nat.sub_zero, List.drop_zero]
  rw [bif_pos (by right; rw [encI_len]; omega), he]
  simp only [hs, bindO_val, hw]
theorem refConstant_is (c : Int) : Fr_ConstantErr [.int .i64 c] = some (rangeE c 1 1000000) := by
  refine Fr_ConstantErr_of _ ?_
  unfold tr_ConstantErr
  simp only [within_is, bindO_val]
  by_cases h : 1 ≤ c ∧ c ≤ 1000000
  · rw [bif_pos h, rangeE_in h]
  · rw [bif_neg h, rangeE_out h]
theorem refRest_loop (l : List Int) (hl : l.length ≤ 1000) (hv : okP l) (c : Int) (hc : -100000000 ≤ c ∧ c ≤ 100000000) (n : Nat) (hn : n ≤ l.length) : ∀ i, i ≤ n →
    Rr_Rest_0 (Tr_Rest_0a l.length (encI l) (restL l c i) n i) = exO (Xr_Rest_0a (restL l c n)) := by
  refine up_ind _ ?_ ?_
  · refine Rr_Rest_0a_of _ _ _ _ _ ?_
    unfold Br_Rest_0a
    rw [bif_neg (by omega)]
    rfl
  · intro i hi ih
    obtain ⟨x, hx, hd⟩ := get_drop (l := l) (i := i) (by omega)
    have hb := restL_bd hl hv hc (i + 1)
    have hs := restL_succ c hx
    have wk : w64 ((i : Int) + 1) = ((i + 1 : Nat) : Int) := by rw [w64_in (by omega)]; omega
    have wr : w64 (restL l c i - x) = restL l c (i + 1) := by rw [w64_in (by omega), hs]
    refine Rr_Rest_0a_of _ _ _ _ _ ?_
    unfold Br_Rest_0a
    rw [bif_pos (by omega), bif_pos (by omega)]
    simp only [Int.toNat_natCast, Nat.mul_one, encI_get, hx, Option.map_some, intC_int, bindO_val, wk, wr]
    exact ih
theorem refRest_is {l : List Int} (hl : l.length ≤ 1000) (hv : okP l) {c : Int} (hc : -100000000 ≤ c ∧ c ≤ 100000000) {n : Nat} (hn : n ≤ l.length) :
    Fr_Rest [.list l.length (encI l), .int .i64 c, .int .i64 n] = some (restL l c n) := by
  refine Fr_Rest_of _ _ _ _ ?_
  unfold tr_Rest
  have hq := refRest_loop l hl hv c hc n hn 0 (by omega)
  rw [restL_zero] at hq
  have hL := Lr_Rest_0a_of hq
  have hL : Lr_Rest_0 (Tr_Rest_0a l.length (encI l) c n 0) = _ := hL
  simp only [hL, bindO_val]
theorem copyN_is (l : List Int) (hl : l.length ≤ 1000000) : Fb_CopyInts [.list l.length (encI l)] = some (l.length, encI l) := by
  refine Fb_CopyInts_of _ _ ?_
  unfold tb_CopyInts
  by_cases h : l.length = 0
  · rw [bif_pos h]
    have := List.eq_nil_of_length_eq_zero h
    subst this
    rfl
  · rw [bif_neg h, bif_pos (by simp), bif_pos ⟨rfl, by unfold big; omega⟩, bif_pos rfl]
    simp
theorem divA_loop {m : Int} (hm : m ≤ 9223372036854775807) : ∀ (n : Nat) (a b : Int), b.natAbs < n → Bd m a → Bd m b →
    ∃ c, Rcloud_divisorOf_0 (Tcloud_divisorOf_0a a b) = exO (Xcloud_divisorOf_0a c) ∧ c.natAbs = Int.gcd a b ∧ Bd m c
  | 0, a, b, h, _, _ => by omega
  | n + 1, a, b, h, ha, hb => by
    by_cases h0 : b = 0
    · subst h0
      refine ⟨a, Rcloud_divisorOf_0a_of _ _ ?_, by simp, ha⟩
      unfold Bcloud_divisorOf_0a
      rfl
    · have hlt := tmod_lt (a := a) h0
      obtain ⟨c, c1, c2, c3⟩ := divA_loop hm n b (a.tmod b) (by omega) hb (tmod_bd ha)
      refine ⟨c, Rcloud_divisorOf_0a_of _ _ ?_, by rw [c2, gcd_step], c3⟩
      unfold Bcloud_divisorOf_0a
      rw [bif_ne, if_neg h0, bif_pos h0]
      exact c1
theorem maxA_neg {c : Int} (h : Bd 9223372036854775807 c) : (if w64 (0 - c) > c then w64 (0 - c) else c) = (c.natAbs : Int) := by
  unfold Bd at h
  rw [w64_in (by omega)]
  split <;> omega
theorem tmod_Bd {a b : Int} (hb : 0 < b) (h2 : b ≤ 9223372036854775807) : Bd 9223372036854775807 (a.tmod b) := by
  have := tmod_lt (a := a) (b := b) (by omega)
  unfold Bd
  omega
theorem divisorA_is {a b : Int} (hb : 0 < b) (h2 : b ≤ 9223372036854775807) : Fcloud_divisorOf [.int .i64 a, .int .i64 b] = some (Int.gcd a b : Int) := by
  refine Fcloud_divisorOf_of _ _ ?_
  unfold tcloud_divisorOf
  obtain ⟨c, c1, c2, c3⟩ := divA_loop (Int.le_refl _) ((a.tmod b).natAbs + 1) b (a.tmod b) (by omega) (by unfold Bd; omega) (tmod_Bd hb h2)
  have c0 : Rcloud_divisorOf_0 (Tcloud_divisorOf_0a a b) = exO (Xcloud_divisorOf_0a c) := by
    refine Rcloud_divisorOf_0a_of _ _ ?_
    unfold Bcloud_divisorOf_0a
    rw [bif_ne, if_neg (by omega), bif_pos (by omega)]
    exact c1
  have := Lcloud_divisorOf_0a_of c0
  rw [this, bindO_val, maxA_neg c3, c2, gcd_step]
theorem gcdA_loop {m : Int} (hm : m ≤ 9223372036854775807) : ∀ (n : Nat) (a b : Int), b.natAbs < n → Bd m a → Bd m b →
    ∃ c, Rb_Gcd_0 (Tb_Gcd_0a a b) = exO (Xb_Gcd_0a c) ∧ c.natAbs = Int.gcd a b ∧ Bd m c
  | 0, a, b, h, _, _ => by omega
  | n + 1, a, b, h, ha, hb => by
    by_cases h0 : b = 0
    · subst h0
      refine ⟨a, Rb_Gcd_0a_of _ _ ?_, by simp, ha⟩
      unfold Bb_Gcd_0a
      rfl
    · have hlt := tmod_lt (a := a) h0
      obtain ⟨c, c1, c2, c3⟩ := gcdA_loop hm n b (a.tmod b) (by omega) hb (tmod_bd ha)
      refine ⟨c, Rb_Gcd_0a_of _ _ ?_, by rw [c2, gcd_step], c3⟩
      unfold Bb_Gcd_0a
      rw [bif_ne, if_neg h0, bif_pos h0]
      exact c1
theorem sizeA_is {c : Int} (h : Bd 9223372036854775807 c) : Fb_Size [.int .i64 c] = some (c.natAbs : Int) :=
  Fb_Size_of _ (by unfold tb_Size; rw [maxA_neg h])
theorem gcdA_is {a b : Int} (hb : 0 < b) (h2 : b ≤ 9223372036854775807) : Fb_Gcd [.int .i64 a, .int .i64 b] = some (Int.gcd a b : Int) := by
  refine Fb_Gcd_of _ _ ?_
  unfold tb_Gcd
  obtain ⟨c, c1, c2, c3⟩ := gcdA_loop (Int.le_refl _) ((a.tmod b).natAbs + 1) b (a.tmod b) (by omega) (by unfold Bd; omega) (tmod_Bd hb h2)
  have c0 : Rb_Gcd_0 (Tb_Gcd_0a a b) = exO (Xb_Gcd_0a c) := by
    refine Rb_Gcd_0a_of _ _ ?_
    unfold Bb_Gcd_0a
    rw [bif_ne, if_neg (by omega), bif_pos (by omega)]
    exact c1
  have := Lb_Gcd_0a_of c0
  simp only [this, bindO_val, sizeA_is c3, c2, gcd_step]
def partE (z : ZZ) : Int := if z.2 ≤ 0 then 3 else if Int.gcd z.1 z.2 ≠ 1 then 3 else if 0 ≤ z.1 ∧ z.1 ≤ z.2 then (if z.2 > 1000000000 then 2 else 0) else 2
theorem partE_ok {z : ZZ} (h : partE z = 0) : 0 < z.2 ∧ z.2 ≤ 1000000000 ∧ 0 ≤ z.1 ∧ z.1 ≤ z.2 := by
  unfold partE at h
  split at h <;> try (cases h; done)
  split at h <;> try (cases h; done)
  split at h <;> try (cases h; done)
  split at h <;> try (cases h; done)
  omega
theorem firstError3_is (a b c : Int) : Fcloud_firstError_3 [.list 3 [.int .i64 a, .int .i64 b, .int .i64 c]] = some (first3 a b c) :=
  Fcloud_firstError_3_of a b c (by
    unfold tcloud_firstError_3 first3
    simp only [bif_ne]
    by_cases h1 : a = 0 <;> by_cases h2 : b = 0 <;> by_cases h3 : c = 0 <;> simp [h1, h2, h3])
theorem first3A_is (a b c : Int) : Fn env 54 (RSh.one (CK.int .i64)) [.list 3 [.int .i64 a, .int .i64 b, .int .i64 c]] = some (first3 a b c) := firstError3_is a b c
theorem part_is (z : ZZ) (hz : z.2 ≤ 9223372036854775807) : Fcloud_partError [.agg [.int .i64 z.1, .int .i64 z.2]] = some (partE z) := by
  refine Fcloud_partError_of _ _ ?_
  unfold tcloud_partError partE
  by_cases h1 : z.2 ≤ 0
  · rw [bif_pos h1, if_pos h1]
    simp only [errorIf_is, rangeError_is, bindO_val]
    rw [bif_neg (by omega)]
    simp only [first3A_is, bindO_val]
    rfl
  · rw [bif_neg h1, if_neg h1]
    simp only [divisorA_is (a := z.1) (b := z.2) (by omega) hz, bindO_val, bif_ne]
    by_cases h2 : Int.gcd z.1 z.2 = 1
    · rw [if_pos (by omega), if_neg (by omega)]
      simp only [errorIf_is, rangeError_is, bindO_val]
      by_cases h3 : 0 ≤ z.1 ∧ z.1 ≤ z.2
      · rw [if_pos h3, rangeE_in h3]
        by_cases h4 : z.2 > 1000000000
        · rw [bif_pos h4, if_pos h4]
          simp only [first3A_is, bindO_val]
          rfl
        · rw [bif_neg h4, if_neg h4]
          simp only [first3A_is, bindO_val]
          rfl
      · rw [if_neg h3, rangeE_out h3]
        by_cases h4 : z.2 > 1000000000
        · rw [bif_pos h4]
          simp only [first3A_is, bindO_val]
          rfl
        · rw [bif_neg h4]
          simp only [first3A_is, bindO_val]
          rfl
    · rw [if_neg (by omega), if_pos (by omega)]
      simp only [errorIf_is, rangeError_is, bindO_val]
      by_cases h4 : z.2 > 1000000000
      · rw [bif_pos h4]
        simp only [first3A_is, bindO_val]
        rfl
      · rw [bif_neg h4]
        simp only [first3A_is, bindO_val]
        rfl
theorem refPart_is (z : ZZ) (hz : z.2 ≤ 9223372036854775807) : Fr_PartErr [.agg [.int .i64 z.1, .int .i64 z.2]] = some (partE z) := by
  have hl : Fb_IsLowest [.agg [.int .i64 z.1, .int .i64 z.2]] = some (decide (0 < z.2 ∧ Int.gcd z.1 z.2 = 1)) := by
    refine Fb_IsLowest_of _ _ ?_
    unfold tb_IsLowest
    by_cases h1 : 0 < z.2
    · rw [bif_pos h1]
      simp only [gcdA_is (a := z.1) (b := z.2) h1 hz, bindO_val, bif_eq]
      by_cases h2 : Int.gcd z.1 z.2 = 1
      · rw [if_pos (by omega), decide_eq_true ⟨h1, h2⟩]
      · rw [if_neg (by omega), decide_eq_false (fun h => h2 h.2)]
    · rw [bif_neg h1, decide_eq_false (fun h => h1 h.1)]
  refine Fr_PartErr_of _ _ ?_
  unfold tr_PartErr partE
  simp only [hl, bindO_val, within_is]
  by_cases h1 : z.2 ≤ 0
  · rw [bif_neg (by omega), if_pos h1]
  · rw [if_neg h1]
    by_cases h2 : Int.gcd z.1 z.2 = 1
    · rw [bif_pos ⟨by omega, h2⟩, if_neg (by omega)]
      by_cases h3 : 0 ≤ z.1 ∧ z.1 ≤ z.2
      · rw [bif_pos h3, if_pos h3]
        by_cases h4 : z.2 > 1000000000
        · rw [bif_pos h4, if_pos h4]
        · rw [bif_neg h4, if_neg h4]
      · rw [bif_neg h3, if_neg h3]
    · rw [bif_neg (fun h => h2 h.2), if_pos h2]
end Gv
