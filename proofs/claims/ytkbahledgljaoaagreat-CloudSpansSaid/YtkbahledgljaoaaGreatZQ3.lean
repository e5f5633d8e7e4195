import Derived.Test.YtkbahledgljaoaaGreatZP3a
import Derived.Test.YtkbahledgljaoaaGreatZC8
import Derived.Test.YtkbahledgljaoaaGreatWdF

/- Signals of any shares: what the functions give. -/
namespace Gv
open Go
set_option maxRecDepth 100000
theorem lowR_eq (n d : Int) : lowR n d = lowF n d := by
  unfold lowR lowF
  rw [Int.tdiv_eq_ediv_of_dvd (Int.gcd_dvd_left ..), Int.tdiv_eq_ediv_of_dvd (Int.gcd_dvd_right ..)]
theorem lowF_cop {p q : Int} (h : Int.gcd p q = 1) : lowF p q = (p, q) := by
  unfold lowF
  rw [h]; simp
theorem lowF_uniq {n d p q : Int} (hd : 0 < d) (hq : 0 < q) (h : Int.gcd p q = 1) (e : p * d = n * q) : lowF n d = (p, q) := by
  rw [lowF_same hd hq e.symm, lowF_cop h]
theorem lowF_cross {n d : Int} (hd : 0 < d) : (lowF n d).1 * d = n * (lowF n d).2 := by
  obtain ⟨h1, h2⟩ := lowF_mul n d
  generalize (lowF n d).1 = p at *
  generalize (lowF n d).2 = q at *
  generalize (Int.gcd n d : Int) = g at *
  subst h1 h2
  grind
theorem lowF_nonneg {n d : Int} (hd : 0 < d) (hn : 0 ≤ n) : 0 ≤ (lowF n d).1 := by
  obtain ⟨h1, h2⟩ := lowF_mul n d
  have hg := gcd_pos (n := n) hd
  rcases Int.lt_or_le (lowF n d).1 0 with h | h
  · have := Int.mul_lt_mul_of_pos_right h hg
    omega
  · exact h
theorem lowF_le {n d : Int} (hd : 0 < d) (hn : 0 ≤ n) : (lowF n d).1 ≤ n ∧ (lowF n d).2 ≤ d := by
  obtain ⟨h1, h2⟩ := lowF_mul n d
  have hg := gcd_pos (n := n) hd
  have hp := lowF_nonneg hd hn
  have hq := lowF_den (n := n) hd
  have a : (lowF n d).1 * 1 ≤ (lowF n d).1 * (Int.gcd n d : Int) := Int.mul_le_mul_of_nonneg_left (by omega) hp
  have b : (lowF n d).2 * 1 ≤ (lowF n d).2 * (Int.gcd n d : Int) := Int.mul_le_mul_of_nonneg_left (by omega) (by omega)
  omega
theorem cop_dvd {a b x y : Int} (h : Int.gcd a b = 1) (hx : x ∣ a) (hy : y ∣ b) : Int.gcd x y = 1 := by
  have h1 : Nat.Coprime a.natAbs b.natAbs := h
  exact Nat.Coprime.coprime_dvd_left (Int.natAbs_dvd_natAbs.2 hx) (Nat.Coprime.coprime_dvd_right (Int.natAbs_dvd_natAbs.2 hy) h1)
theorem cop_mul {a b c d : Int} (h1 : Int.gcd a c = 1) (h2 : Int.gcd a d = 1) (h3 : Int.gcd b c = 1) (h4 : Int.gcd b d = 1) : Int.gcd (a * b) (c * d) = 1 := by
  have k1 : Nat.Coprime a.natAbs c.natAbs := h1
  have k2 : Nat.Coprime a.natAbs d.natAbs := h2
  have k3 : Nat.Coprime b.natAbs c.natAbs := h3
  have k4 : Nat.Coprime b.natAbs d.natAbs := h4
  show Nat.gcd (a * b).natAbs (c * d).natAbs = 1
  rw [Int.natAbs_mul, Int.natAbs_mul]
  exact Nat.Coprime.mul_left (Nat.Coprime.mul_right k1 k2) (Nat.Coprime.mul_right k3 k4)
structure RstOK (r : ZZ) : Prop where
  num : 0 ≤ r.1 ∧ r.1 ≤ 1000000000000000000
  den : 0 < r.2 ∧ r.2 ≤ 1000000000000000000
  cop : Int.gcd r.1 r.2 = 1
structure ShrOK (z : ZZ) : Prop where
  den : 0 < z.2 ∧ z.2 ≤ 1000000000
  num : 0 ≤ z.1 ∧ z.1 ≤ z.2
  cop : Int.gcd z.1 z.2 = 1
theorem shr_of {z : ZZ} (h : partE z = 0) : ShrOK z := by
  have := partE_ok h
  refine ⟨⟨this.1, this.2.1⟩, this.2.2, ?_⟩
  by_cases hc : Int.gcd z.1 z.2 = 1
  · exact hc
  · unfold partE at h
    rw [if_neg (by omega), if_pos hc] at h
    cases h
def ownF (z r : ZZ) : ZZ := lowF (z.1 * r.1) (z.2 * r.2)
def rstF (z r : ZZ) : ZZ := lowF (r.1 * (ownF z r).2 - (ownF z r).1 * r.2) (r.2 * (ownF z r).2)
def smallF (z : ZZ) : Prop := z.1 ≤ 1000000000 ∧ z.2 ≤ 1000000000
instance (z : ZZ) : Decidable (smallF z) := by unfold smallF; infer_instance
theorem isLargeA_is {a b : Int} (ha : 0 ≤ a) (hb : 0 ≤ b) : Fcloud_isLarge [.int .i64 a, .int .i64 b] = some (decide (a * b > 1000000000)) := by
  refine Fcloud_isLarge_of _ _ ?_
  unfold tcloud_isLarge
  by_cases h : a > 0
  · rw [bif_pos h, bif_pos (by omega)]
    have hq : (1000000000 : Int).tdiv a = 1000000000 / a := Int.tdiv_eq_ediv_of_nonneg (by omega)
    have h1 := Int.ediv_le_self a (show (0 : Int) ≤ 1000000000 by omega)
    have h2 : 0 ≤ (1000000000 : Int) / a := Int.ediv_nonneg (by omega) ha
    rw [hq, w64_in (by omega)]
    have hk : (b > 1000000000 / a) ↔ a * b > 1000000000 := by
      rw [gt_iff_lt, Int.ediv_lt_iff_lt_mul h, Int.mul_comm]
    by_cases hl : a * b > 1000000000
    · rw [bif_pos (hk.2 hl), decide_eq_true hl]
    · rw [bif_neg (fun e => hl (hk.1 e)), decide_eq_false hl]
  · have : a = 0 := by omega
    subst this
    rw [bif_neg (by omega), Int.zero_mul]
    rfl
theorem Bd_of {x : Int} (h : 0 ≤ x ∧ x ≤ 4611686018427387904) : Bd 4611686018427387904 x := by unfold Bd; omega
theorem own_parts {z r : ZZ} (hz : ShrOK z) (hr : RstOK r) :
    ownF z r = ((lowF z.1 r.2).1 * (lowF r.1 z.2).1, (lowF z.1 r.2).2 * (lowF r.1 z.2).2) := by
  have c1 := lowF_gcd (n := z.1) hr.den.1
  have c2 := lowF_gcd (n := r.1) hz.den.1
  obtain ⟨a1, a2⟩ := lowF_mul z.1 r.2
  obtain ⟨b1, b2⟩ := lowF_mul r.1 z.2
  have d1 := lowF_den (n := z.1) hr.den.1
  have d2 := lowF_den (n := r.1) hz.den.1
  have c3 : Int.gcd (lowF z.1 r.2).1 (lowF r.1 z.2).2 = 1 := cop_dvd hz.cop ⟨_, a1.symm⟩ ⟨_, b2.symm⟩
  have c4 : Int.gcd (lowF r.1 z.2).1 (lowF z.1 r.2).2 = 1 := cop_dvd hr.cop ⟨_, b1.symm⟩ ⟨_, a2.symm⟩
  refine lowF_uniq (Int.mul_pos hz.den.1 hr.den.1) (Int.mul_pos d1 d2) (cop_mul c1 c3 c4 c2) ?_
  generalize (lowF z.1 r.2).1 = p at *
  generalize (lowF z.1 r.2).2 = q at *
  generalize (lowF r.1 z.2).1 = u at *
  generalize (lowF r.1 z.2).2 = v at *
  generalize (Int.gcd z.1 r.2 : Int) = g at *
  generalize (Int.gcd r.1 z.2 : Int) = k at *
  clear c1 c2 c3 c4 d1 d2
  rw [← a1, ← a2, ← b1, ← b2]
  grind
theorem productA_is {z r : ZZ} (hz : ShrOK z) (hr : RstOK r) :
    Fcloud_product [.agg [.int .i64 z.1, .int .i64 z.2], .agg [.int .i64 r.1, .int .i64 r.2]] = some (if smallF (ownF z r) then ((ownF z r).1, ((ownF z r).2, 0)) else (0, (0, 8))) := by
  refine Fcloud_product_of _ _ _ _ ?_
  unfold tcloud_product
  have hzd := hz.den
  have hzn := hz.num
  have hrd := hr.den
  have hrn := hr.num
  have l1 := lowest_is (n := z.1) (d := r.2) (Bd_of (by omega)) (Bd_of (by omega)) hrd.1
  have l2 := lowest_is (n := r.1) (d := z.2) (Bd_of (by omega)) (Bd_of (by omega)) hzd.1
  have n1 := lowF_nonneg (n := z.1) hrd.1 hzn.1
  have n2 := lowF_nonneg (n := r.1) hzd.1 hrn.1
  have d1 := lowF_den (n := z.1) hrd.1
  have d2 := lowF_den (n := r.1) hzd.1
  have g1 := isLargeA_is n1 n2
  have g2 := isLargeA_is (Int.le_of_lt d1) (Int.le_of_lt d2)
  have p1 := Int.mul_nonneg n1 n2
  have p2 := Int.mul_nonneg (Int.le_of_lt d1) (Int.le_of_lt d2)
  simp only [l1, l2, bindO_val, g1, g2]
  rw [own_parts hz hr]
  by_cases h1 : (lowF z.1 r.2).1 * (lowF r.1 z.2).1 > 1000000000
  · rw [bif_pos h1, if_neg (fun hh => by have := hh.1; omega)]
  · rw [bif_neg h1]
    by_cases h2 : (lowF z.1 r.2).2 * (lowF r.1 z.2).2 > 1000000000
    · rw [bif_pos h2, if_neg (fun hh => by have := hh.2; omega)]
    · rw [bif_neg h2, if_pos ⟨by omega, by omega⟩, w64_in (by omega), w64_in (by omega)]
theorem own_ok {z r : ZZ} (hz : ShrOK z) (hr : RstOK r) : 0 ≤ (ownF z r).1 ∧ 0 < (ownF z r).2 ∧ (ownF z r).1 * (z.2 * r.2) = (z.1 * r.1) * (ownF z r).2 := by
  have hd : 0 < z.2 * r.2 := Int.mul_pos hz.den.1 hr.den.1
  exact ⟨lowF_nonneg hd (Int.mul_nonneg hz.num.1 hr.num.1), lowF_den hd, lowF_cross hd⟩
theorem rst_parts {z r : ZZ} (hz : ShrOK z) (hr : RstOK r) (h0 : z.1 ≠ 0) : rstF z r = lowF ((ownF z r).1 * (z.2 - z.1)) ((ownF z r).2 * z.1) := by
  obtain ⟨h1, h2, h3⟩ := own_ok hz hr
  have hz1 := hz.num
  unfold rstF
  refine lowF_same (Int.mul_pos hr.den.1 h2) (Int.mul_pos h2 (by omega)) ?_
  generalize (ownF z r).1 = p at *
  generalize (ownF z r).2 = q at *
  clear hz hr
  grind
theorem rst_none {z r : ZZ} (hz : ShrOK z) (hr : RstOK r) (h0 : z.1 = 0) : rstF z r = r := by
  have ho : ownF z r = (0, 1) := by
    unfold ownF
    rw [h0, Int.zero_mul]
    refine lowF_uniq (Int.mul_pos hz.den.1 hr.den.1) (by omega) (by decide) (by omega)
  unfold rstF
  rw [ho]
  simp only [Int.mul_one, Int.zero_mul, Int.sub_zero]
  exact lowF_cop hr.cop
theorem mul_le_e18 {a b : Int} (ha : 0 ≤ a ∧ a ≤ 1000000000) (hb : 0 ≤ b ∧ b ≤ 1000000000) : 0 ≤ a * b ∧ a * b ≤ 1000000000000000000 := by
  have h1 : a * b ≤ 1000000000 * b := Int.mul_le_mul_of_nonneg_right ha.2 hb.1
  exact ⟨Int.mul_nonneg ha.1 hb.1, by omega⟩
theorem rst_ok {z r : ZZ} (hz : ShrOK z) (hr : RstOK r) (hs : smallF (ownF z r)) : RstOK (rstF z r) := by
  by_cases h0 : z.1 = 0
  · rw [rst_none hz hr h0]; exact hr
  · rw [rst_parts hz hr h0]
    obtain ⟨h1, h2, h3⟩ := own_ok hz hr
    have hzn := hz.num
    have hzd := hz.den
    have b1 := mul_le_e18 (a := (ownF z r).1) (b := z.2 - z.1) ⟨h1, hs.1⟩ (by omega)
    have b2 := mul_le_e18 (a := (ownF z r).2) (b := z.1) ⟨by omega, hs.2⟩ (by omega)
    have hd : 0 < (ownF z r).2 * z.1 := Int.mul_pos h2 (by omega)
    have hn := lowF_nonneg hd b1.1
    have hl := lowF_le hd b1.1
    have hp := lowF_den (n := (ownF z r).1 * (z.2 - z.1)) hd
    exact ⟨⟨hn, by omega⟩, ⟨hp, by omega⟩, lowF_gcd hd⟩
theorem restAfterA_is {z r : ZZ} (hz : ShrOK z) (hr : RstOK r) (hs : smallF (ownF z r)) :
    Fcloud_restAfter [.agg [.int .i64 r.1, .int .i64 r.2], .agg [.int .i64 z.1, .int .i64 z.2], .agg [.int .i64 (ownF z r).1, .int .i64 (ownF z r).2]] = some (rstF z r) := by
  refine Fcloud_restAfter_of _ _ _ _ _ _ ?_
  unfold tcloud_restAfter
  rw [bif_eq]
  by_cases h0 : z.1 = 0
  · rw [if_pos h0, rst_none hz hr h0]
  · rw [if_neg h0, rst_parts hz hr h0]
    obtain ⟨h1, h2, h3⟩ := own_ok hz hr
    have hzn := hz.num
    have hzd := hz.den
    have b1 := mul_le_e18 (a := (ownF z r).1) (b := z.2 - z.1) ⟨h1, hs.1⟩ (by omega)
    have b2 := mul_le_e18 (a := (ownF z r).2) (b := z.1) ⟨by omega, hs.2⟩ (by omega)
    have hd : 0 < (ownF z r).2 * z.1 := Int.mul_pos h2 (by omega)
    have w1 : w64 (z.2 - z.1) = z.2 - z.1 := w64_in (by omega)
    have w2 : w64 ((ownF z r).1 * (z.2 - z.1)) = (ownF z r).1 * (z.2 - z.1) := w64_in (by omega)
    have w3 : w64 ((ownF z r).2 * z.1) = (ownF z r).2 * z.1 := w64_in (by omega)
    have hl := lowest_is (n := (ownF z r).1 * (z.2 - z.1)) (d := (ownF z r).2 * z.1) (Bd_of (by omega)) (Bd_of (by omega)) hd
    simp only [w1, w2, w3, hl, bindO_val]
def sigsL : List ZZ → ZZ → Option (List ZZ)
  | [], _ => some []
  | z :: l, r => if smallF (ownF z r) then (sigsL l (rstF z r)).map (ownF z r :: ·) else none
theorem sigsL_len : ∀ (l : List ZZ) (r : ZZ) (o : List ZZ), sigsL l r = some o → o.length = l.length
  | [], _, o, h => by simp [sigsL] at h; subst h; rfl
  | z :: l, r, o, h => by
    simp only [sigsL] at h
    split at h
    · cases hs : sigsL l (rstF z r) with
      | none => rw [hs] at h; cases h
      | some o' =>
        rw [hs] at h
        simp at h
        subst h
        simp [sigsL_len l _ o' hs]
    · cases h
theorem overO_app (acc rest : List ZZ) (a b : ZZ) : overO (encG (acc ++ a :: rest)) (0 + acc.length * 2) [.int .i64 b.1, .int .i64 b.2] = some (encG (acc ++ b :: rest)) := by
  rw [overO_of (by rw [encG_len]; simp; omega), over_G]
theorem att_gen {l : List ZZ} (hl : l.length ≤ 1000) (hv : ∀ z ∈ l, partE z = 0) : ∀ (n i : Nat), i + n = l.length → ∀ (r : ZZ) (acc : List ZZ), RstOK r → acc.length = i →
    match sigsL (l.drop i) r with
    | some out => ∃ r' : ZZ, Rcloud_Attenuated_0 (Tcloud_Attenuated_0a l.length l.length (encG l) l.length i r.1 r.2 (encG (acc ++ List.replicate n (0, 0)))) = exO (Xcloud_Attenuated_0b (l.length, r'.1, r'.2, encG (acc ++ out)))
    | none => ∃ c, Rcloud_Attenuated_0 (Tcloud_Attenuated_0a l.length l.length (encG l) l.length i r.1 r.2 (encG (acc ++ List.replicate n (0, 0)))) = exO (Xcloud_Attenuated_0a (8, c))
  | 0, i, hi, r, acc, hr, ha => by
    rw [List.drop_eq_nil_of_le (by omega)]
    refine ⟨r, Rcloud_Attenuated_0a_of _ _ _ _ _ _ _ _ ?_⟩
    unfold Bcloud_Attenuated_0a
    rw [bif_neg (by omega)]
    rfl
  | n + 1, i, hi, r, acc, hr, ha => by
    obtain ⟨z, hz, hd⟩ := get_drop (l := l) (i := i) (by omega)
    have hs := shr_of (hv z (List.mem_of_getElem? hz))
    have wk : w64 ((i : Int) + 1) = ((i + 1 : Nat) : Int) := by rw [w64_in (by omega)]; omega
    have hp := productA_is hs hr
    have hb1 : (decide (((0 : Int) ≤ (i : Int)) ∧ ((i : Int) < (l.length : Int)))) = true := decide_eq_true ⟨by omega, by omega⟩
    rw [hd]
    simp only [sigsL]
    by_cases hsm : smallF (ownF z r)
    · rw [if_pos hsm] at hp ⊢
      have hra := restAfterA_is hs hr hsm
      have ih := att_gen hl hv n (i + 1) (by omega) (rstF z r) (acc ++ [ownF z r]) (rst_ok hs hr hsm) (by simp; omega)
      have ho := overO_app acc (List.replicate n (0, 0)) (0, 0) (ownF z r)
      rw [ha, ← List.replicate_succ] at ho
      have step : ∀ res, Rcloud_Attenuated_0 (Tcloud_Attenuated_0a l.length l.length (encG l) l.length (i + 1 : Nat) (rstF z r).1 (rstF z r).2 (encG (acc ++ [ownF z r] ++ List.replicate n (0, 0)))) = some res →
          Rcloud_Attenuated_0 (Tcloud_Attenuated_0a l.length l.length (encG l) l.length i r.1 r.2 (encG (acc ++ List.replicate (n + 1) (0, 0)))) = some res := by
        intro res hres
        refine Rcloud_Attenuated_0a_of _ _ _ _ _ _ _ _ ?_
        unfold Bcloud_Attenuated_0a
        rw [bif_pos (by omega)]
        simp only [hb1, cond_true, Int.toNat_natCast, gG0 hz, gG1 hz, intC_int, bindO_val, hp, bne_self_eq_false, cond_false, ho, hra, wk]
        rw [List.append_assoc, List.singleton_append] at hres
        exact hres
      cases hg : sigsL (l.drop (i + 1)) (rstF z r) with
      | none =>
        rw [hg] at ih
        obtain ⟨c, hc⟩ := ih
        exact ⟨c, step _ hc⟩
      | some out =>
        rw [hg] at ih
        obtain ⟨r', hc⟩ := ih
        rw [List.append_assoc acc _ out, List.singleton_append] at hc
        exact ⟨r', step _ hc⟩
    · rw [if_neg hsm] at hp ⊢
      refine ⟨encG (acc ++ List.replicate (n + 1) (0, 0)), Rcloud_Attenuated_0a_of _ _ _ _ _ _ _ _ ?_⟩
      unfold Bcloud_Attenuated_0a
      rw [bif_pos (by omega)]
      simp only [hb1, cond_true, Int.toNat_natCast, gG0 hz, gG1 hz, intC_int, bindO_val, hp, wk]
      rw [bif_ne, if_neg (by omega)]
      rfl
def OkD (l : List ZZ) : Prop := ∀ z ∈ l, z.2 ≤ 9223372036854775807
theorem share1_is (n : Nat) (cs : List PV) (z : ZZ) (hz : z.2 ≤ 9223372036854775807) : Fcloud_Attenuated_1 [.list n cs, .agg [.int .i64 z.1, .int .i64 z.2]] = some (partE z) := by
  refine Fcloud_Attenuated_1_of _ _ _ _ ?_
  unfold tcloud_Attenuated_1
  simp only [partA_is z hz, bindO_val]
theorem fracsA_loop (l : List ZZ) (hl : l.length < 4294967296) (hv : OkD l) : ∀ i, i ≤ l.length →
    Rcloud_itemError_fracs_0 (Tcloud_itemError_fracs_0a l.length (encG l) l.length (encG l) l.length i) = exO (XLcloud_itemError_fracs_0.fn (sumE (findE partE (l.drop i) i))) := by
  refine up_ind _ ?_ ?_
  · refine Rcloud_itemError_fracs_0a_of _ _ _ _ _ _ ?_
    unfold Bcloud_itemError_fracs_0a
    rw [bif_neg (by omega), List.drop_length]
    rfl
  · intro i hi ih
    refine Rcloud_itemError_fracs_0a_of _ _ _ _ _ _ ?_
    unfold Bcloud_itemError_fracs_0a
    obtain ⟨z, hz, hd⟩ := get_drop hi
    have hs := fun n cs => share1_is n cs z (hv z (List.mem_of_getElem? hz))
    rw [bif_pos (by omega), bif_pos (by omega)]
    have wk : w64 ((i : Int) + 1) = ((i + 1 : Nat) : Int) := by rw [w64_in (by omega)]; omega
    simp only [Int.toNat_natCast, gG0 hz, gG1 hz, intC_int, bindO_val, hs, wk]
    rw [bif_pos ⟨by omega, by show (i : Int) ≤ (l.length : Int); omega⟩, bif_pos (by right; rw [encG_len]; omega)]
    rw [hd, bif_ne]
    by_cases he : partE z = 0
    · rw [if_pos he]
      simp only [findE, he, ne_eq, not_true_eq_false, if_false]
      exact ih
    · rw [if_neg he]
      simp only [findE, ne_eq, he, not_false_eq_true, if_true]
      rfl
def chkS (l : List ZZ) : Int × Int := if l.length = 0 then (0, 10) else if 24 < l.length then (0, 8) else (findE partE l 0).getD (0, 0)
theorem filledS_is (l : List ZZ) (hl : l.length < 4294967296) (hv : OkD l) : Fcloud_filledError_fracs [.list l.length (encG l), .int .i64 24, .fn 73 []] = some (chkS l) := by
  have h1 : Fcloud_itemError_fracs [.list l.length (encG l), .fn 73 []] = some ((findE partE l 0).getD (0, 0)) := by
    refine Fcloud_itemError_fracs_of _ _ ?_
    unfold tcloud_itemError_fracs
    have := lpO_of Icloud_itemError_fracs_0 XIcloud_itemError_fracs_0 (fracsA_loop l hl hv 0 (by omega))
    have this : Lcloud_itemError_fracs_0 (Tcloud_itemError_fracs_0a l.length (encG l) l.length (encG l) l.length 0) = _ := this
    rw [this]
    simp only [bindO_val, List.drop_zero]
    cases findE partE l 0 <;> rfl
  have h2 : Fcloud_listError_fracs [.list l.length (encG l), .int .i64 24, .fn 73 []] = some (if 24 < l.length then (0, 8) else (findE partE l 0).getD (0, 0)) := by
    refine Fcloud_listError_fracs_of _ _ _ ?_
    unfold tcloud_listError_fracs
    simp only [h1, bindO_val]
    by_cases h : 24 < l.length
    · rw [bif_pos (by omega), if_pos h]
    · rw [bif_neg (by omega), if_neg h]
  refine Fcloud_filledError_fracs_of _ _ _ ?_
  unfold tcloud_filledError_fracs chkS
  simp only [h2, bindO_val, bif_eq]
  by_cases h : l.length = 0
  · rw [if_pos (by omega), if_pos h]
  · rw [if_neg (by omega), if_neg h]
theorem chkS_ok {l : List ZZ} (h : (chkS l).2 = 0) : 1 ≤ l.length ∧ l.length ≤ 24 ∧ ∀ z ∈ l, partE z = 0 := by
  unfold chkS at h
  by_cases h1 : l.length = 0
  · rw [if_pos h1] at h
    cases h
  · rw [if_neg h1] at h
    by_cases h2 : 24 < l.length
    · rw [if_pos h2] at h
      cases h
    · rw [if_neg h2] at h
      refine ⟨by omega, by omega, fun z hz => ?_⟩
      cases hf : findE partE l 0 with
      | none => exact findE_none hf z hz
      | some p =>
        rw [hf] at h
        exact absurd h (findE_some hf).1
def attE (l : List ZZ) (c : Int) : Int := both (chkS l).2 (rangeE c 1 1000000)
def attR (l : List ZZ) (c : Int) : (Nat × List PV) × Int := if attE l c ≠ 0 then ((0, []), attE l c) else match sigsL l (c, 1) with
  | some out => ((l.length, encG out), 0)
  | none => ((0, []), 8)
theorem attenuatedA_is (l : List ZZ) (hl : l.length < 4294967296) (hv : OkD l) (c : Int) : Fcloud_Attenuated [.list l.length (encG l), .int .i64 c] = some (attR l c) := by
  refine Fcloud_Attenuated_of _ _ _ ?_
  unfold tcloud_Attenuated attR
  simp only [filledS_is l hl hv, constantError_is, firstError2_is, bindO_val]
  rw [bif_ne]
  have hdef : both (chkS l).2 (rangeE c 1 1000000) = attE l c := rfl
  rw [hdef]
  by_cases h : attE l c = 0
  · rw [if_pos h, if_neg (c := attE l c ≠ 0) (by simp [h])]
    obtain ⟨ha, hb⟩ := both_nil h
    obtain ⟨b1, b2, b3⟩ := chkS_ok ha
    have hc := rangeE_ok hb
    have hr : RstOK (c, 1) := ⟨by show 0 ≤ c ∧ c ≤ _; omega, by show (0 : Int) < 1 ∧ (1 : Int) ≤ _; omega, by simp [Int.gcd]⟩
    have hq := att_gen (l := l) (by omega) b3 l.length 0 (by omega) (c, 1) [] hr rfl
    rw [List.drop_zero, List.nil_append, ← rep_G] at hq
    rw [bif_pos (by first | (unfold big; omega) | exact ⟨trivial, by omega, by unfold big; omega⟩)]
    simp only [Int.toNat_natCast]
    cases hs : sigsL l (c, 1) with
    | none =>
      rw [hs] at hq
      obtain ⟨x, hx⟩ := hq
      have hL := Lcloud_Attenuated_0a_of hx
      have hL : Lcloud_Attenuated_0 (Tcloud_Attenuated_0a l.length l.length (encG l) l.length 0 c 1 (rep [PV.int .i64 0, PV.int .i64 0] l.length)) = _ := hL
      simp only [hL, bindO_val, Sum.elim_inl]
    | some out =>
      rw [hs] at hq
      obtain ⟨x, hx⟩ := hq
      have hL := Lcloud_Attenuated_0b_of hx
      have hL : Lcloud_Attenuated_0 (Tcloud_Attenuated_0a l.length l.length (encG l) l.length 0 c 1 (rep [PV.int .i64 0, PV.int .i64 0] l.length)) = _ := hL
      have hlen := sigsL_len _ _ _ hs
      simp only [hL, bindO_val, Sum.elim_inr]
      rw [List.nil_append, bif_pos (by rw [encG_len]; omega), List.drop_zero, List.take_of_length_le (by rw [encG_len]; omega)]
  · rw [if_neg h, if_pos (c := attE l c ≠ 0) h]
end Gv

/- The reference's signals and spans. -/
namespace Gv
open Go
set_option maxRecDepth 100000
theorem refShErr_loop (l : List ZZ) (hl : l.length < 4294967296) (hv : OkD l) : ∀ i, i ≤ l.length →
    Rr_SharesErr_0 (Tr_SharesErr_0a l.length (encG l) i) = (match findE partE (l.drop i) i with | some q => exO (Xr_SharesErr_0a q.2) | none => exO (Xr_SharesErr_0b ())) := by
  refine up_ind _ ?_ ?_
  · rw [List.drop_length]
    show _ = exO (Xr_SharesErr_0b ())
    refine Rr_SharesErr_0a_of _ _ _ ?_
    unfold Br_SharesErr_0a
    rw [bif_neg (by omega)]
    rfl
  · intro i hi ih
    obtain ⟨z, hz, hd⟩ := get_drop hi
    have hp := refPartA_is z (hv z (List.mem_of_getElem? hz))
    have wk : w64 ((i : Int) + 1) = ((i + 1 : Nat) : Int) := by rw [w64_in (by omega)]; omega
    rw [hd]
    by_cases he : partE z = 0
    · simp only [findE, he, ne_eq, not_true_eq_false, if_false]
      have step : ∀ r, Rr_SharesErr_0 (Tr_SharesErr_0a l.length (encG l) (i + 1 : Nat)) = some r → Rr_SharesErr_0 (Tr_SharesErr_0a l.length (encG l) i) = some r := by
        intro r hr
        refine Rr_SharesErr_0a_of _ _ _ ?_
        unfold Br_SharesErr_0a
        rw [bif_pos (by omega), bif_pos (by omega)]
        simp only [Int.toNat_natCast, gG0 hz, gG1 hz, intC_int, bindO_val, hp, he, wk]
        exact hr
      cases hf : findE partE (l.drop (i + 1)) (i + 1) with
      | none => rw [hf] at ih; exact step _ ih
      | some q => rw [hf] at ih; exact step _ ih
    · simp only [findE, ne_eq, he, not_false_eq_true, if_true]
      refine Rr_SharesErr_0a_of _ _ _ ?_
      unfold Br_SharesErr_0a
      rw [bif_pos (by omega), bif_pos (by omega)]
      simp only [Int.toNat_natCast, gG0 hz, gG1 hz, intC_int, bindO_val, hp]
      rw [bif_ne, if_neg he]
      rfl
theorem refShErr_is (l : List ZZ) (hl : l.length < 4294967296) (hv : OkD l) : Fr_SharesErr [.list l.length (encG l)] = some (chkS l).2 := by
  refine Fr_SharesErr_of _ _ ?_
  unfold tr_SharesErr chkS
  rw [bif_eq, bif_dec]
  by_cases h1 : l.length = 0
  · rw [if_pos (by omega), if_pos h1]
  · rw [if_neg (by omega), if_neg h1]
    by_cases h2 : 24 < l.length
    · rw [if_pos (by omega), if_pos h2]
    · rw [if_neg (by omega), if_neg h2]
      have hq := refShErr_loop l hl hv 0 (by omega)
      rw [List.drop_zero] at hq
      cases hf : findE partE l 0 with
      | none =>
        rw [hf] at hq
        have := Lr_SharesErr_0b_of (y := ()) hq
        have this : Lr_SharesErr_0 (Tr_SharesErr_0a l.length (encG l) 0) = _ := this
        rw [this]
        rfl
      | some q =>
        rw [hf] at hq
        have := Lr_SharesErr_0a_of hq
        have this : Lr_SharesErr_0 (Tr_SharesErr_0a l.length (encG l) 0) = _ := this
        rw [this]
        rfl
theorem isSmall_is (z : ZZ) : Fb_IsSmall [.agg [.int .i64 z.1, .int .i64 z.2]] = some (decide ((-1000000000 ≤ z.1 ∧ z.1 ≤ 1000000000) ∧ 1 ≤ z.2 ∧ z.2 ≤ 1000000000)) := by
  refine Fb_IsSmall_of _ _ ?_
  unfold tb_IsSmall
  simp only [within_is, bindO_val]
  by_cases h1 : -1000000000 ≤ z.1 ∧ z.1 ≤ 1000000000
  · rw [bif_pos h1]
    by_cases h2 : 1 ≤ z.2 ∧ z.2 ≤ 1000000000
    · rw [bif_pos h2, decide_eq_true ⟨h1, h2⟩]
    · rw [bif_neg h2, decide_eq_false (fun h => h2 h.2)]
  · rw [bif_neg h1, decide_eq_false (fun h => h1 h.1)]
theorem ratioFrac_is {z : ZZ} (h : Rl 40000 z) (h0 : 0 ≤ z.1) : Fb_RatioFrac [rP z] = some (if smallF z then (z.1, (z.2, true)) else (0, (0, false))) := by
  refine Fb_RatioFrac_of (wR z.1).1 (wR z.1).2.1 (wR z.1).2.2 (wR z.2).1 (wR z.2).2.1 (wR z.2).2.2 ?_
  unfold tb_RatioFrac
  obtain ⟨a, b, c⟩ := h
  have i1 := WideInt_is a
  have i2 := WideInt_is b
  simp only [wP_fold, i1, i2, bindO_val]
  by_cases h1 : z.1.natAbs < 1000000000000000000
  · rw [if_pos h1, cond_true]
    by_cases h2 : z.2.natAbs < 1000000000000000000
    · rw [if_pos h2, cond_true]
      have hs := isSmall_is z
      simp only [hs, bindO_val]
      by_cases h3 : smallF z
      · have := h3.1
        have := h3.2
        rw [if_pos h3, bif_pos (by omega)]
      · rw [if_neg h3, bif_neg (fun hh => h3 ⟨hh.1.2, hh.2.2⟩)]
    · rw [if_neg h2, cond_false, if_neg (fun hh => by have := hh.2; omega)]
  · have hn : ¬ smallF z := fun hh => by have := hh.1; omega
    rw [if_neg h1, cond_false, if_neg hn]
    by_cases h2 : z.2.natAbs < 1000000000000000000
    · rw [if_pos h2]; rfl
    · rw [if_neg h2]; rfl
theorem Rl_shr {z : ZZ} (h : ShrOK z) : Rl 3 z := by
  have h1 := h.den
  have h2 := h.num
  exact ⟨Wl.small (by omega), Wl.small (by omega), h1.1⟩
theorem Rl_rst {z : ZZ} (h : RstOK z) : Rl 3 z := by
  have h1 := h.den
  have h2 := h.num
  exact ⟨Wl.small (by omega), Wl.small (by omega), h1.1⟩
theorem own_l {z r : ZZ} (hz : ShrOK z) (hr : RstOK r) : Rl 6 (ownF z r) := by
  obtain ⟨a1, a2, a3⟩ := Rl_shr hz
  obtain ⟨b1, b2, b3⟩ := Rl_rst hr
  unfold ownF
  rw [← lowR_eq]
  exact lowR_l (k := 6) (a1.mul b1) (a2.mul b2) (Int.mul_pos a3 b3)
theorem gate_is {z r : ZZ} (hz : ShrOK z) (hr : RstOK r) :
    Fb_RatioFrom [.agg [.int .i64 z.1, .int .i64 z.2]] = some (rR z) ∧
    Fb_RatioMul [rP z, rP r] = some (rR (ownF z r)) ∧
    Fb_RatioFrac [rP (ownF z r)] = some (if smallF (ownF z r) then ((ownF z r).1, ((ownF z r).2, true)) else (0, (0, false))) ∧
    Fb_RatioSub [rP r, rP (ownF z r)] = some (rR (rstF z r)) := by
  have hzd := hz.den
  have hzn := hz.num
  have h1 := RatioFrom_is (n := z.1) (d := z.2) (by omega) (by omega)
  rw [lowR_eq, lowF_cop hz.cop] at h1
  have h2 := RatioMul_is ((Rl_shr hz).mono (m := 10000) (by omega)) ((Rl_rst hr).mono (m := 10000) (by omega))
  rw [lowR_eq] at h2
  have ho := own_l hz hr
  have h3 := ratioFrac_is (ho.mono (m := 40000) (by omega)) (own_ok hz hr).1
  have h4 := RatioSub_is ((Rl_rst hr).mono (m := 9000) (by omega)) (ho.mono (m := 9000) (by omega))
  rw [lowR_eq] at h4
  exact ⟨h1, h2, h3, h4⟩
theorem sig_gen {l : List ZZ} (hl : l.length ≤ 1000) (hv : ∀ z ∈ l, partE z = 0) : ∀ (n i : Nat), i + n = l.length → ∀ (r : ZZ) (acc : List ZZ), RstOK r → acc.length ≤ 100000 + i →
    match sigsL (l.drop i) r with
    | some out => ∃ r' : ZZ, Rr_Signals_0 (Tr_Signals_0b l.length (encG l) acc.length (encG acc) i (rR r).1 (rR r).2.1.1 (rR r).2.1.2 (rR r).2.2.1 (rR r).2.2.2.1 (rR r).2.2.2.2 acc.length) = exO (Xr_Signals_0d ((acc ++ out).length, encG (acc ++ out), (rR r').1, (rR r').2.1.1, (rR r').2.1.2, (rR r').2.2.1, (rR r').2.2.2.1, (rR r').2.2.2.2, (acc ++ out).length))
    | none => ∃ c, Rr_Signals_0 (Tr_Signals_0b l.length (encG l) acc.length (encG acc) i (rR r).1 (rR r).2.1.1 (rR r).2.1.2 (rR r).2.2.1 (rR r).2.2.2.1 (rR r).2.2.2.2 acc.length) = exO (Xr_Signals_0c c)
  | 0, i, hi, r, acc, hr, ha => by
    rw [List.drop_eq_nil_of_le (by omega)]
    refine ⟨r, Rr_Signals_0b_of _ _ _ _ _ _ _ _ _ _ _ _ ?_⟩
    unfold Br_Signals_0b
    rw [bif_neg (by omega), List.append_nil]
    rfl
  | n + 1, i, hi, r, acc, hr, ha => by
    obtain ⟨z, hz, hd⟩ := get_drop (l := l) (i := i) (by omega)
    have hs := shr_of (hv z (List.mem_of_getElem? hz))
    obtain ⟨g1, g2, g3, g4⟩ := gate_is hs hr
    have wk : w64 ((i : Int) + 1) = ((i + 1 : Nat) : Int) := by rw [w64_in (by omega)]; omega
    rw [hd]
    simp only [sigsL]
    by_cases hsm : smallF (ownF z r)
    · rw [if_pos hsm] at g3 ⊢
      have ih := sig_gen hl hv n (i + 1) (by omega) (rstF z r) (acc ++ [ownF z r]) (rst_ok hs hr hsm) (by simp; omega)
      have hbg : acc.length + 1 ≤ big := by unfold big; omega
      have step : ∀ res, Rr_Signals_0 (Tr_Signals_0b l.length (encG l) (acc ++ [ownF z r]).length (encG (acc ++ [ownF z r])) (i + 1 : Nat) (rR (rstF z r)).1 (rR (rstF z r)).2.1.1 (rR (rstF z r)).2.1.2 (rR (rstF z r)).2.2.1 (rR (rstF z r)).2.2.2.1 (rR (rstF z r)).2.2.2.2 (acc ++ [ownF z r]).length) = some res →
          Rr_Signals_0 (Tr_Signals_0b l.length (encG l) acc.length (encG acc) i (rR r).1 (rR r).2.1.1 (rR r).2.1.2 (rR r).2.2.1 (rR r).2.2.2.1 (rR r).2.2.2.2 acc.length) = some res := by
        intro res hres
        refine Rr_Signals_0b_of _ _ _ _ _ _ _ _ _ _ _ _ ?_
        unfold Br_Signals_0b
        rw [bif_pos (by omega), bif_pos (by omega)]
        simp only [Int.toNat_natCast, gG0 hz, gG1 hz, intC_int, bindO_val, g1, rP_fold, g2, g3, cond_true, g4, wk]
        rw [bif_pos (by first | exact ⟨rfl, hbg⟩ | exact ⟨trivial, hbg⟩)]
        rw [encG_app, List.length_append] at hres
        exact hres
      cases hg : sigsL (l.drop (i + 1)) (rstF z r) with
      | none =>
        rw [hg] at ih
        obtain ⟨c, hc⟩ := ih
        exact ⟨c, step _ hc⟩
      | some out =>
        rw [hg] at ih
        obtain ⟨r', hc⟩ := ih
        rw [List.append_assoc acc _ out, List.singleton_append] at hc
        exact ⟨r', step _ hc⟩
    · rw [if_neg hsm] at g3 ⊢
      refine ⟨acc.length, Rr_Signals_0b_of _ _ _ _ _ _ _ _ _ _ _ _ ?_⟩
      unfold Br_Signals_0b
      rw [bif_pos (by omega), bif_pos (by omega)]
      simp only [Int.toNat_natCast, gG0 hz, gG1 hz, intC_int, bindO_val, g1, rP_fold, g2, g3, cond_false]
      rfl
theorem refSignals_is {l : List ZZ} (h0 : (chkS l).2 = 0) {c : Int} (hc : 1 ≤ c ∧ c ≤ 1000000) : Fr_Signals [.list l.length (encG l), .int .i64 c] = some (match sigsL l (c, 1) with | some out => ((out.length, encG out), true) | none => ((0, []), false)) := by
  obtain ⟨b1, b2, b3⟩ := chkS_ok h0
  have hr : RstOK (c, 1) := ⟨by show 0 ≤ c ∧ c ≤ _; omega, by show (0 : Int) < 1 ∧ (1 : Int) ≤ _; omega, by simp [Int.gcd]⟩
  have hI := RatioInt_is (n := c) (by omega)
  refine Fr_Signals_of _ _ _ ?_
  unfold tr_Signals
  simp only [hI, bindO_val]
  obtain ⟨z, hz, hd⟩ := get_drop (l := l) (i := 0) (by omega)
  rw [List.drop_zero] at hd
  have hs := shr_of (b3 z (List.mem_of_getElem? hz))
  obtain ⟨g1, g2, g3, g4⟩ := gate_is hs hr
  have k0 : (encG l)[0]? = some (.int .i64 z.1) := gG0 hz
  have k1 : (encG l)[1]? = some (.int .i64 z.2) := gG1 hz
  have hsig : sigsL l (c, 1) = if smallF (ownF z (c, 1)) then (sigsL (l.drop 1) (rstF z (c, 1))).map (ownF z (c, 1) :: ·) else none := by
    rw [hd]; rfl
  rw [hsig]
  by_cases hsm : smallF (ownF z (c, 1))
  · rw [if_pos hsm] at g3 ⊢
    have step : ∀ res, Rr_Signals_0 (Tr_Signals_0b l.length (encG l) 1 (encG [ownF z (c, 1)]) (1 : Nat) (rR (rstF z (c, 1))).1 (rR (rstF z (c, 1))).2.1.1 (rR (rstF z (c, 1))).2.1.2 (rR (rstF z (c, 1))).2.2.1 (rR (rstF z (c, 1))).2.2.2.1 (rR (rstF z (c, 1))).2.2.2.2 1) = some res →
        Rr_Signals_0 (Tr_Signals_0a l.length (encG l) (rR (c, 1)).1 (rR (c, 1)).2.1.1 (rR (c, 1)).2.1.2 (rR (c, 1)).2.2.1 (rR (c, 1)).2.2.2.1 (rR (c, 1)).2.2.2.2) = some res := by
      intro res hres
      refine Rr_Signals_0a_of _ _ _ _ _ _ _ _ ?_
      unfold Br_Signals_0a
      rw [bif_pos (by omega), bif_pos (by omega)]
      simp only [k0, k1, intC_int, bindO_val, g1, rP_fold, g2, g3, cond_true, g4]
      exact hres
    have ih := sig_gen (l := l) (by omega) b3 (l.length - 1) 1 (by omega) (rstF z (c, 1)) [ownF z (c, 1)] (rst_ok hs hr hsm) (by simp)
    cases hg : sigsL (l.drop 1) (rstF z (c, 1)) with
    | none =>
      rw [hg] at ih
      obtain ⟨x, hx⟩ := ih
      have hL := Lr_Signals_0c_of (step _ hx)
      simp only [hL, bindO_val, Sum.elim_inr, Sum.elim_inl]
      rfl
    | some out =>
      rw [hg] at ih
      obtain ⟨x, hx⟩ := ih
      have hL := Lr_Signals_0d_of (step _ hx)
      simp only [hL, bindO_val, Sum.elim_inr]
      rfl
  · rw [if_neg hsm] at g3 ⊢
    have hR : Rr_Signals_0 (Tr_Signals_0a l.length (encG l) (rR (c, 1)).1 (rR (c, 1)).2.1.1 (rR (c, 1)).2.1.2 (rR (c, 1)).2.2.1 (rR (c, 1)).2.2.2.1 (rR (c, 1)).2.2.2.2) = exO (Xr_Signals_0a ()) := by
      refine Rr_Signals_0a_of _ _ _ _ _ _ _ _ ?_
      unfold Br_Signals_0a
      rw [bif_pos (by omega), bif_pos (by omega)]
      simp only [k0, k1, intC_int, bindO_val, g1, rP_fold, g2, g3, cond_false]
      rfl
    have hL := Lr_Signals_0a_of (y := ()) hR
    simp only [hL, bindO_val, Sum.elim_inl]
theorem encL4_app (a b : List Cl) : encL4 (a ++ b) = encL4 a ++ encL4 b := by simp [encL4]
theorem spnL_take_succ {l : List Int} {c d : Int} {i : Nat} (hi : i < l.length) : (spnL l c d).take (i + 1) = (spnL l c d).take i ++ [spn l c d i] := by
  rw [List.take_add_one, spnL_get hi]; rfl
theorem refSpans_loop (l : List Int) (hl : l.length ≤ 1000) (c d : Int) : ∀ i, i ≤ l.length →
    Rr_Spans_0 (Tr_Spans_0b l.length (encI l) l.length (encG (shrL l d)) l.length (encG (shrL l c)) i (encL4 ((spnL l c d).take i)) i i) = exO (Xr_Spans_0b (l.length, encL4 (spnL l c d), l.length)) := by
  refine up_ind _ ?_ ?_
  · refine Rr_Spans_0b_of _ _ _ _ _ _ _ _ _ _ ?_
    unfold Br_Spans_0b
    rw [bif_neg (by omega), List.take_of_length_le (by rw [spnL_len]; omega)]
    rfl
  · intro i hi ih
    have wk : w64 ((i : Int) + 1) = ((i + 1 : Nat) : Int) := by rw [w64_in (by omega)]; omega
    have hz := shrL_get (l := l) (c := d) hi
    have hy := shrL_get (l := l) (c := c) hi
    have hbg : i + 1 ≤ big := by unfold big; omega
    have hb1 : (decide (((0 : Int) ≤ (i : Int)) ∧ ((i : Int) < (l.length : Int)))) = true := decide_eq_true ⟨by omega, by omega⟩
    refine Rr_Spans_0b_of _ _ _ _ _ _ _ _ _ _ ?_
    unfold Br_Spans_0b
    rw [bif_pos (by omega)]
    simp only [hb1, cond_true, Int.toNat_natCast, gG0 hz, gG1 hz, gG0 hy, gG1 hy, intC_int, bindO_val, wk]
    rw [bif_pos (by first | exact ⟨rfl, hbg⟩ | exact ⟨trivial, hbg⟩)]
    rw [spnL_take_succ hi, encL4_app] at ih
    exact ih
theorem refSpans_is {l : List Int} (h0 : profE l = 0) {c d : Int} (hc : 1 ≤ c ∧ c ≤ 1000000) (hd : 1 ≤ d ∧ d ≤ 1000000) (hcd : c ≤ d) (h : brkE l c = 0) :
    Fr_Spans [.list l.length (encI l), .agg [.int .i64 c, .int .i64 d]] = some (l.length, encL4 (spnL l c d)) := by
  obtain ⟨b1, b2, hv⟩ := prof_ok h0
  have hk : brkE l d = 0 := by
    have := brk_more (d := d - c) b1 hv (by omega) h
    rw [show c + (d - c) = d by omega] at this
    exact this
  have s1 := refShares_is b1 (by omega) hv (c := d) (by omega) hk
  have s2 := refShares_is b1 (by omega) hv (c := c) (by omega) h
  refine Fr_Spans_of _ _ _ _ ?_
  unfold tr_Spans
  simp only [s1, s2, bindO_val]
  have hR : Rr_Spans_0 (Tr_Spans_0a l.length (encI l) l.length (encG (shrL l d)) l.length (encG (shrL l c)) c d) = exO (Xr_Spans_0b (l.length, encL4 (spnL l c d), l.length)) := by
    refine Rr_Spans_0a_of _ _ _ _ _ _ _ _ ?_
    unfold Br_Spans_0a
    have hz := shrL_get (l := l) (c := d) (i := 0) (by omega)
    have hy := shrL_get (l := l) (c := c) (i := 0) (by omega)
    have g0 : (encG (shrL l d))[0]? = some (.int .i64 (shr l d 0).1) := gG0 hz
    have g1 : (encG (shrL l d))[1]? = some (.int .i64 (shr l d 0).2) := gG1 hz
    have k0 : (encG (shrL l c))[0]? = some (.int .i64 (shr l c 0).1) := gG0 hy
    have k1 : (encG (shrL l c))[1]? = some (.int .i64 (shr l c 0).2) := gG1 hy
    have hpos : (decide (((0 : Int) ≤ (0 : Int)) ∧ ((0 : Int) < (l.length : Int)))) = true := decide_eq_true ⟨by omega, by omega⟩
    rw [bif_pos (by omega)]
    simp only [hpos, cond_true, g0, g1, k0, k1, intC_int, bindO_val]
    have ih := refSpans_loop l (by omega) c d 1 b1
    rw [spnL_take_succ (show 0 < l.length by omega)] at ih
    exact ih
  have hL := Lr_Spans_0b_of hR
  simp only [hL, bindO_val, Sum.elim_inr]
  rw [bif_pos (by first | rfl | trivial)]
theorem same_loop (l : List Cl) (hl : l.length ≤ 1000) : ∀ i, i ≤ l.length →
    Rr_SameSpans_0 (Tr_SameSpans_0a l.length (encL4 l) l.length (encL4 l) i) = exO (Xr_SameSpans_0b ()) := by
  refine up_ind _ ?_ ?_
  · refine Rr_SameSpans_0a_of _ _ _ _ _ ?_
    unfold Br_SameSpans_0a
    rw [bif_neg (by omega)]
    rfl
  · intro i hi ih
    obtain ⟨z, hz, hd⟩ := get_drop hi
    have wk : w64 ((i : Int) + 1) = ((i + 1 : Nat) : Int) := by rw [w64_in (by omega)]; omega
    have hb1 : (decide (((0 : Int) ≤ (i : Int)) ∧ ((i : Int) < (l.length : Int)))) = true := decide_eq_true ⟨by omega, by omega⟩
    refine Rr_SameSpans_0a_of _ _ _ _ _ ?_
    unfold Br_SameSpans_0a
    rw [bif_pos (by omega)]
    simp only [hb1, cond_true, Int.toNat_natCast, Nat.add_assoc, Nat.reduceAdd, getC0 hz, getC1 hz, getC2 hz, getC3 hz, intC_int, bindO_val, wk, beq_self_eq_true, Bool.and_true, Bool.not_true, cond_false]
    exact ih
theorem same_is (l : List Cl) (hl : l.length ≤ 1000) : Fr_SameSpans [.list l.length (encL4 l), .list l.length (encL4 l)] = some true := by
  refine Fr_SameSpans_of _ _ _ _ ?_
  unfold tr_SameSpans
  have hL := Lr_SameSpans_0b_of (y := ()) (same_loop l hl 0 (by omega))
  have hL : Lr_SameSpans_0 (Tr_SameSpans_0a l.length (encL4 l) l.length (encL4 l) 0) = _ := hL
  simp only [bne_self_eq_false, cond_false, hL, bindO_val, Sum.elim_inr]
end Gv
