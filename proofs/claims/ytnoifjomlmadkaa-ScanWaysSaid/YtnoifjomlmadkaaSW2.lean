import Derived.Test.YtnoifjomlmadkaaSH2
import Derived.Test.YtnoifjomlmadkaaSM4
import Derived.Test.YtnoifjomlmadkaaGvYc

/- Ways between directions, as the program and the specification go them. -/
namespace Gv
open Go
set_option maxRecDepth 100000

def Vd (p : ZZ) : Prop := (0 ≤ p.1 ∧ p.1 ≤ 359) ∧ 0 ≤ p.2 ∧ p.2 ≤ 90
/-- The number of steps of azimuth, always upwards; the shorter way round; up and down. -/
def up0 (p q : Int) : Int := (q - p + 360) % 360
def tnN (p q : Int) : Nat := (if up0 p q > 180 then 360 - up0 p q else up0 p q).toNat
def ds (a b : ZZ) : Nat := tnN a.1 b.1 + (b.2 - a.2).natAbs
/-- One step on. -/
def stp (a b : ZZ) : ZZ :=
  if up0 a.1 b.1 > 180 then ((a.1 + 359) % 360, a.2) else if up0 a.1 b.1 > 0 then ((a.1 + 1) % 360, a.2) else if a.2 < b.2 then (a.1, a.2 + 1) else (a.1, a.2 - 1)
def wl (b : ZZ) : Nat → ZZ → List ZZ
  | 0, a => [a]
  | n + 1, a => a :: wl b n (stp a b)
@[simp] theorem wl_len (b : ZZ) : ∀ n a, (wl b n a).length = n + 1
  | 0, _ => rfl
  | n + 1, a => by simp [wl, wl_len b n]

theorem up0_rng {p q : Int} : 0 ≤ up0 p q ∧ up0 p q ≤ 359 := by unfold up0; omega
theorem stp_ok {a b : ZZ} (ha : Vd a) (hb : Vd b) (h : a ≠ b) : Vd (stp a b) ∧ ds (stp a b) b + 1 = ds a b := by
  obtain ⟨x, y⟩ := a
  obtain ⟨z, w⟩ := b
  obtain ⟨⟨h1, h2⟩, h3, h4⟩ := ha
  obtain ⟨⟨k1, k2⟩, k3, k4⟩ := hb
  simp only at h1 h2 h3 h4 k1 k2 k3 k4
  have hne : x ≠ z ∨ y ≠ w := by
    by_cases e : x = z
    · right; intro e2; exact h (by rw [e, e2])
    · exact .inl e
  unfold stp ds tnN up0 Vd
  simp only
  split
  · exact ⟨⟨by simp only; omega, by simp only; omega⟩, by simp only; (repeat' split) <;> omega⟩
  · split
    · exact ⟨⟨by simp only; omega, by simp only; omega⟩, by simp only; (repeat' split) <;> omega⟩
    · split
      · exact ⟨⟨by simp only; omega, by simp only; omega⟩, by simp only; (repeat' split) <;> omega⟩
      · exact ⟨⟨by simp only; omega, by simp only; omega⟩, by simp only; (repeat' split) <;> omega⟩
theorem ds_zero {a b : ZZ} (ha : Vd a) (hb : Vd b) : ds a b = 0 ↔ a = b := by
  obtain ⟨x, y⟩ := a
  obtain ⟨z, w⟩ := b
  obtain ⟨⟨h1, h2⟩, h3, h4⟩ := ha
  obtain ⟨⟨k1, k2⟩, k3, k4⟩ := hb
  simp only at h1 h2 h3 h4 k1 k2 k3 k4
  unfold ds tnN up0
  simp only [Prod.mk.injEq]
  constructor
  · intro h
    split at h <;> constructor <;> omega
  · rintro ⟨rfl, rfl⟩
    split <;> omega
theorem tn_le {p q : Int} : tnN p q ≤ 180 := by
  unfold tnN up0
  split <;> omega
theorem ds_le {a b : ZZ} (ha : Vd a) (hb : Vd b) : ds a b ≤ 270 := by
  have h1 := tn_le (p := a.1) (q := b.1)
  obtain ⟨_, h3, h4⟩ := ha
  obtain ⟨_, k3, k4⟩ := hb
  unfold ds
  omega
theorem tn_comm {p q : Int} : tnN p q = tnN q p := by
  unfold tnN up0
  split <;> split <;> omega
theorem ds_comm {a b : ZZ} : ds a b = ds b a := by
  have := tn_comm (p := a.1) (q := b.1)
  unfold ds
  omega

theorem wl_get0 (b : ZZ) (n : Nat) (a : ZZ) : (wl b n a)[0]? = some a := by cases n <;> rfl
/-- The direction after so many steps. -/
def stpN (b : ZZ) : Nat → ZZ → ZZ
  | 0, a => a
  | n + 1, a => stpN b n (stp a b)
theorem stpN_succ (b : ZZ) : ∀ n a, stpN b (n + 1) a = stp (stpN b n a) b
  | 0, _ => rfl
  | n + 1, a => by
    show stpN b (n + 1) (stp a b) = stp (stpN b n (stp a b)) b
    exact stpN_succ b n (stp a b)
theorem wl_get (b : ZZ) : ∀ (n i : Nat) (a : ZZ), i ≤ n → (wl b n a)[i]? = some (stpN b i a)
  | 0, i, a, h => by rw [show i = 0 by omega]; rfl
  | n + 1, 0, a, _ => rfl
  | n + 1, i + 1, a, h => by
    show (wl b n (stp a b))[i]? = _
    rw [wl_get b n i (stp a b) (by omega)]
    rfl
theorem stpN_ok {a b : ZZ} (ha : Vd a) (hb : Vd b) : ∀ i, i ≤ ds a b → Vd (stpN b i a) ∧ ds (stpN b i a) b + i = ds a b
  | 0, _ => ⟨ha, rfl⟩
  | i + 1, h => by
    obtain ⟨h1, h2⟩ := stpN_ok ha hb i (by omega)
    rw [stpN_succ]
    have hne : stpN b i a ≠ b := by
      intro e
      have := (ds_zero h1 hb).2 e
      omega
    obtain ⟨h3, h4⟩ := stp_ok h1 hb hne
    exact ⟨h3, by omega⟩
theorem stpN_last {a b : ZZ} (ha : Vd a) (hb : Vd b) : stpN b (ds a b) a = b := by
  obtain ⟨h1, h2⟩ := stpN_ok ha hb (ds a b) (Nat.le_refl _)
  exact (ds_zero h1 hb).1 (by omega)

/-! ### The program's steps -/
theorem upA_up0 {p q : Int} (hp : 0 ≤ p ∧ p ≤ 359) (hq : 0 ≤ q ∧ q ≤ 359) : upA p q = up0 p q := upA_in hp hq
theorem stepTowards_is {a b : ZZ} (ha : Vd a) (hb : Vd b) : Fscan_stepTowards [.agg [.int .i64 a.1, .int .i64 a.2], .agg [.int .i64 b.1, .int .i64 b.2]] = some (stp a b) := by
  refine Fscan_stepTowards_of _ _ _ _ ?_
  unfold tscan_stepTowards stp
  obtain ⟨h1, h2⟩ := ha
  obtain ⟨k1, k2⟩ := hb
  simp only [upwards_is, bindO_val, upA_up0 h1 k1]
  have hr := up0_rng (p := a.1) (q := b.1)
  by_cases g1 : up0 a.1 b.1 > 180
  · rw [bif_pos g1, if_pos g1, w64_in (n := a.1 + 360) (by omega), w64_in (by omega), Int.tmod_eq_emod_of_nonneg (by omega), show a.1 + 360 - 1 = a.1 + 359 by omega]
  · rw [bif_neg g1, if_neg g1]
    by_cases g2 : up0 a.1 b.1 > 0
    · rw [bif_pos g2, if_pos g2, w64_in (by omega), Int.tmod_eq_emod_of_nonneg (by omega)]
    · rw [bif_neg g2, if_neg g2]
      by_cases g3 : a.2 < b.2
      · rw [bif_pos g3, if_pos g3, w64_in (by omega)]
      · rw [bif_neg g3, if_neg g3, w64_in (by omega)]

def wayL (a b : ZZ) : List ZZ := wl b (ds a b) a
@[simp] theorem wayL_len (a b : ZZ) : (wayL a b).length = ds a b + 1 := wl_len _ _ _
theorem wayL_get {a b : ZZ} {i : Nat} (h : i ≤ ds a b) : (wayL a b)[i]? = some (stpN b i a) := wl_get _ _ _ _ h
theorem wayL_take {a b : ZZ} {i : Nat} (h : i ≤ ds a b) : encG ((wayL a b).take i) ++ [.int .i64 (stpN b i a).1, .int .i64 (stpN b i a).2] = encG ((wayL a b).take (i + 1)) := by
  rw [List.take_add_one, wayL_get h, encG_app]
  rfl

theorem way_loop {a b : ZZ} (ha : Vd a) (hb : Vd b) (k : Nat) : ∀ i, i ≤ min k (ds a b) →
    Rscan_wayOf_1_0 (Tscan_wayOf_1_0a b.1 b.2 [some 2] k i (encG ((wayL a b).take i)) (stpN b i a).1 (stpN b i a).2) =
      exO (Xscan_wayOf_1_0a ([some 2], k, min k (ds a b) + 1, encG ((wayL a b).take (min k (ds a b) + 1)), (stpN b (min k (ds a b)) a).1, (stpN b (min k (ds a b)) a).2)) := by
  refine up_ind _ ?_ ?_
  · refine Rscan_wayOf_1_0a_of _ _ _ _ _ _ _ _ ?_
    unfold Bscan_wayOf_1_0a
    rw [bif_pos (by omega), show shapeOK [some 2] [PV.agg [PV.int IntKind.i64 (stpN b (min k (ds a b)) a).1, PV.int IntKind.i64 (stpN b (min k (ds a b)) a).2]] = true from rfl, cond_true, wayL_take (by omega)]
    by_cases h : k ≤ ds a b
    · rw [show (min k (ds a b) != k) = false by simp; omega, cond_false]
      rfl
    · rw [show (min k (ds a b) != k) = true by simp; omega, cond_true, show min k (ds a b) = ds a b by omega, stpN_last ha hb]
      simp only [beq_self_eq_true, Bool.and_self, Bool.not_true, cond_false]
      rfl
  · intro i hi ih
    obtain ⟨h1, h2⟩ := stpN_ok ha hb i (by omega)
    have hne : stpN b i a ≠ b := by
      intro e
      have := (ds_zero h1 hb).2 e
      omega
    refine Rscan_wayOf_1_0a_of _ _ _ _ _ _ _ _ ?_
    unfold Bscan_wayOf_1_0a
    rw [bif_pos (by omega), show shapeOK [some 2] [PV.agg [PV.int IntKind.i64 (stpN b i a).1, PV.int IntKind.i64 (stpN b i a).2]] = true from rfl, cond_true, wayL_take (by omega), show (i != k) = true by simp; omega, cond_true]
    have hb2 : (!((stpN b i a).1 == b.1 && ((stpN b i a).2 == b.2 && true))) = true := by
      simp only [Bool.and_true, Bool.not_eq_true', Bool.and_eq_false_imp, beq_iff_eq, beq_eq_false_iff_ne]
      intro e1 e2
      exact hne (Prod.ext e1 e2)
    rw [hb2, cond_true]
    simp only [stepTowards_is h1 hb, bindO_val]
    rw [← stpN_succ]
    exact ih
theorem wayIt_is {a b : ZZ} (ha : Vd a) (hb : Vd b) : Fn env 108 (.one .list) [.it [some 2] 0, .imm [.int .i64 a.1, .int .i64 a.2] 0, .imm [.int .i64 b.1, .int .i64 b.2] 0] = some (ds a b + 1, encG (wayL a b)) := by
  have hd := ds_le ha hb
  refine it_of (by simp only [big]; omega) (by rw [encG_len, wayL_len]; rfl) fun k hk => ?_
  refine Fscan_wayOf_1_of _ _ _ _ _ ?_
  unfold tscan_wayOf_1
  have h := way_loop ha hb k 0 (by omega)
  rw [List.take_zero, encG_nil] at h
  have h : Rscan_wayOf_1_0 (Tscan_wayOf_1_0a b.1 b.2 [some 2] k 0 [] a.1 a.2) = _ := h
  simp only [Lscan_wayOf_1_0a_of h, bindO_val]
  rw [show min (k + 1) (ds a b + 1) * shSize [some 2] = min (k + 1) (ds a b + 1) * 2 from rfl, encG_take, show min (k + 1) (ds a b + 1) = min k (ds a b) + 1 by omega]

/-! ### The specification's way -/
theorem mod_any (n : Int) (h : -9000000000000000000 ≤ n ∧ n ≤ 9000000000000000000) : FB0_Mod [.int .i64 n, .int .i64 360] = some (n % 360) := by
  by_cases h0 : 0 ≤ n
  · exact mod_is n h0
  · obtain ⟨m, rfl⟩ : ∃ m, n = -m := ⟨-n, by omega⟩
    refine FB0_Mod_of _ _ ?_
    unfold tB0_Mod
    rw [bif_pos (by omega), Int.neg_tmod, Int.tmod_eq_emod_of_nonneg (by omega)]
    by_cases h1 : -(m % 360) < 0
    · rw [bif_pos h1, w64_in (by omega)]
      congr 1
      omega
    · rw [bif_neg h1]
      congr 1
      omega
theorem tn_zero {p q : Int} (hp : 0 ≤ p ∧ p ≤ 359) (hq : 0 ≤ q ∧ q ≤ 359) : tnN p q = 0 ↔ p = q := by
  unfold tnN up0
  constructor
  · intro h
    split at h <;> omega
  · rintro rfl
    split <;> omega
theorem stp_az {a b : ZZ} (ha : Vd a) (hb : Vd b) (h : a.1 ≠ b.1) : tnN (stp a b).1 b.1 + 1 = tnN a.1 b.1 ∧ (stp a b).2 = a.2 := by
  obtain ⟨h1, _⟩ := ha
  obtain ⟨k1, _⟩ := hb
  unfold stp
  split
  · refine ⟨?_, rfl⟩
    simp only
    unfold tnN up0 at *
    (repeat' split) <;> omega
  · split
    · refine ⟨?_, rfl⟩
      simp only
      unfold tnN up0 at *
      (repeat' split) <;> omega
    · exfalso
      unfold up0 at *
      omega
theorem stp_el {a b : ZZ} (ha : Vd a) (hb : Vd b) (h : a.1 = b.1) (_ : a.2 ≠ b.2) : stp a b = (a.1, if a.2 < b.2 then a.2 + 1 else a.2 - 1) := by
  have e : up0 a.1 b.1 = 0 := by
    have := ha.1
    have := hb.1
    unfold up0
    omega
  unfold stp
  rw [if_neg (by omega), if_neg (by omega)]
  split <;> rfl
theorem stpN_az {a b : ZZ} (ha : Vd a) (hb : Vd b) : ∀ i, i ≤ tnN a.1 b.1 → tnN (stpN b i a).1 b.1 + i = tnN a.1 b.1 ∧ (stpN b i a).2 = a.2
  | 0, _ => ⟨rfl, rfl⟩
  | i + 1, h => by
    obtain ⟨h1, h2⟩ := stpN_az ha hb i (by omega)
    have hv := (stpN_ok ha hb i (by unfold ds; omega)).1
    have hne : (stpN b i a).1 ≠ b.1 := by
      intro e
      have := (tn_zero hv.1 hb.1).2 e
      omega
    obtain ⟨h3, h4⟩ := stp_az hv hb hne
    rw [stpN_succ]
    exact ⟨by omega, h4.trans h2⟩
theorem stpN_el {a b : ZZ} (ha : Vd a) (hb : Vd b) : ∀ i, tnN a.1 b.1 + i ≤ ds a b → (stpN b (tnN a.1 b.1 + i) a).1 = b.1 ∧ (b.2 - (stpN b (tnN a.1 b.1 + i) a).2).natAbs + i = (b.2 - a.2).natAbs
  | 0, h => by
    obtain ⟨h1, h2⟩ := stpN_az ha hb _ (Nat.le_refl _)
    have hv := (stpN_ok ha hb (tnN a.1 b.1) (by unfold ds; omega)).1
    rw [Nat.add_zero, h2]
    exact ⟨(tn_zero hv.1 hb.1).1 (by omega), rfl⟩
  | i + 1, h => by
    obtain ⟨h1, h2⟩ := stpN_el ha hb i (by omega)
    have hv := (stpN_ok ha hb (tnN a.1 b.1 + i) (by omega)).1
    have hd : ds a b = tnN a.1 b.1 + (b.2 - a.2).natAbs := rfl
    rw [← Nat.add_assoc, stpN_succ, stp_el hv hb h1 (by omega)]
    refine ⟨h1, ?_⟩
    simp only
    split <;> omega

def arN (p q : Int) : Int := if up0 p q > 180 then up0 p q - 360 else up0 p q
theorem around_is {p q : Int} (hp : 0 ≤ p ∧ p ≤ 359) (hq : 0 ≤ q ∧ q ≤ 359) : FR3_Around [.int .i64 p, .int .i64 q] = some (arN p q) := by
  refine FR3_Around_of _ _ ?_
  unfold tR3_Around
  rw [w64_in (n := q - p) (by omega)]
  simp only [mod_any (q - p) (by omega), bindO_val]
  have e : (q - p) % 360 = up0 p q := by unfold up0; omega
  have hr := up0_rng (p := p) (q := q)
  rw [e, w64_in (by omega)]
  unfold arN
  by_cases h : up0 p q > 180
  · rw [bif_pos (by omega), if_pos h, w64_in (by omega)]
  · rw [bif_neg (by omega), if_neg h]

def tW0 (a b : ZZ) (i : Nat) : Q := if i = 0 then TR3_Way_0a a.1 a.2 a.1 a.2 b.1 b.2 a.1 a.2
  else TR3_Way_0b (i + 1) (encG ((wayL a b).take (i + 1))) b.1 b.2 (stpN b i a).1 (stpN b i a).2 (i + 1)
def yW0 (a b : ZZ) (i : Nat) : YR3_Way_0 := if i = 0 then .inl (a.1, a.2, b.1, b.2, a.1, a.2)
  else .inr (i + 1, encG ((wayL a b).take (i + 1)), b.1, b.2, (stpN b i a).1, (stpN b i a).2, i + 1)
theorem wayL_one (a b : ZZ) : encG ((wayL a b).take 1) = [.int .i64 a.1, .int .i64 a.2] := by
  have h := wayL_take (a := a) (b := b) (i := 0) (Nat.zero_le _)
  rw [List.take_zero, encG_nil] at h
  exact h.symm
theorem refWay_az {a b : ZZ} (ha : Vd a) (hb : Vd b) : ∀ i, i ≤ tnN a.1 b.1 → RR3_Way_0 (tW0 a b i) = exO (XLR3_Way_0.fn (yW0 a b (tnN a.1 b.1))) := by
  have hda := ds_le ha hb
  have hdd : ds a b = tnN a.1 b.1 + (b.2 - a.2).natAbs := rfl
  refine up_ind _ ?_ ?_
  · obtain ⟨h1, h2⟩ := stpN_az ha hb _ (Nat.le_refl _)
    have hv := (stpN_ok ha hb (tnN a.1 b.1) (by omega)).1
    have e := (tn_zero hv.1 hb.1).1 (by omega)
    unfold tW0 yW0
    by_cases h0 : tnN a.1 b.1 = 0
    · rw [if_pos h0, if_pos h0]
      have e0 : a.1 = b.1 := (tn_zero ha.1 hb.1).1 h0
      refine RR3_Way_0a_of _ _ _ _ _ _ _ _ ?_
      unfold BR3_Way_0a
      rw [e0, bne_self_eq_false, cond_false]
      rfl
    · rw [if_neg h0, if_neg h0]
      refine RR3_Way_0b_of _ _ _ _ _ _ _ ?_
      unfold BR3_Way_0b
      rw [e, bne_self_eq_false, cond_false]
      rfl
  · intro i hi ih
    obtain ⟨h1, h2⟩ := stpN_az ha hb i (by omega)
    obtain ⟨h3, h4⟩ := stpN_az ha hb (i + 1) (by omega)
    have hv := (stpN_ok ha hb i (by omega)).1
    have hne : (stpN b i a).1 ≠ b.1 := by
      intro e
      have := (tn_zero hv.1 hb.1).2 e
      omega
    have hnb : ((stpN b i a).1 != b.1) = true := by simpa using hne
    have hst : stpN b (i + 1) a = stp (stpN b i a) b := stpN_succ b i a
    have hr := up0_rng (p := (stpN b i a).1) (q := b.1)
    have hupz : ¬ up0 (stpN b i a).1 b.1 = 0 := by
      have := hv.1
      have := hb.1
      unfold up0
      omega
    have step : ∀ r, RR3_Way_0 (TR3_Way_0b (i + 2) (encG ((wayL a b).take (i + 1)) ++ [.int .i64 (stpN b (i + 1) a).1, .int .i64 (stpN b (i + 1) a).2]) b.1 b.2 (stpN b (i + 1) a).1 (stpN b (i + 1) a).2 (i + 2)) = some r → RR3_Way_0 (tW0 a b i) = some r := by
      intro r hr'
      have hv1 := hv.1
      unfold tW0
      by_cases h0 : i = 0
      · subst h0
        rw [if_pos rfl]
        have hst0 : stpN b (0 + 1) a = stp a b := rfl
        rw [hst0, wayL_one] at hr'
        have hne0 : (a.1 != b.1) = true := hnb
        refine RR3_Way_0a_of _ _ _ _ _ _ _ _ ?_
        unfold BR3_Way_0a
        rw [hne0, cond_true]
        simp only [around_is ha.1 hb.1, bindO_val]
        unfold arN
        have ha1 := ha.1
        have hr0 : 0 ≤ up0 a.1 b.1 ∧ up0 a.1 b.1 ≤ 359 := hr
        unfold stp at hr'
        by_cases g : up0 a.1 b.1 > 180
        · rw [if_pos g] at hr' ⊢
          rw [bif_pos (by omega), w64_in (by omega)]
          simp only [mod_any (a.1 + -1) (by omega), bindO_val]
          rw [show (a.1 + -1) % 360 = (a.1 + 359) % 360 by omega]
          exact hr'
        · have g2 : up0 a.1 b.1 > 0 := by
            have : ¬ up0 a.1 b.1 = 0 := hupz
            omega
          rw [if_neg g, if_pos g2] at hr'
          rw [if_neg g, bif_neg (by omega), w64_in (by omega)]
          simp only [mod_any (a.1 + 1) (by omega), bindO_val]
          exact hr'
      · rw [if_neg h0]
        refine RR3_Way_0b_of _ _ _ _ _ _ _ ?_
        unfold BR3_Way_0b
        rw [hnb, cond_true]
        simp only [around_is hv.1 hb.1, bindO_val]
        rw [hst] at hr'
        unfold arN
        unfold stp at hr'
        by_cases g : up0 (stpN b i a).1 b.1 > 180
        · rw [if_pos g] at hr' ⊢
          rw [bif_pos (by omega), w64_in (by omega)]
          simp only [mod_any ((stpN b i a).1 + -1) (by omega), bindO_val]
          rw [bif_pos ⟨trivial, by simp only [big]; omega⟩, show ((stpN b i a).1 + -1) % 360 = ((stpN b i a).1 + 359) % 360 by omega]
          exact hr'
        · have g2 : up0 (stpN b i a).1 b.1 > 0 := by omega
          rw [if_neg g, if_pos g2] at hr'
          rw [if_neg g, bif_neg (by omega), w64_in (by omega)]
          simp only [mod_any ((stpN b i a).1 + 1) (by omega), bindO_val]
          rw [bif_pos ⟨trivial, by simp only [big]; omega⟩]
          exact hr'
    rw [wayL_take (by omega)] at step
    refine step _ ?_
    unfold tW0 at ih
    rw [if_neg (by omega)] at ih
    exact ih

/-- The elevation's loop, from the azimuth's end. -/
def elN (a b : ZZ) : Nat := (b.2 - a.2).natAbs
theorem ds_eq (a b : ZZ) : ds a b = tnN a.1 b.1 + elN a b := rfl
theorem el_now {a b : ZZ} (ha : Vd a) (hb : Vd b) {i : Nat} (h : i ≤ elN a b) : (stpN b (tnN a.1 b.1 + i) a).1 = b.1 ∧ (b.2 - (stpN b (tnN a.1 b.1 + i) a).2).natAbs + i = elN a b := stpN_el ha hb i (by rw [ds_eq]; omega)
theorem el_step {a b : ZZ} (ha : Vd a) (hb : Vd b) {i : Nat} (h : i < elN a b) :
    (stpN b (tnN a.1 b.1 + (i + 1)) a) = ((stpN b (tnN a.1 b.1 + i) a).1, if (stpN b (tnN a.1 b.1 + i) a).2 < b.2 then (stpN b (tnN a.1 b.1 + i) a).2 + 1 else (stpN b (tnN a.1 b.1 + i) a).2 - 1) ∧ ((stpN b (tnN a.1 b.1 + i) a).2 != b.2) = true ∧ Vd (stpN b (tnN a.1 b.1 + i) a) := by
  obtain ⟨h1, h2⟩ := el_now ha hb (i := i) (by omega)
  have hv := (stpN_ok ha hb (tnN a.1 b.1 + i) (by rw [ds_eq]; omega)).1
  have hne : (stpN b (tnN a.1 b.1 + i) a).2 ≠ b.2 := by omega
  rw [← Nat.add_assoc, stpN_succ, stp_el hv hb h1 hne]
  exact ⟨rfl, by simpa using hne, hv⟩

/-- From a list that was appended to (block 31: in the azimuth's loop). -/
theorem refWay_c {a b : ZZ} (ha : Vd a) (hb : Vd b) : ∀ i, i ≤ elN a b →
    RR3_Way_2 (TR3_Way_2c (tnN a.1 b.1 + i + 1) (encG ((wayL a b).take (tnN a.1 b.1 + i + 1))) b.1 b.2 (stpN b (tnN a.1 b.1 + i) a).1 (stpN b (tnN a.1 b.1 + i) a).2 (tnN a.1 b.1 + i + 1)) =
      exO (XLR3_Way_2.fn (.inr (.inr (ds a b + 1, encG (wayL a b), b.1, b.2, b.1, b.2, ds a b + 1)))) := by
  have hdl := ds_le ha hb
  refine up_ind _ ?_ ?_
  · refine RR3_Way_2c_of _ _ _ _ _ _ _ ?_
    unfold BR3_Way_2c
    have e : stpN b (tnN a.1 b.1 + elN a b) a = b := stpN_last ha hb
    rw [e, bne_self_eq_false, cond_false, ← ds_eq, List.take_of_length_le (by rw [wayL_len]; omega)]
    rfl
  · intro i hi ih
    obtain ⟨h1, h2, h3⟩ := el_step ha hb hi
    refine RR3_Way_2c_of _ _ _ _ _ _ _ ?_
    unfold BR3_Way_2c
    have hh : tnN a.1 b.1 + i + 1 ≤ ds a b := by rw [ds_eq]; omega
    have ht := wayL_take (a := a) (b := b) (i := tnN a.1 b.1 + i + 1) hh
    rw [← Nat.add_assoc] at ih
    rw [show tnN a.1 b.1 + (i + 1) = tnN a.1 b.1 + i + 1 by omega] at h1
    rw [h1] at ht ih
    obtain ⟨h31, h32, h33⟩ := h3
    rw [h2, cond_true]
    by_cases g : (stpN b (tnN a.1 b.1 + i) a).2 < b.2
    · rw [if_pos g] at ht ih
      rw [bif_pos g, bif_pos ⟨rfl, by simp only [big]; omega⟩, w64_in (by omega), ht]
      exact ih
    · rw [if_neg g] at ht ih
      rw [bif_neg g, bif_pos ⟨rfl, by simp only [big]; omega⟩, w64_in (by omega), ht]
      exact ih

/-- From the list of one direction. -/
def tW2 (a b : ZZ) (i : Nat) : Q := if i = 0 then TR3_Way_2a a.1 a.2 b.1 b.2 a.1 a.2
  else TR3_Way_2b (i + 1) (encG ((wayL a b).take (i + 1))) b.1 b.2 (stpN b i a).1 (stpN b i a).2 (i + 1)
def yW2 (a b : ZZ) (i : Nat) : YR3_Way_2 := if i = 0 then .inl (a.1, a.2, b.1, b.2, a.1, a.2)
  else .inr (.inl (i + 1, encG ((wayL a b).take (i + 1)), b.1, b.2, (stpN b i a).1, (stpN b i a).2, i + 1))
theorem refWay_ab {a b : ZZ} (ha : Vd a) (hb : Vd b) (h0 : tnN a.1 b.1 = 0) : ∀ i, i ≤ elN a b → RR3_Way_2 (tW2 a b i) = exO (XLR3_Way_2.fn (yW2 a b (elN a b))) := by
  have hdl := ds_le ha hb
  have hde : ds a b = elN a b := by rw [ds_eq]; omega
  refine up_ind _ ?_ ?_
  · have e : stpN b (elN a b) a = b := by rw [← hde]; exact stpN_last ha hb
    unfold tW2 yW2
    by_cases hz : elN a b = 0
    · rw [if_pos hz, if_pos hz]
      have e2 : a.2 = b.2 := by unfold elN at hz; omega
      refine RR3_Way_2a_of _ _ _ _ _ _ ?_
      unfold BR3_Way_2a
      rw [e2, bne_self_eq_false, cond_false]
      rfl
    · rw [if_neg hz, if_neg hz]
      refine RR3_Way_2b_of _ _ _ _ _ _ _ ?_
      unfold BR3_Way_2b
      rw [e, bne_self_eq_false, cond_false]
      rfl
  · intro i hi ih
    obtain ⟨h1, h2, h3⟩ := el_step ha hb hi
    rw [h0, Nat.zero_add, Nat.zero_add] at h1
    rw [h0, Nat.zero_add] at h2 h3
    obtain ⟨h31, h32, h33⟩ := h3
    unfold tW2 at ih
    rw [if_neg (by omega), ← wayL_take (by omega), h1] at ih
    unfold tW2
    by_cases hz : i = 0
    · subst hz
      rw [if_pos rfl]
      have h2 : (a.2 != b.2) = true := h2
      have h32 : 0 ≤ a.2 := h32
      have h33 : a.2 ≤ 90 := h33
      have ih : RR3_Way_2 (TR3_Way_2b 2 (encG ((wayL a b).take 1) ++ [.int .i64 a.1, .int .i64 (if a.2 < b.2 then a.2 + 1 else a.2 - 1)]) b.1 b.2 a.1 (if a.2 < b.2 then a.2 + 1 else a.2 - 1) 2) = _ := ih
      rw [wayL_one] at ih
      refine RR3_Way_2a_of _ _ _ _ _ _ ?_
      unfold BR3_Way_2a
      rw [h2, cond_true]
      by_cases g : a.2 < b.2
      · rw [if_pos g] at ih
        rw [bif_pos g, w64_in (by omega)]
        exact ih
      · rw [if_neg g] at ih
        rw [bif_neg g, w64_in (by omega)]
        exact ih
    · rw [if_neg hz]
      refine RR3_Way_2b_of _ _ _ _ _ _ _ ?_
      unfold BR3_Way_2b
      rw [h2, cond_true]
      by_cases g : (stpN b i a).2 < b.2
      · rw [if_pos g] at ih
        rw [bif_pos g, bif_pos ⟨rfl, by simp only [big]; omega⟩, w64_in (by omega)]
        exact ih
      · rw [if_neg g] at ih
        rw [bif_neg g, bif_pos ⟨rfl, by simp only [big]; omega⟩, w64_in (by omega)]
        exact ih

theorem refWay_is {a b : ZZ} (ha : Vd a) (hb : Vd b) : FR3_Way [.agg [.int .i64 a.1, .int .i64 a.2], .agg [.int .i64 b.1, .int .i64 b.2]] = some (ds a b + 1, encG (wayL a b)) := by
  refine FR3_Way_of _ _ _ _ ?_
  unfold tR3_Way
  have h1 := refWay_az ha hb 0 (Nat.zero_le _)
  unfold tW0 yW0 at h1
  rw [if_pos rfl] at h1
  by_cases h0 : tnN a.1 b.1 = 0
  · rw [if_pos h0] at h1
    have l1 := LR3_Way_0a_of h1
    have h2 := refWay_ab ha hb h0 0 (Nat.zero_le _)
    have hde : ds a b = elN a b := by rw [ds_eq]; omega
    unfold tW2 yW2 at h2
    rw [if_pos rfl] at h2
    by_cases hz : elN a b = 0
    · rw [if_pos hz] at h2
      have l2 := LR3_Way_2a_of h2
      simp only [l1, l2, bindO_val, Sum.elim_inl]
      rw [hde, hz, ← wayL_one a b, List.take_of_length_le (by rw [wayL_len]; omega)]
    · rw [if_neg hz] at h2
      have l2 := LR3_Way_2b_of h2
      simp only [l1, l2, bindO_val, Sum.elim_inl, Sum.elim_inr]
      rw [bif_pos trivial, hde, List.take_of_length_le (by rw [wayL_len]; omega)]
  · rw [if_neg h0] at h1
    have l1 := LR3_Way_0b_of h1
    have h2 := refWay_c ha hb 0 (Nat.zero_le _)
    have l2 := LR3_Way_2c_of h2
    simp only [Nat.add_zero] at l2
    simp only [l1, l2, bindO_val, Sum.elim_inr]
    rw [bif_pos trivial]

/-! ### How long a move takes -/
theorem size_is {x : Int} (h : -9000000000000000000 ≤ x ∧ x ≤ 9000000000000000000) : FB0_Size [.int .i64 x] = some (x.natAbs : Int) := by
  refine FB0_Size_of _ ?_
  unfold tB0_Size
  rw [w64_in (by omega)]
  split
  · congr 1; omega
  · congr 1; omega
theorem ar_size {p q : Int} : ((arN p q).natAbs : Int) = (tnN p q : Int) := by
  have := up0_rng (p := p) (q := q)
  unfold arN tnN
  split <;> omega
theorem distances_is {a b : ZZ} (ha : Vd a) (hb : Vd b) : Fscan_distances [.agg [.int .i64 a.1, .int .i64 a.2], .agg [.int .i64 b.1, .int .i64 b.2]] = some ((tnN a.1 b.1 : Int), (elN a b : Int)) := by
  refine Fscan_distances_of _ _ _ _ ?_
  unfold tscan_distances
  obtain ⟨h1, h2⟩ := ha
  obtain ⟨k1, k2⟩ := hb
  simp only [upwards_is, bindO_val, upA_up0 h1 k1, upA_up0 k1 h1]
  rw [w64_in (n := b.2 - a.2) (by omega), w64_in (n := a.2 - b.2) (by omega)]
  have e1 : (if up0 b.1 a.1 < up0 a.1 b.1 then up0 b.1 a.1 else up0 a.1 b.1) = (tnN a.1 b.1 : Int) := by
    unfold tnN up0
    (repeat' split) <;> omega
  have e2 : (if b.2 - a.2 > a.2 - b.2 then b.2 - a.2 else a.2 - b.2) = (elN a b : Int) := by
    unfold elN
    split <;> omega
  rw [e1, e2]
def HdD (h : Hd) : Prop := ((1 ≤ h.r1 ∧ h.r1 ≤ 30) ∧ 1 ≤ h.a1 ∧ h.a1 ≤ 30) ∧ (1 ≤ h.r2 ∧ h.r2 ≤ 30) ∧ 1 ≤ h.a2 ∧ h.a2 ≤ 30
theorem moves_are {h : Hd} (hh : HdD h) {a b : ZZ} (ha : Vd a) (hb : Vd b) : ∃ T1 T2 : Nat, T1 ≤ 360 ∧ T2 ≤ 360 ∧
    Fscan_ticksFor [.agg [.int .i64 h.r1, .int .i64 h.a1], .int .i64 (tnN a.1 b.1 : Int)] = some (T1 : Int) ∧ Fscan_ticksFor [.agg [.int .i64 h.r2, .int .i64 h.a2], .int .i64 (elN a b : Int)] = some (T2 : Int) ∧
    Fscan_moveTicks [encH h, .agg [.int .i64 a.1, .int .i64 a.2], .agg [.int .i64 b.1, .int .i64 b.2]] = some (((T1 + T2 : Nat)) : Int) ∧
    FR3_Move [encH h, .agg [.int .i64 a.1, .int .i64 a.2], .agg [.int .i64 b.1, .int .i64 b.2]] = some (((T1 + T2 : Nat)) : Int) := by
  have ht := tn_le (p := a.1) (q := b.1)
  have he : elN a b ≤ 90 := by
    have := ha.2
    have := hb.2
    unfold elN
    omega
  obtain ⟨T1, t1, f1, g1, _⟩ := ticks_are hh.1.1 hh.1.2 (d := (tnN a.1 b.1 : Int)) (by omega)
  obtain ⟨T2, t2, f2, g2, _⟩ := ticks_are hh.2.1 hh.2.2 (d := (elN a b : Int)) (by omega)
  refine ⟨T1, T2, t1, t2, f1, f2, Fscan_moveTicks_of _ _ _ _ _ _ _ _ _ _ _ _ ?_, FR3_Move_of _ _ _ _ _ _ _ _ _ _ _ _ ?_⟩
  · unfold tscan_moveTicks
    simp only [distances_is ha hb, bindO_val, f1, f2]
    rw [w64_in (by omega), Int.natCast_add]
  · unfold tR3_Move
    have hs := size_is (x := arN a.1 b.1) (by have := up0_rng (p := a.1) (q := b.1); unfold arN; split <;> omega)
    have hs2 := size_is (x := b.2 - a.2) (by have := ha.2; have := hb.2; omega)
    rw [ar_size] at hs
    have e2 : ((b.2 - a.2).natAbs : Int) = (elN a b : Int) := rfl
    rw [e2] at hs2
    rw [w64_in (n := b.2 - a.2) (by have := ha.2; have := hb.2; omega)]
    simp only [around_is ha.1 hb.1, hs, hs2, bindO_val, g1, g2]
    rw [w64_in (by omega), Int.natCast_add]

/-! ### What is lit on a way -/
theorem encG_00 (l : List ZZ) (i : Nat) : (encG l)[i * 2 + 0]? = l[i]?.map fun z => PV.int .i64 z.1 := encG_0 l i
theorem encG_01 (l : List ZZ) (i : Nat) : (encG l)[i * 2 + 0 + 1]? = l[i]?.map fun z => PV.int .i64 z.2 := encG_1 l i
def fst1 (h : Hd) (l : List ZZ) : Option ZZ := l.find? fun d => anyR h d.1 d.2
theorem first_loop (h : Hd) (hl : h.l.length < 4294967296) (a b : ZZ) (l : List ZZ) (hn : l.length < 4294967296) : ∀ i, i ≤ l.length →
    Rscan_firstReserved_3000018 (Tscan_firstReserved_3000018a l.length (encG l) (i : Int) h.x h.y h.r1 h.a1 h.r2 h.a2 h.l.length (encS h.l) a.1 a.2 b.1 b.2) =
      exO (XLscan_firstReserved_3000018.fn (match fst1 h (l.drop i) with | some d => .inl d | none => .inr (h.x, h.y, h.r1, h.a1, h.r2, h.a2, h.l.length, encS h.l, a.1, a.2, b.1, b.2))) := by
  refine up_ind _ ?_ ?_
  · rw [List.drop_of_length_le (Nat.le_refl _)]
    refine Rscan_firstReserved_3000018a_of _ _ _ _ _ _ _ _ _ _ _ _ _ _ _ ?_
    unfold Bscan_firstReserved_3000018a
    rw [bif_neg (by omega)]
    rfl
  · intro i hi ih
    obtain ⟨d, hd, hdr⟩ := get_drop hi
    refine Rscan_firstReserved_3000018a_of _ _ _ _ _ _ _ _ _ _ _ _ _ _ _ ?_
    unfold Bscan_firstReserved_3000018a
    rw [bif_pos (by omega), bif_pos (by omega)]
    simp only [Int.toNat_natCast, encG_00, encG_01, hd, Option.map_some, intC_int, isReservedP_is h d.1 d.2 hl, bindO_val]
    rw [hdr]
    unfold fst1 at ih ⊢
    rw [List.find?_cons]
    cases hb : anyR h d.1 d.2
    · rw [cond_false, w64_in (by omega)]
      exact ih
    · rw [cond_true]
      rfl
def darkB (h : Hd) (a b : ZZ) : Bool := (fst1 h (wayL a b)).isNone
theorem isDarkP_is (h : Hd) (hl : h.l.length < 4294967296) {a b : ZZ} (ha : Vd a) (hb : Vd b) : Fscan_isDark [encH h, .agg [.int .i64 a.1, .int .i64 a.2], .agg [.int .i64 b.1, .int .i64 b.2]] = some (darkB h a b) := by
  have hdl := ds_le ha hb
  have hh := first_loop h hl a b (wayL a b) (by rw [wayL_len]; omega) 0 (Nat.zero_le _)
  rw [List.drop_zero, wayL_len, show ((0 : Nat) : Int) = 0 from rfl] at hh
  refine Fscan_isDark_of _ _ _ _ _ _ _ _ _ _ _ _ ?_
  unfold tscan_isDark
  have hf : ∃ r, Fscan_firstReserved [encH h, .agg [.int .i64 a.1, .int .i64 a.2], .agg [.int .i64 b.1, .int .i64 b.2]] = some r ∧ r.2.2 = !darkB h a b := by
    unfold darkB
    cases hf : fst1 h (wayL a b) with
    | none =>
      rw [hf] at hh
      have l := Lscan_firstReserved_3000018b_of hh
      refine ⟨_, Fscan_firstReserved_of _ _ _ _ _ _ _ _ _ _ _ _ (res := (0, 0, false)) ?_, rfl⟩
      unfold tscan_firstReserved
      simp only [wayIt_is ha hb, bindO_val, l, Sum.elim_inr]
    | some d =>
      rw [hf] at hh
      have l := Lscan_firstReserved_3000018a_of hh
      refine ⟨_, Fscan_firstReserved_of _ _ _ _ _ _ _ _ _ _ _ _ (res := (d.1, d.2, true)) ?_, rfl⟩
      unfold tscan_firstReserved
      simp only [wayIt_is ha hb, bindO_val, l, Sum.elim_inl]
  obtain ⟨r, h1, h2⟩ := hf
  simp only [h1, bindO_val, h2]
  cases darkB h a b <;> rfl

theorem lit_loop (h : Hd) (hl : h.l.length < 4294967296) (hv : HdV h) (l : List ZZ) (hn : l.length < 4294967296) (hz : ∀ d ∈ l, Vd d) : ∀ i, i ≤ l.length →
    RR3_lit_0 (TR3_lit_0b l.length (encG l) (i : Int) h.x h.y h.r1 h.a1 h.r2 h.a2 h.l.length (encS h.l)) =
      exO (XLR3_lit_0.fn (match fst1 h (l.drop i) with | some d => .inl d | none => .inr (h.x, h.y, h.r1, h.a1, h.r2, h.a2, h.l.length, encS h.l))) := by
  refine up_ind _ ?_ ?_
  · rw [List.drop_of_length_le (Nat.le_refl _)]
    refine RR3_lit_0b_of _ _ _ _ _ _ _ _ _ _ _ ?_
    unfold BR3_lit_0b
    rw [bif_neg (by omega)]
    rfl
  · intro i hi ih
    obtain ⟨d, hd, hdr⟩ := get_drop hi
    have hdv := hz d (List.mem_of_getElem? hd)
    refine RR3_lit_0b_of _ _ _ _ _ _ _ _ _ _ _ ?_
    unfold BR3_lit_0b
    rw [bif_pos (by omega), bif_pos (by omega)]
    simp only [Int.toNat_natCast, encG_0, encG_1, hd, Option.map_some, intC_int, refReserved_is h d.1 d.2 hl hv hdv.1, bindO_val]
    rw [hdr]
    unfold fst1 at ih ⊢
    rw [List.find?_cons]
    cases hb : anyR h d.1 d.2
    · rw [cond_false, w64_in (by omega)]
      exact ih
    · rw [cond_true, bif_pos (by omega)]
      rfl
theorem wayL_v {a b : ZZ} (ha : Vd a) (hb : Vd b) : ∀ d ∈ wayL a b, Vd d := by
  intro d hd
  obtain ⟨i, hi, rfl⟩ := List.getElem_of_mem hd
  rw [wayL_len] at hi
  have h := wayL_get (a := a) (b := b) (i := i) (by omega)
  rw [List.getElem?_eq_getElem (by rw [wayL_len]; omega)] at h
  simp only [Option.some.injEq] at h
  rw [h]
  exact (stpN_ok ha hb i (by omega)).1
theorem refDark_is (h : Hd) (hl : h.l.length < 4294967296) (hv : HdV h) {a b : ZZ} (ha : Vd a) (hb : Vd b) : FR3_IsDark [encH h, .agg [.int .i64 a.1, .int .i64 a.2], .agg [.int .i64 b.1, .int .i64 b.2]] = some (darkB h a b) := by
  have hdl := ds_le ha hb
  have hcons : ∃ r, wayL a b = a :: r := by
    unfold wayL
    cases ds a b with
    | zero => exact ⟨_, rfl⟩
    | succ n => exact ⟨_, rfl⟩
  obtain ⟨r, hr⟩ := hcons
  have hh := lit_loop h hl hv (wayL a b) (by rw [wayL_len]; omega) (wayL_v ha hb)
  have h0 : RR3_lit_0 (TR3_lit_0a (ds a b + 1) (encG (wayL a b)) h.x h.y h.r1 h.a1 h.r2 h.a2 h.l.length (encS h.l) a.1 a.2 b.1 b.2) =
      exO (XLR3_lit_0.fn (match fst1 h (wayL a b) with | some d => .inl d | none => .inr (h.x, h.y, h.r1, h.a1, h.r2, h.a2, h.l.length, encS h.l))) := by
    have h1 := hh 1 (by rw [wayL_len]; omega)
    rw [wayL_len] at h1
    have g0 : (encG (wayL a b))[0]? = some (.int .i64 a.1) := by rw [hr]; rfl
    have g1 : (encG (wayL a b))[1]? = some (.int .i64 a.2) := by rw [hr]; rfl
    refine RR3_lit_0a_of _ _ _ _ _ _ _ _ _ _ _ _ _ _ ?_
    unfold BR3_lit_0a
    rw [bif_pos (by omega), bif_pos (by omega)]
    simp only [g0, g1, intC_int, refReserved_is h a.1 a.2 hl hv ha.1, bindO_val]
    have hd1 : (wayL a b).drop 1 = r := by rw [hr]; rfl
    rw [hd1] at h1
    rw [hr]
    unfold fst1 at h1 ⊢
    rw [List.find?_cons]
    cases hb : anyR h a.1 a.2
    · rw [cond_false]
      rw [← hr]
      exact h1
    · rw [cond_true, bif_pos (by omega)]
      rfl
  refine FR3_IsDark_of _ _ _ _ _ _ _ _ _ _ _ _ ?_
  unfold tR3_IsDark
  have hf : ∃ r, FR3_lit [encH h, .agg [.int .i64 a.1, .int .i64 a.2], .agg [.int .i64 b.1, .int .i64 b.2]] = some r ∧ r.2.2 = !darkB h a b := by
    unfold darkB
    cases hf : fst1 h (wayL a b) with
    | none =>
      rw [hf] at h0
      have l := LR3_lit_0b_of h0
      refine ⟨_, FR3_lit_of _ _ _ _ _ _ _ _ _ _ _ _ (res := (0, 0, false)) ?_, rfl⟩
      unfold tR3_lit
      simp only [refWay_is ha hb, bindO_val, l, Sum.elim_inr]
    | some d =>
      rw [hf] at h0
      have l := LR3_lit_0a_of h0
      refine ⟨_, FR3_lit_of _ _ _ _ _ _ _ _ _ _ _ _ (res := (d.1, d.2, true)) ?_, rfl⟩
      unfold tR3_lit
      simp only [refWay_is ha hb, bindO_val, l, Sum.elim_inl]
  obtain ⟨r, h1, h2⟩ := hf
  simp only [h1, bindO_val, h2]
  cases darkB h a b <;> rfl
end Gv

/- The whole way, as the program hands it back, and the errors of moves. -/
namespace Gv
open Go
set_option maxRecDepth 100000

def tAS (l : List ZZ) (i : Nat) : Q := if i = 0 then TappendSeq_way_3000013a l.length (encG l) else TappendSeq_way_3000013b l.length (encG l) (i : Int) i (encG (l.take i)) i
theorem appendSeq_loop (l : List ZZ) (h1 : 1 ≤ l.length) (hn : l.length < 1000000) : ∀ i, i ≤ l.length → RappendSeq_way_3000013 (tAS l i) = exO (XLappendSeq_way_3000013.fn (.inr (l.length, encG l, l.length))) := by
  refine up_ind _ ?_ ?_
  · unfold tAS
    rw [if_neg (by omega), List.take_of_length_le (Nat.le_refl _)]
    refine RappendSeq_way_3000013b_of _ _ _ _ _ _ ?_
    unfold BappendSeq_way_3000013b
    rw [bif_neg (by omega)]
    rfl
  · intro i hi ih
    have hg : l[i]? = some l[i] := List.getElem?_eq_getElem hi
    have ht : encG (l.take i) ++ [.int .i64 l[i].1, .int .i64 l[i].2] = encG (l.take (i + 1)) := by
      rw [List.take_add_one, hg, encG_app]
      rfl
    unfold tAS at ih ⊢
    rw [if_neg (by omega), ← ht] at ih
    by_cases h0 : i = 0
    · subst h0
      rw [if_pos rfl]
      refine RappendSeq_way_3000013a_of _ _ ?_
      unfold BappendSeq_way_3000013a
      have g0 : (encG l)[0]? = some (.int .i64 l[0].1) := by have := encG_0 l 0; rw [hg] at this; exact this
      have g1 : (encG l)[1]? = some (.int .i64 l[0].2) := by have := encG_1 l 0; rw [hg] at this; exact this
      rw [bif_pos (by omega), bif_pos (by omega)]
      simp only [g0, g1, intC_int, bindO_val]
      exact ih
    · rw [if_neg h0]
      refine RappendSeq_way_3000013b_of _ _ _ _ _ _ ?_
      unfold BappendSeq_way_3000013b
      rw [bif_pos (by omega), bif_pos (by omega)]
      simp only [Int.toNat_natCast, encG_00, encG_01, hg, Option.map_some, intC_int, bindO_val]
      rw [bif_pos ⟨trivial, by simp only [big]; omega⟩, w64_in (by omega)]
      exact ih
theorem collect_is {a b : ZZ} (ha : Vd a) (hb : Vd b) : Fcollect_way [.fn 108 [.imm [.int .i64 a.1, .int .i64 a.2] 0, .imm [.int .i64 b.1, .int .i64 b.2] 0]] = some (ds a b + 1, encG (wayL a b)) := by
  have hd := ds_le ha hb
  have h := appendSeq_loop (wayL a b) (by rw [wayL_len]; omega) (by rw [wayL_len]; omega) 0 (Nat.zero_le _)
  unfold tAS at h
  rw [if_pos rfl, wayL_len] at h
  have l := LappendSeq_way_3000013b_of h
  have hA : FappendSeq_way [.nilL, .fn 108 [.imm [.int .i64 a.1, .int .i64 a.2] 0, .imm [.int .i64 b.1, .int .i64 b.2] 0]] = some (ds a b + 1, encG (wayL a b)) := by
    refine FappendSeq_way_of _ _ _ _ ?_
    unfold tappendSeq_way
    simp only [wayIt_is ha hb, bindO_val, l, Sum.elim_inr]
    rw [bif_pos trivial]
  refine Fcollect_way_of _ _ _ _ ?_
  unfold tcollect_way
  simp only [hA, bindO_val]
theorem dirE_v {a : ZZ} (h : dirE a.1 a.2 = 0) : Vd a := dirE_ok h
theorem wayOf_is (a b : ZZ) : Fscan_WayOf [.agg [.int .i64 a.1, .int .i64 a.2], .agg [.int .i64 b.1, .int .i64 b.2]] =
    some (if both (dirE a.1 a.2) (dirE b.1 b.2) = 0 then ((ds a b + 1, encG (wayL a b)), 0) else ((0, []), both (dirE a.1 a.2) (dirE b.1 b.2))) := by
  refine Fscan_WayOf_of _ _ _ _ ?_
  unfold tscan_WayOf
  simp only [directionError_is, firstError2_is, bindO_val, bif_ne]
  by_cases h : both (dirE a.1 a.2) (dirE b.1 b.2) = 0
  · rw [if_pos h, if_pos h]
    obtain ⟨h1, h2⟩ := both_nil h
    simp only [collect_is (dirE_v h1) (dirE_v h2), bindO_val]
  · rw [if_neg h, if_neg h]

theorem same_loop (l : List ZZ) (hn : l.length < 4294967296) : ∀ i, i ≤ l.length → RR3_SameWays_0 (TR3_SameWays_0a l.length (encG l) l.length (encG l) (i : Int)) = exO (XR3_SameWays_0b ()) := by
  refine up_ind _ ?_ ?_
  · refine RR3_SameWays_0a_of _ _ _ _ _ ?_
    unfold BR3_SameWays_0a
    rw [bif_neg (by omega)]
    rfl
  · intro i hi ih
    have hg : l[i]? = some l[i] := List.getElem?_eq_getElem hi
    refine RR3_SameWays_0a_of _ _ _ _ _ ?_
    unfold BR3_SameWays_0a
    rw [bif_pos (by omega), bif_pos (by omega)]
    simp only [Int.toNat_natCast, encG_0, encG_1, hg, Option.map_some, intC_int, bindO_val]
    rw [bif_pos (by omega)]
    simp only [beq_self_eq_true, Bool.and_self, Bool.not_true, cond_false]
    rw [w64_in (by omega)]
    exact ih
theorem sameWays_is (l : List ZZ) (hn : l.length < 4294967296) : FR3_SameWays [.list l.length (encG l), .list l.length (encG l)] = some true := by
  refine FR3_SameWays_of _ _ _ _ ?_
  unfold tR3_SameWays
  have h := same_loop l hn 0 (Nat.zero_le _)
  have l0 := LR3_SameWays_0b_of (y := ()) h
  have l0 : LR3_SameWays_0 (TR3_SameWays_0a l.length (encG l) l.length (encG l) 0) = _ := l0
  simp only [bne_self_eq_false, cond_false, l0, bindO_val, Sum.elim_inr]

def mvE (h : Hd) (a b : ZZ) : Int := first3 (headIE h).2 (dirE a.1 a.2) (dirE b.1 b.2)
theorem headErr_is (h : Hd) (hl : h.l.length < 4294967296) : FR3_HeadErr [encH h] = some (headIE h).2 := by
  refine FR3_HeadErr_of _ _ _ _ _ _ _ _ ?_
  unfold tR3_HeadErr
  simp only [refCheckHead_is h hl, bindO_val]
theorem mvE_ok {h : Hd} {a b : ZZ} (h0 : mvE h a b = 0) : (headIE h).2 = 0 ∧ Vd a ∧ Vd b := by
  obtain ⟨h1, h2, h3⟩ := first3_nil h0
  exact ⟨h1, dirE_v h2, dirE_v h3⟩
theorem hdD_of {h : Hd} (h0 : (headIE h).2 = 0) : HdD h := by
  obtain ⟨_, h1, h2, _⟩ := headIE_ok h0
  exact ⟨axE_ok h1, axE_ok h2⟩
end Gv
