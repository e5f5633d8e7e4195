import Derived.Test.YtkbbilbpejbmiaaMR
import Derived.Test.YtkbbilbpejbmiaaM23

/- Rates fall as thresholds rise; a signal raises them; the threshold that is found keeps its risk, and one less does not. -/
namespace Gv
open Go
set_option maxRecDepth 100000

theorem anyG_iff {m : Int} {l : List Int} : anyG m l = true ↔ ∃ x ∈ l, m ≤ x := by
  unfold anyG
  rw [List.any_eq_true]
  constructor
  · rintro ⟨x, hx, h⟩
    exact ⟨x, hx, of_decide_eq_true h⟩
  · rintro ⟨x, hx, h⟩
    exact ⟨x, hx, decide_eq_true h⟩
theorem rcG_le {s q v : List Int} {t u : Int} (h : ∀ i : Nat, anyG t (nzL s v (i : Int)) = true → anyG u (nzL q v (i : Int)) = true) :
    ∀ n i w z, w ≤ z → rcG s v t n i w ≤ rcG q v u n i z
  | 0, _, _, _, hw => hw
  | n + 1, i, w, z, hw => by
    rw [rcG, rcG]
    refine rcG_le h n _ _ _ ?_
    unfold rcS
    by_cases h1 : anyG t (nzL s v (i : Int)) = true
    · rw [if_pos h1, if_pos (h i h1)]
      omega
    · rw [if_neg h1]
      split <;> omega
theorem rcT_fall (s v : List Int) (t : Int) : rcT s v (t + 1) ≤ rcT s v t :=
  rcG_le (fun i h => by
    obtain ⟨x, hx, hm⟩ := anyG_iff.1 h
    exact anyG_iff.2 ⟨x, hx, by omega⟩) _ _ _ _ (Int.le_refl _)
theorem tabI_in (f : Nat → Int) {n k : Nat} (h : k < n) : f k ∈ tabI f n := by
  unfold tabI
  exact List.mem_map.2 ⟨k, List.mem_range.2 h, rfl⟩
theorem rcT_rise {s v : List Int} {n d : Int} (c : Ca s v n d) (t : Int) : rcT (zs s.length) v t ≤ rcT s v t := by
  unfold rcT
  rw [show cnt (zs s.length) v = cnt s v by unfold cnt; rw [zs_len]]
  refine rcG_le (fun i h => ?_) _ _ _ _ (Int.le_refl _)
  obtain ⟨x, hx, hm⟩ := anyG_iff.1 h
  obtain ⟨j, hj, rfl⟩ := tabI_mem hx
  rw [zs_len] at hj
  refine anyG_iff.2 ⟨_, tabI_in (nzF s v i) hj, ?_⟩
  unfold nzF at hm ⊢
  rw [zs_getD] at hm
  have := c.sp.sm.getD (by omega) j
  omega
/-- Between two values rates stay. -/
theorem rcT_stay {v : List Int} (hv : Nz v) (k : Nat) {t : Int} (h : t ∉ v) : rcT (zs k) v t ≤ rcT (zs k) v (t + 1) := by
  refine rcG_le (fun i hx => ?_) _ _ _ _ (Int.le_refl _)
  obtain ⟨x, hx, hm⟩ := anyG_iff.1 hx
  refine anyG_iff.2 ⟨x, hx, ?_⟩
  obtain ⟨j, _, rfl⟩ := tabI_mem hx
  unfold nzF at hm ⊢
  rw [zs_getD] at hm ⊢
  have hd := dg_bd (m := v.length) (d := (i : Int)) (b := i) ⟨by omega, by omega⟩ j
  have hr := dg_mod hv.pos hd.1
  have hin := getD_mem (l := v) (i := ((dgI v.length i j).tmod v.length).toNat) (by omega)
  have : v.getD ((dgI v.length i j).tmod v.length).toNat 0 ≠ t := fun e => h (e ▸ hin)
  omega

theorem thP_le (s v : List Int) (r : Int) : ∀ (l : List Int) (m : Int), thP s v r l m ≤ m
  | [], m => Int.le_refl m
  | x :: l, m => by
    have := thP_le s v r l (stP s v r m x)
    rw [thP]
    unfold stP at this ⊢
    split at this
    · rename_i h1
      rw [if_pos h1]
      split at this
      · rename_i h2; rw [if_pos h2]; omega
      · rename_i h2; rw [if_neg h2]; omega
    · rename_i h1
      rw [if_neg h1]
      omega
theorem thP_in {s v : List Int} {r : Int} : ∀ {l : List Int} {x : Int} (m : Int), x ∈ l → keeps s v r (x + 1) → thP s v r l m ≤ x + 1
  | [], _, _, h, _ => by simp at h
  | y :: l, x, m, h, hk => by
    rw [thP]
    rcases List.mem_cons.1 h with rfl | h
    · refine Int.le_trans (thP_le s v r l _) ?_
      unfold stP
      rw [if_pos hk]
      split <;> omega
    · exact thP_in _ h hk
theorem thP_keeps {s v : List Int} {r : Int} : ∀ (l : List Int) (m : Int), keeps s v r m → keeps s v r (thP s v r l m)
  | [], _, h => h
  | x :: l, m, h => by
    rw [thP]
    refine thP_keeps l _ ?_
    unfold stP
    split
    · rename_i h1
      split
      · exact h1
      · exact h
    · exact h
theorem thP_ge {s v : List Int} {r : Int} : ∀ (l : List Int) (m : Int), (∀ x ∈ l, -1 ≤ x) → 0 ≤ m → 0 ≤ thP s v r l m
  | [], _, _, h => h
  | x :: l, m, hl, h => by
    rw [thP]
    refine thP_ge l _ (fun y hy => hl y (by simp [hy])) ?_
    have := hl x (by simp)
    unfold stP
    split
    · split <;> omega
    · exact h
/-- The threshold that is found is the smallest one that keeps the risk. -/
theorem thP_least {v : List Int} (hv : Nz v) (k : Nat) {r : Int} (m : Int) : ∀ y : Nat, keeps (zs k) v r (y : Int) → thP (zs k) v r (-1 :: v) m ≤ (y : Int)
  | 0, h => thP_in (x := -1) m (by simp) h
  | y + 1, h => by
    by_cases hy : (y : Int) ∈ v
    · have := thP_in (l := -1 :: v) m (List.mem_cons_of_mem _ hy) (show keeps (zs k) v r ((y : Int) + 1) from h)
      omega
    · have hs := rcT_stay hv k hy
      have := thP_least hv k (r := r) m y (by
        unfold keeps at h ⊢
        rw [show ((y + 1 : Nat) : Int) = (y : Int) + 1 from rfl] at h
        omega)
      omega
def thV (v : List Int) (k : Nat) (r : Int) : Int := thP (zs k) v r (-1 :: v) (maxL v + 1)
theorem thV_bd {v : List Int} (hv : Nz v) (k : Nat) (r : Int) : 0 ≤ thV v k r ∧ thV v k r ≤ 1001 := by
  have hm := hv.sm _ (maxL_mem hv.pos)
  have a := thP_le (zs k) v r (-1 :: v) (maxL v + 1)
  have b := thP_ge (s := zs k) (v := v) (r := r) (-1 :: v) (maxL v + 1) (fun x hx => by
    rcases List.mem_cons.1 hx with rfl | hx
    · omega
    · have := hv.sm _ hx; omega) (by omega)
  unfold thV
  omega
theorem thV_keeps {v : List Int} (hv : Nz v) (k : Nat) {r : Int} (hr : 0 ≤ r) : keeps (zs k) v r (thV v k r) := thP_keeps _ _ (keeps_top hv k hr)
theorem thV_less {v : List Int} (hv : Nz v) (k : Nat) {r : Int} (h : 0 < thV v k r) : ¬ keeps (zs k) v r (thV v k r - 1) := by
  intro hk
  obtain ⟨y, hy⟩ : ∃ y : Nat, thV v k r - 1 = y := ⟨(thV v k r - 1).toNat, by omega⟩
  rw [hy] at hk
  have := thP_least hv k (maxL v + 1) y hk
  unfold thV at h hy
  omega

/-- The parts of rates: in lowest terms, from 0 to 1. -/
structure Pt (f : Int × Int) : Prop where
  num : 0 ≤ f.1
  le : f.1 ≤ f.2
  den : 0 < f.2
  gcd : Int.gcd f.1 f.2 = 1
  sm : f.2 ≤ 4096
theorem pt_of {s v : List Int} {n d : Int} (c : Ca s v n d) (t : Int) : Pt (lowF (rcT s v t) (cnt s v)) := by
  have hp := cnt_pos c; have hc := c.cs
  have hb := rcT_bd s v t
  have hg := gcd_pos (n := rcT s v t) (show (0 : Int) < cnt s v by omega)
  obtain ⟨a1, a2⟩ := lowF_mul (rcT s v t) (cnt s v)
  have hd := lowF_den (n := rcT s v t) (show (0 : Int) < cnt s v by omega)
  have hq := lowF_gcd (n := rcT s v t) (show (0 : Int) < cnt s v by omega)
  obtain ⟨x, hx⟩ : ∃ x, x = (lowF (rcT s v t) (cnt s v)).1 := ⟨_, rfl⟩
  obtain ⟨y, hy⟩ : ∃ x, x = (lowF (rcT s v t) (cnt s v)).2 := ⟨_, rfl⟩
  obtain ⟨g, hg2⟩ : ∃ g, g = (Int.gcd (rcT s v t) (cnt s v) : Int) := ⟨_, rfl⟩
  rw [← hx, ← hg2] at a1
  rw [← hy, ← hg2] at a2
  rw [← hy] at hd
  rw [← hg2] at hg
  have l1 := Int.mul_le_mul_of_nonneg_left (show (1 : Int) ≤ g by omega) (show 0 ≤ y by omega)
  have l3 : x ≤ y := by
    by_cases h : x ≤ y
    · exact h
    · have := Int.mul_lt_mul_of_pos_right (show y < x by omega) hg
      omega
  have l4 : 0 ≤ x := by
    by_cases h : 0 ≤ x
    · exact h
    · have := Int.mul_neg_of_neg_of_pos (show x < 0 by omega) hg
      omega
  exact ⟨by rw [← hx]; exact l4, by rw [← hx, ← hy]; exact l3, by rw [← hy]; exact hd, hq, by rw [← hy]; omega⟩
theorem cmp_le {x y c g h : Int} {a b : Int × Int} (hc : 0 < c) (hg : 0 < g) (hh : 0 < h) (a1 : a.1 * g = x) (a2 : a.2 * g = c) (b1 : b.1 * h = y) (b2 : b.2 * h = c) (hxy : x ≤ y) : a.1 * b.2 ≤ b.1 * a.2 := by
  by_cases k : a.1 * b.2 ≤ b.1 * a.2
  · exact k
  · have k : b.1 * a.2 < a.1 * b.2 := by omega
    have e := Int.mul_lt_mul_of_pos_right k (Int.mul_pos hg hh)
    have e1 : b.1 * a.2 * (g * h) = (b.1 * h) * (a.2 * g) := by grind
    have e2 : a.1 * b.2 * (g * h) = (a.1 * g) * (b.2 * h) := by grind
    rw [e1, e2, a1, a2, b1, b2] at e
    have := Int.mul_le_mul_of_nonneg_right hxy (show 0 ≤ c by omega)
    omega
theorem cmp_rates {s q v : List Int} {n d n2 d2 : Int} (c : Ca s v n d) (b : Ca q v n2 d2) (hl : cnt s v = cnt q v) {t u : Int} (h : rcT s v t ≤ rcT q v u) :
    (lowF (rcT s v t) (cnt s v)).1 * (lowF (rcT q v u) (cnt q v)).2 ≤ (lowF (rcT q v u) (cnt q v)).1 * (lowF (rcT s v t) (cnt s v)).2 := by
  have hp := cnt_pos c
  have hq := cnt_pos b
  obtain ⟨a1, a2⟩ := lowF_mul (rcT s v t) (cnt s v)
  obtain ⟨b1, b2⟩ := lowF_mul (rcT q v u) (cnt q v)
  have g1 := gcd_pos (n := rcT s v t) (show (0 : Int) < cnt s v by omega)
  have g2 := gcd_pos (n := rcT q v u) (show (0 : Int) < cnt q v by omega)
  exact cmp_le (c := (cnt s v : Int)) (by omega) g1 g2 a1 a2 b1 (by rw [b2, hl]) h
end Gv

/- LineKept: whatever the case, the threshold and the risk, the law answers true. -/
namespace Gv
open Go
set_option maxRecDepth 100000

theorem part_is {f : Int × Int} (p : Pt f) : FLwpart [.agg [.int .i64 f.1, .int .i64 f.2]] = some true := by
  have h1 := p.num; have h2 := p.le; have h3 := p.den; have h4 := p.sm
  refine FLwpart_of _ _ ?_
  unfold tLwpart
  have e1 : decide (loQ f.1 f.2) = true := decide_eq_true ⟨h3, p.gcd⟩
  have e2 : decide (1 ≤ f.2 ∧ ¬ laQ f.1 f.2) = true := decide_eq_true ⟨by omega, by unfold laQ; omega⟩
  have e3 : rangeE f.1 0 f.2 = 0 := rangeE_in ⟨h1, h2⟩
  simp only [refIsLowest_is (n := f.1) (d := f.2) (by unfold I64; omega), refIsSmall_is, within_is, bindO_val, e1, e2, e3, cond_true, decide_true]

theorem lk93 (s v : List Int) {n d : Int} (hd : I64 d) (t r : Int) : ∃ z, LLwLineKept_1000093 (TLwLineKept_1000093a t r s.length (encI s) v.length (encI v) n d) = some z ∧
    (z = .inl () ∨ (caE s v n d = 0 ∧ cnt s v ≤ 256 ∧ (0 ≤ t ∧ t ≤ 10999) ∧ (0 ≤ r ∧ r ≤ 1000) ∧ z = .inr (t, r, s.length, encI s, v.length, encI v, n, d))) := by
  have key : ∃ z : YLwLineKept_1000093, RLwLineKept_1000093 (TLwLineKept_1000093a t r s.length (encI s) v.length (encI v) n d) = exO (XLLwLineKept_1000093.fn z) ∧
      (z = .inl () ∨ (caE s v n d = 0 ∧ cnt s v ≤ 256 ∧ (0 ≤ t ∧ t ≤ 10999) ∧ (0 ≤ r ∧ r ≤ 1000) ∧ z = .inr (t, r, s.length, encI s, v.length, encI v, n, d))) := by
    have out : ∀ {q : Option (Ext × S)}, q = exO (XLwLineKept_1000093a ()) → ∃ z : YLwLineKept_1000093, q = exO (XLLwLineKept_1000093.fn z) ∧ (z = .inl () ∨ (caE s v n d = 0 ∧ cnt s v ≤ 256 ∧ (0 ≤ t ∧ t ≤ 10999) ∧ (0 ≤ r ∧ r ≤ 1000) ∧ z = .inr (t, r, s.length, encI s, v.length, encI v, n, d))) := fun h => ⟨.inl (), h, .inl rfl⟩
    by_cases hl : (decide (s.length ≤ 20) && (decide (v.length ≤ 20) && (decide (caE s v n d ≠ 0) || decide (cnt s v ≤ 256)))) = true
    · have L := light_is s v (n := n) hd
      rw [hl] at L
      by_cases hc : caE s v n d = 0
      · by_cases ht : rangeE t 0 11000 = 0
        · by_cases ht2 : rangeE t 0 10999 = 0
          · by_cases hr : rangeE r 0 1000 = 0
            · refine ⟨.inr (t, r, s.length, encI s, v.length, encI v, n, d), RLwLineKept_1000093a_of _ _ _ _ _ _ _ _ ?_, .inr ⟨hc, ?_, rangeE_ok ht2, rangeE_ok hr, rfl⟩⟩
              · unfold BLwLineKept_1000093a
                simp only [L, refCaseErr_is s v hd, hc, refThreshE_is, ht, within_is, ht2, hr, bindO_val, cond_true, cond_false, decide_true, bne_self_eq_false]
                rfl
              · simp [hc] at hl
                exact hl.2.2
            · refine out (RLwLineKept_1000093a_of _ _ _ _ _ _ _ _ ?_)
              unfold BLwLineKept_1000093a
              simp only [L, refCaseErr_is s v hd, hc, refThreshE_is, ht, within_is, ht2, hr, bindO_val, cond_true, cond_false, decide_true, decide_false, bne_self_eq_false]
              rfl
          · refine out (RLwLineKept_1000093a_of _ _ _ _ _ _ _ _ ?_)
            unfold BLwLineKept_1000093a
            simp only [L, refCaseErr_is s v hd, hc, refThreshE_is, ht, within_is, ht2, bindO_val, cond_true, cond_false, decide_false, bne_self_eq_false]
            rfl
        · refine out (RLwLineKept_1000093a_of _ _ _ _ _ _ _ _ ?_)
          have e : (rangeE t 0 11000 != 0) = true := by simpa using ht
          unfold BLwLineKept_1000093a
          simp only [L, refCaseErr_is s v hd, hc, refThreshE_is, e, bindO_val, cond_true, cond_false, bne_self_eq_false]
          rfl
      · refine out (RLwLineKept_1000093a_of _ _ _ _ _ _ _ _ ?_)
        have e : (caE s v n d != 0) = true := by simpa using hc
        unfold BLwLineKept_1000093a
        simp only [L, refCaseErr_is s v hd, e, bindO_val, cond_true]
        rfl
    · have hl := Bool.eq_false_iff.2 hl
      have L := light_is s v (n := n) hd
      rw [hl] at L
      refine out (RLwLineKept_1000093a_of _ _ _ _ _ _ _ _ ?_)
      unfold BLwLineKept_1000093a
      simp only [L, bindO_val, cond_false]
      rfl
  obtain ⟨z, h, hz⟩ := key
  exact ⟨z, lpO_of ILwLineKept_1000093 XILwLineKept_1000093 h, hz⟩

section
variable {s v : List Int} {n d : Int}

theorem lk82 (t r : Int) (k : Nat) {x : Int} (hx : 0 ≤ x ∧ x ≤ 1001) : LLwLineKept_1000082 (TLwLineKept_1000082a t r k x 0 s.length (encI s) v.length (encI v) n d) = some (.inr (t, r, k, x, s.length, encI s, v.length, encI v, n, d)) := by
  refine LLwLineKept_1000082b_of (RLwLineKept_1000082a_of _ _ _ _ _ _ _ _ _ _ _ ?_)
  unfold BLwLineKept_1000082a
  have e : rangeE x 0 11000 = 0 := rangeE_in (by omega)
  simp only [refThreshE_is, e, bindO_val, bne_self_eq_false, cond_false]
  rfl

theorem lk73 (t : Int) {r : Int} (hr : 0 ≤ r ∧ r ≤ 1000) (k x : Int) {q : List Int} {n2 d2 : Int} (b : Ca q v n2 d2) {u : Int} (hk : keeps q v r u) :
    LLwLineKept_1000073 (TLwLineKept_1000073a t r k x 0 s.length (encI s) v.length (encI v) n d (lowF (rcT q v u) (cnt q v)).1 (lowF (rcT q v u) (cnt q v)).2) = some (.inr (t, r, k, x, s.length, encI s, v.length, encI v, n, d)) := by
  refine LLwLineKept_1000073b_of (RLwLineKept_1000073a_of _ _ _ _ _ _ _ _ _ _ _ _ _ ?_)
  unfold BLwLineKept_1000073a
  have := (keeps_low b hr u).2 hk
  simp only [part_is (pt_of b u), bindO_val, bne_self_eq_false, cond_false, cond_true]
  rw [bif_neg (by omega)]
  rfl

theorem lk66 (t : Int) {r : Int} (hr : 0 ≤ r ∧ r ≤ 1000) {k : Nat} (hk : k ≤ 16) (b : Ca (zs k) v 0 1) (h0 : nzE v = 0) (hl : lnE v k = 0) :
    LLwLineKept_1000066 (TLwLineKept_1000066a t r k (thV v k r) s.length (encI s) v.length (encI v) n d) = some (.inr (t, k, s.length, encI s, v.length, encI v, n, d)) := by
  have hv := b.nz
  have hlen := hv.len
  have hb := thV_bd hv k r
  refine LLwLineKept_1000066b_of (RLwLineKept_1000066a_of _ _ _ _ _ _ _ _ _ _ ?_)
  unfold BLwLineKept_1000066a
  by_cases h : thV v k r > 0
  · rw [bif_pos h]
    rw [w64_in (n := thV v k r - 1) (by omega)]
    have e0 : frE2 v k (thV v k r - 1) = 0 := by
      unfold frE2 both
      rw [hl, rangeE_in (by omega)]
      rfl
    have e1 : Fline_FalseRate [.agg [.list v.length (encI v)], .int .i64 k, .int .i64 (thV v k r - 1)] = some ((lowF (rcT (zs k) v (thV v k r - 1)) (cnt (zs k) v)).1, ((lowF (rcT (zs k) v (thV v k r - 1)) (cnt (zs k) v)).2, 0)) := by
      have := falseRate_is h0 (k : Int) (thV v k r - 1)
      rw [e0, Int.toNat_natCast, if_neg (by simp)] at this
      exact this
    have hn := thV_less hv k (r := r) h
    have hw := mt (keeps_low b hr (thV v k r - 1)).1 hn
    simp only [copyNoise_is v (by omega), e1, part_is (pt_of b (thV v k r - 1)), bindO_val, bne_self_eq_false, cond_false, cond_true]
    rw [bif_neg hw]
    rfl
  · rw [bif_neg h]
    rfl

theorem w64_mulP {a b : Int × Int} (ha : Pt a) (hb : Pt b) : w64 (a.1 * b.2) = a.1 * b.2 := by
  have h1 := ha.num; have h2 := ha.le; have h3 := ha.sm; have h4 := hb.den; have h5 := hb.sm
  have p1 := Int.mul_nonneg h1 (show 0 ≤ b.2 by omega)
  have p2 := Int.mul_le_mul (show a.1 ≤ 4096 by omega) h5 (by omega) (by omega)
  rw [w64_in (by omega)]
theorem cmpF_le {a b : Int × Int} (h : a.1 * b.2 ≤ b.1 * a.2) : ¬ cmpF a b > 0 := by
  unfold cmpF
  split
  · omega
  · rw [if_neg (by omega)]; omega
theorem cmpF_ge {a b : Int × Int} (h : b.1 * a.2 ≤ a.1 * b.2) : ¬ cmpF a b < 0 := by
  unfold cmpF
  rw [if_neg (by omega)]
  split <;> omega

theorem lk49 (t : Int) (k : Int) {a b c : Int × Int} (pa : Pt a) (pb : Pt b) (pc : Pt c) (h1 : b.1 * a.2 ≤ a.1 * b.2) (h2 : a.1 * c.2 ≤ c.1 * a.2) :
    LLwLineKept_1000049 (TLwLineKept_1000049a t k 0 0 0 s.length (encI s) v.length (encI v) n d a.1 a.2 b.1 b.2 c.1 c.2) = some (.inr (t, k, s.length, encI s, v.length, encI v, n, d, c.1, c.2)) := by
  refine LLwLineKept_1000049b_of (RLwLineKept_1000049a_of _ _ _ _ _ _ _ _ _ _ _ _ _ _ _ _ _ ?_)
  unfold BLwLineKept_1000049a
  simp only [part_is pa, part_is pb, part_is pc, cmp_is (f := b) (g := a) (w64_mulP pb pa) (w64_mulP pa pb), cmp_is (f := c) (g := a) (w64_mulP pc pa) (w64_mulP pa pc), bindO_val, bne_self_eq_false, cond_false, cond_true]
  rw [bif_neg (cmpF_le h1), bif_neg (cmpF_ge h2)]
  rfl

/-- Whether one of the first lines of a case reaches a threshold. -/
theorem lk2 (t k : Int) (cn all kk : Int) (l : List Int) (hl : l.length ≤ 16) (hk : k = l.length) (n9 : Nat) (c10 : List PV) (n11 : Nat) (c12 : List PV) (i13 i14 i15 i16 : Int) : ∀ i, i ≤ l.length → ∀ b : Bool,
    RLwLineKept_2 (TLwLineKept_2a t k cn all kk l.length (encI l) b i n9 c10 n11 c12 i13 i14 i15 i16) = exO (XLwLineKept_2a (t, k, cn, all, kk, b || anyG t (l.drop i), n9, c10, n11, c12, i13, i14, i15, i16)) := by
  refine up_ind _ ?_ ?_
  · intro b
    refine RLwLineKept_2a_of _ _ _ _ _ _ _ _ _ _ _ _ _ _ _ _ _ ?_
    unfold BLwLineKept_2a
    rw [bif_neg (by omega), List.drop_length]
    simp [anyG]
    rfl
  · intro i hi ih b
    obtain ⟨x, hx, hd⟩ := get_drop hi
    refine RLwLineKept_2a_of _ _ _ _ _ _ _ _ _ _ _ _ _ _ _ _ _ ?_
    unfold BLwLineKept_2a
    rw [bif_pos (by omega), w64_in (n := (i : Int) + 1) (by omega)]
    cases b with
    | true => 
      have := ih true
      simp only [cond_true, Bool.true_or] at this ⊢
      exact this
    | false =>
      rw [cond_false, bif_pos (by omega)]
      simp only [Int.toNat_natCast, Nat.mul_one, encI_get, hx, Option.map_some, intC_int, bindO_val]
      rw [hd]
      by_cases h : t ≤ x
      · rw [bif_pos h]
        have := ih true
        rw [show (false || anyG t (x :: l.drop (i + 1))) = true by simp [anyG, h]]
        exact this
      · rw [bif_neg h]
        have := ih false
        rw [show (false || anyG t (x :: l.drop (i + 1))) = (false || anyG t (l.drop (i + 1))) by simp [anyG, h]]
        exact this

theorem lk30 (c : Ca s v n d) (hc : caE s v n d = 0) (t : Int) {i : Nat} (hi : i < cnt s v) {w : Int} (hw : 0 ≤ w ∧ w ≤ 5000) (p q : Int) :
    LLwLineKept_1000030 (TLwLineKept_1000030a t s.length w (cnt s v) i s.length (encI s) v.length (encI v) n d p q) = some (.inr (t, s.length, rcS s v t i w, cnt s v, i, s.length, encI s, v.length, encI v, n, d, p, q)) := by
  have h1 := c.sp.len; have h2 := c.nz.len; have h5 := c.cs
  have hdd : I64 d := by have := c.db; have := c.lo.1; unfold I64; omega
  have hny : Fline_Noisy [.agg [.list s.length (encI s), .list v.length (encI v), .int .i64 n, .int .i64 d], .int .i64 i] = some ((s.length, encI (nzL s v i)), 0) := by
    have := noisyOf_is s v (by omega) (by omega) (n := n) hdd (i : Int)
    have e : nyE s v n d i = 0 := by unfold nyE; rw [if_neg (by omega), if_pos (rangeE_in (by omega))]
    unfold nyR at this
    rw [e, if_neg (by simp)] at this
    exact this
  have h25 : LLwLineKept_1000025 (TLwLineKept_1000025a t s.length w (cnt s v) i s.length (encI (nzL s v i)) 0 s.length (encI s) v.length (encI v) n d p q) = some (.inr (t, s.length, w, cnt s v, i, s.length, encI (nzL s v i), s.length, encI s, v.length, encI v, n, d, p, q)) := by
    refine LLwLineKept_1000025b_of (RLwLineKept_1000025a_of _ _ _ _ _ _ _ _ _ _ _ _ _ _ _ _ ?_)
    unfold BLwLineKept_1000025a
    simp only [bne_self_eq_false, cond_false]
    rfl
  have hlen := nzL_len s v (i : Int)
  have h2 := LLwLineKept_2a_of (lk2 t s.length w (cnt s v) i (nzL s v i) (by omega) (by rw [hlen]) s.length (encI s) v.length (encI v) n d p q 0 (by omega) false)
  rw [hlen, List.drop_zero, Bool.false_or, show ((0 : Nat) : Int) = 0 from rfl] at h2
  refine LLwLineKept_1000030b_of (RLwLineKept_1000030a_of _ _ _ _ _ _ _ _ _ _ _ _ _ ?_)
  unfold BLwLineKept_1000030a
  simp only [copyCase_is s v (by omega) (by omega), hny, h25, h2, bindO_val, Sum.elim_inr]
  unfold rcS
  cases hb : anyG t (nzL s v i) with
  | true => rw [cond_true, w64_in (by omega)]; rfl
  | false => rfl

theorem lk0 (c : Ca s v n d) (hc : caE s v n d = 0) (t p q : Int) : ∀ i, i ≤ cnt s v → ∀ w : Int, 0 ≤ w → w ≤ i →
    RLwLineKept_0 (TLwLineKept_0a t s.length w (cnt s v) i s.length (encI s) v.length (encI v) n d p q) = exO (XLwLineKept_0a (rcG s v t (cnt s v - i) i w, cnt s v, s.length, encI s, v.length, encI v, n, d, p, q)) := by
  have h5 := c.cs
  refine up_ind _ ?_ ?_
  · intro w _ _
    rw [Nat.sub_self]
    refine RLwLineKept_0a_of _ _ _ _ _ _ _ _ _ _ _ _ _ ?_
    unfold BLwLineKept_0a
    rw [bif_neg (by omega)]
    rfl
  · intro i hi ih w hw1 hw2
    refine RLwLineKept_0a_of _ _ _ _ _ _ _ _ _ _ _ _ _ ?_
    unfold BLwLineKept_0a
    rw [bif_pos (by omega)]
    simp only [lk30 c hc t hi (w := w) (by omega) p q, bindO_val, Sum.elim_inr]
    rw [w64_in (n := (i : Int) + 1) (by omega), show cnt s v - i = (cnt s v - (i + 1)) + 1 by omega, rcG]
    exact ih _ (by unfold rcS; split <;> omega) (by unfold rcS; split <;> omega)
end

theorem keptLaw (s v : List Int) {n d : Int} (hd : I64 d) (t r : Int) : FLwLineKept [.agg [.list s.length (encI s), .list v.length (encI v), .int .i64 n, .int .i64 d], .int .i64 t, .int .i64 r] = some true := by
  refine FLwLineKept_of _ _ _ _ _ _ _ _ ?_
  unfold tLwLineKept
  simp only [awakeL_is, bindO_val, cond_true]
  obtain ⟨z, hz, hs⟩ := lk93 s v (n := n) hd t r
  rw [hz, bindO_val]
  rcases hs with rfl | ⟨hc, h256, ht, hr, rfl⟩
  · rfl
  · have c := ca_ok hc
    have hv := c.nz
    have h1 := c.sp.pos; have h2 := c.sp.len; have h3 := hv.len; have h5 := c.cs
    obtain ⟨_, h0⟩ : spE s = 0 ∧ nzE v = 0 := by
      unfold caE at hc
      split at hc
      · contradiction
      · rename_i h
        exact both_nil (show both (spE s) (nzE v) = 0 by simpa using h)
    have b : Ca (zs s.length) v 0 1 := ca_zs hv h1 h2 (by unfold cnt; rw [zs_len]; exact h5)
    have hcn : cnt (zs s.length) v = cnt s v := by unfold cnt; rw [zs_len]
    have hln : lnE v s.length = 0 := by
      unfold lnE
      rw [rangeE_in (by omega), if_neg (by simp), Int.toNat_natCast, hcn, if_neg (by omega)]
    have hth : Fline_ThresholdFor [.agg [.list v.length (encI v)], .int .i64 s.length, .int .i64 r] = some (thV v s.length r, 0) := by
      have := threshold_is h0 (s.length : Int) r
      rw [show thE v s.length r = 0 by unfold thE both; rw [hln, rangeE_in hr]; rfl, if_neg (by simp), Int.toNat_natCast] at this
      exact this
    have hb := thV_bd hv s.length r
    have hfr : ∀ u : Int, 0 ≤ u → u ≤ 11000 → Fline_FalseRate [.agg [.list v.length (encI v)], .int .i64 s.length, .int .i64 u] = some ((lowF (rcT (zs s.length) v u) (cnt (zs s.length) v)).1, ((lowF (rcT (zs s.length) v u) (cnt (zs s.length) v)).2, 0)) := by
      intro u u1 u2
      have := falseRate_is h0 (s.length : Int) u
      rw [show frE2 v s.length u = 0 by unfold frE2 both; rw [hln, rangeE_in ⟨u1, u2⟩]; rfl, Int.toNat_natCast, if_neg (by simp)] at this
      exact this
    have hdr : Fline_DetectedRate [.agg [.list s.length (encI s), .list v.length (encI v), .int .i64 n, .int .i64 d], .int .i64 t] = some ((lowF (rcT s v t) (cnt s v)).1, ((lowF (rcT s v t) (cnt s v)).2, 0)) := by
      have := detRate_is s v (by omega) (by omega) (n := n) hd t
      unfold drR at this
      rw [show drE s v n d t = 0 by unfold drE both; rw [hc, rangeE_in (by omega)]; rfl, if_neg (by simp)] at this
      exact this
    have e49 := lk49 (s := s) (v := v) (n := n) (d := d) t s.length (pt_of b t) (pt_of b (t + 1)) (pt_of c t) (cmp_rates b b rfl (rcT_fall (zs s.length) v t)) (cmp_rates b c hcn (rcT_rise c t))
    have e0 := LLwLineKept_0a_of (lk0 c hc t (lowF (rcT s v t) (cnt s v)).1 (lowF (rcT s v t) (cnt s v)).2 0 (by omega) 0 (by omega) (by omega))
    rw [Nat.sub_zero, show ((0 : Nat) : Int) = 0 from rfl, show rcG s v t (cnt s v) 0 0 = rcT s v t from rfl] at e0
    simp only [Sum.elim_inr, copyNoise_is v (by omega), hth, bindO_val, lk82 (s := s) (v := v) (n := n) (d := d) t r s.length hb, hfr _ hb.1 (by omega),
      lk73 (s := s) (n := n) (d := d) t hr s.length (thV v s.length r) b (thV_keeps hv s.length hr.1), lk66 (s := s) (n := n) (d := d) t hr h2 b h0 hln,
      hfr t ht.1 (by omega)]
    rw [w64_in (n := t + 1) (by omega)]
    simp only [hfr (t + 1) (by omega) (by omega), copyCase_is s v (by omega) (by omega), hdr, bindO_val, e49, Sum.elim_inr, refCasesC c, e0, Sum.elim_inl, (rate_low c t).2, beq_self_eq_true, Bool.and_self, cond_true]
end Gv
