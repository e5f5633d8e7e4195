/- Visibility: what the program gives. -/
import Derived.Test.YtkbahledgljaoaaCA2
namespace Gv
open Go
set_option maxRecDepth 100000
def visF (l : List Int) (c : Int) (z : ZZ) : Nat → Nat → Nat
  | 0, i => i
  | n + 1, i => if restL l c (i + 1) * z.2 > z.1 * c then visF l c z n (i + 1) else i
theorem visF_le (l : List Int) (c : Int) (z : ZZ) : ∀ n i, i ≤ visF l c z n i ∧ visF l c z n i ≤ i + n
  | 0, i => ⟨Nat.le_refl _, Nat.le_refl _⟩
  | n + 1, i => by
    have := visF_le l c z n (i + 1)
    simp only [visF]
    split <;> omega
theorem visF_mono {l : List Int} {c : Int} {z : ZZ} (hc : 0 ≤ c) (h1 : 0 ≤ z.1) (h2 : 0 < z.2) : ∀ n i, visF l c z n i ≤ visF l c (0, 1) n i
  | 0, i => Nat.le_refl _
  | n + 1, i => by
    have ih := visF_mono (l := l) hc h1 h2 n (i + 1)
    have := (visF_le l c (0, 1) n (i + 1)).1
    simp only [visF]
    by_cases h : restL l c (i + 1) * 1 > 0 * c
    · rw [if_pos h]
      split <;> omega
    · rw [if_neg h, if_neg]
      · exact Nat.le_refl _
      · have hr : restL l c (i + 1) ≤ 0 := by omega
        have a : restL l c (i + 1) * z.2 ≤ 0 := Int.mul_nonpos_of_nonpos_of_nonneg hr (by omega)
        have b : 0 ≤ z.1 * c := Int.mul_nonneg h1 hc
        omega
theorem prod_bd {x y m n : Int} (hx : -m ≤ x ∧ x ≤ m) (hy : 0 ≤ y ∧ y ≤ n) (hm : 0 ≤ m) : -(m * n) ≤ x * y ∧ x * y ≤ m * n := by
  have h1 : x * y ≤ m * y := Int.mul_le_mul_of_nonneg_right hx.2 hy.1
  have h2 : m * y ≤ m * n := Int.mul_le_mul_of_nonneg_left hy.2 hm
  have h3 : -m * y ≤ x * y := Int.mul_le_mul_of_nonneg_right hx.1 hy.1
  have h4 : -m * y = -(m * y) := by grind
  omega
theorem vis_loop {l : List Int} (hl : l.length ≤ 1000) (hv : okP l) {c : Int} (hc : 1 ≤ c ∧ c ≤ 1000000) {z : ZZ} (hz : 0 < z.2 ∧ z.2 ≤ 1000000000 ∧ 0 ≤ z.1 ∧ z.1 ≤ z.2) : ∀ i, i ≤ l.length →
    Rcloud_VisibilityOf_0 (Tcloud_VisibilityOf_0a c l.length (encI l) i z.1 z.2) = exO (Xcloud_VisibilityOf_0a ((visF l c z (l.length - i) i : Nat), z.1, z.2)) := by
  refine up_ind _ ?_ ?_
  · refine Rcloud_VisibilityOf_0a_of _ _ _ _ _ _ ?_
    unfold Bcloud_VisibilityOf_0a
    rw [bif_neg (by omega), Nat.sub_self]
    rfl
  · intro i hi ih
    have wi : w64 ((i : Int) + 1) = ((i + 1 : Nat) : Int) := by rw [w64_in (by omega)]; omega
    refine Rcloud_VisibilityOf_0a_of _ _ _ _ _ _ ?_
    unfold Bcloud_VisibilityOf_0a
    have hb := restL_bd hl hv (c := c) (by omega) (i + 1)
    have hr := rest_is hl hv (c := c) (by omega) (i := i + 1) (by omega)
    have p1 := prod_bd (x := restL l c (i + 1)) (y := z.2) (m := 200000000) (n := 1000000000) (by omega) (by omega) (by omega)
    have p2 := prod_bd (x := z.1) (y := c) (m := 1000000000) (n := 1000000) (by omega) (by omega) (by omega)
    have w1 : w64 (restL l c (i + 1) * z.2) = restL l c (i + 1) * z.2 := w64_in (by omega)
    have w2 : w64 (z.1 * c) = z.1 * c := w64_in (by omega)
    rw [bif_pos (by omega)]
    simp only [wi, hr, bindO_val, w1, w2]
    have e : l.length - i = (l.length - (i + 1)) + 1 := by omega
    rw [e]
    simp only [visF]
    by_cases h : restL l c (i + 1) * z.2 > z.1 * c
    · rw [bif_pos h, if_pos h]
      exact ih
    · rw [bif_neg h, if_neg h]
      rfl
def visL (l : List Int) (c : Int) (z : ZZ) : Int := (visF l c z l.length 0 : Nat)
theorem vis_is {l : List Int} (h0 : profE l = 0) {c : Int} (hc : rangeE c 1 1000000 = 0) {z : ZZ} (hz : partE z = 0) (hs : ¬ l.sum > c) :
    Fcloud_VisibilityOf [.list l.length (encI l), .int .i64 c, .agg [.int .i64 z.1, .int .i64 z.2]] = some (visL l c z, 0) := by
  obtain ⟨h1, h2, h3⟩ := prof_ok h0
  have hc' := rangeE_ok hc
  have hz' := partE_ok hz
  refine Fcloud_VisibilityOf_of _ _ _ _ _ ?_
  unfold tcloud_VisibilityOf
  have hp := profileError_is l (by omega)
  rw [h0] at hp
  have hk := constantError_is c
  rw [hc] at hk
  have hpa := part_is z (by omega)
  rw [hz] at hpa
  have hsum := sum_is (l := l) (by omega) h3
  have f4 : Fn env 54 (RSh.one (CK.int .i64)) [.list 4 [.int .i64 0, .int .i64 0, .int .i64 0, .int .i64 0]] = some 0 := by
    have := firstError4_is 0 0 0 0
    exact this
  simp only [hp, hk, hpa, hsum, bindO_val]
  rw [bif_neg hs]
  have he : Fn env 62 (RSh.one (CK.int .i64)) [.bool false, .int .i64 20] = some 0 := by
    have := errorIf_is false 20
    exact this
  simp only [he, bindO_val, f4]
  rw [show ((0 : Int) != 0) = false from rfl, cond_false]
  have hq := vis_loop (l := l) (by omega) h3 hc' hz' 0 (by omega)
  have hL := Lcloud_VisibilityOf_0a_of hq
  have hL : Lcloud_VisibilityOf_0 (Tcloud_VisibilityOf_0a c l.length (encI l) 0 z.1 z.2) = _ := hL
  simp only [hL, bindO_val, Nat.sub_zero]
  rfl
theorem refRule_is (a b c : Int) : Fr_RuleErr [.agg [.int .i64 a, .int .i64 b, .int .i64 c]] = some (ruleE a b c) := by
  refine Fr_RuleErr_of _ _ _ ?_
  unfold tr_RuleErr ruleE
  simp only [within_is, bindO_val]
  by_cases h1 : 1 ≤ a ∧ a ≤ 10000
  · rw [bif_pos h1, if_pos h1]
    by_cases h2 : 0 ≤ b ∧ b ≤ 24
    · rw [bif_pos h2, if_pos h2]
      by_cases h3 : 1 ≤ c ∧ c ≤ 24
      · rw [bif_pos h3, if_pos h3]
      · rw [bif_neg h3, if_neg h3]
    · rw [bif_neg h2, if_neg h2]
  · rw [bif_neg h1, if_neg h1]
end Gv
