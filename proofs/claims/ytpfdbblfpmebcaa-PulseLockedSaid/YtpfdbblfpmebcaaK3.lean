/- PulseLocked: polynomials of one, two and three coefficients. -/
import Derived.KernelRfl
import Derived.Test.YtpfdbblfpmebcaaK2
namespace Gv
open Go
set_option maxRecDepth 100000

def restF : List Int → Int → Int
  | [], r => r
  | x :: l, r => restF l (w64 (r + absW x))

theorem kd0 (a b : List Int) (z t most : Int) (hl : 1 ≤ a.length ∧ a.length ≤ 3) (hw : Wrds a) : ∀ i, i ≤ a.length - 1 → ∀ r : Int,
    Rglidepathlaw01_PulseLocked_0 (Tglidepathlaw01_PulseLocked_0a a.length (encI a) b.length (encI b) z t most r i) = exO (Xglidepathlaw01_PulseLocked_0a (a.length, encI a, b.length, encI b, z, t, most, restF ((a.take (a.length - 1)).drop i) r)) := by
  refine up_ind _ ?_ ?_
  · intro r
    refine Rglidepathlaw01_PulseLocked_0a_of _ _ _ _ _ _ _ _ _ ?_
    unfold Bglidepathlaw01_PulseLocked_0a
    rw [w64_in (by omega), bif_neg (by omega), List.drop_of_length_le (by simp)]
    rfl
  · intro i hi ih r
    refine Rglidepathlaw01_PulseLocked_0a_of _ _ _ _ _ _ _ _ _ ?_
    unfold Bglidepathlaw01_PulseLocked_0a
    rw [w64_in (n := (a.length : Int) - 1) (by omega), bif_pos (by omega), bif_pos (by omega)]
    simp only [Int.toNat_natCast, Nat.mul_one, encI_get, get_getD 0 (show i < a.length by omega), Option.map_some, intC_int, bindO_val, sizeW_is _ (hw _ (getD_mem (l := a) (i := i) (by omega)))]
    obtain ⟨x, hx, hd⟩ := get_drop (l := a.take (a.length - 1)) (i := i) (by simp; omega)
    have hx2 : x = a.getD i 0 := by
      rw [List.getElem?_take, if_pos hi, get_getD 0 (show i < a.length by omega)] at hx
      exact (Option.some.inj hx).symm
    rw [hd, hx2, w64_in (n := (i : Int) + 1) (by omega)]
    exact ih _

theorem poly_bd {l : List Int} (h : polyE l = 0) {x : Int} (hx : x ∈ l) : Bd 60 x := (poly_ok h).2.2 x hx
theorem t_bd {t x : Int} (ht : -3 ≤ t ∧ t ≤ 3) (hx : Bd 60 x) : Bd 180 (t * x) := mul_bd (a := 3) (b := 60) ht hx
theorem w_tx {t x : Int} (ht : -3 ≤ t ∧ t ≤ 3) (hx : Bd 60 x) : w64 (t * x) = t * x := w64_bd (t_bd ht hx) (by omega)
theorem w_p0 {z x : Int} (hz : -3 ≤ z ∧ z ≤ 3) (hx : Bd 60 x) : w64 (0 - w64 (z * x)) = -z * x := by
  have h := t_bd hz hx
  have e : -z * x = -(z * x) := by grind
  unfold Bd at h
  rw [w_tx hz hx, w64_in (by omega), e]
  omega
theorem w_p1 {z x y : Int} (hz : -3 ≤ z ∧ z ≤ 3) (hx : Bd 60 x) (hy : Bd 60 y) : w64 (w64 (0 + x) - w64 (z * y)) = x - z * y := by
  have h := t_bd hz hy
  unfold Bd at h hx
  rw [w_tx hz hy, Int.zero_add, w64_in (n := x) (by omega), w64_in (by omega)]
theorem w_p2 {x : Int} (hx : Bd 60 x) : w64 (0 + x) = x := by
  unfold Bd at hx
  rw [Int.zero_add, w64_in (by omega)]
theorem abs_small {x : Int} (hx : Bd 60 x) : absW x = if x < 0 then -x else x := by
  unfold Bd at hx
  unfold absW
  split
  · rw [w64_in (by omega)]; omega
  · rfl

section
variable (b : List Int) (z t most : Int)

theorem locked1 (a0 : Int) (hok : okG [a0] b z t) : Fglidepathlaw01_PulseLocked [.list [a0].length (encI [a0]), .list b.length (encI b), .agg [.int .i64 z, .int .i64 t, .int .i64 most]] = some true := by
  obtain ⟨g1, g2, g3, g4, g5, g6, g7, g8⟩ := id hok
  have b0 := poly_bd g3 (x := a0) (by simp)
  refine locked_by [a0] b z t most [w64 (t * a0)] [w64 (0 - w64 (z * a0)), w64 (0 + a0)] _ hok rfl rfl (kd0 [a0] b z t most ⟨g1, g2⟩ (poly_wrds g3) 0 (by omega) 0) ?_ ?_ ?_ ?_
  · intro h
    rw [lck1]
    intro hz
    rw [hz] at h
    exact absurd h (by decide)
  · intro is
    have h2 : Rglidepathlaw01_PulseLocked_2 (Tglidepathlaw01_PulseLocked_2b 1 (encI [a0]) b.length (encI b) z t most is 1 (encI [w64 (t * a0)]) 2 1 (encI [w64 (0 - w64 (z * a0)), w64 (0 + a0)]) 1) =
        exO (Xglidepathlaw01_PulseLocked_2b (1, encI [a0], b.length, encI b, most, is, 1, encI [w64 (t * a0)], 2, encI [w64 (0 - w64 (z * a0)), w64 (0 + a0)], 1)) :=
      Rglidepathlaw01_PulseLocked_2b_of _ _ _ _ _ _ _ _ _ _ _ _ _ _ (by kernel_rfl)
    exact Rglidepathlaw01_PulseLocked_2a_of _ _ _ _ _ _ _ _ _ _ (Eq.trans (by kernel_rfl) h2)
  · intro _
    rw [w_tx g8 b0, lck1, lck1]
    constructor
    · intro h hz; exact h (by rw [hz, Int.mul_zero])
    · intro h hz
      rcases Int.mul_eq_zero.1 hz with q | q
      · exact g7 q
      · exact h q
  · intro hp
    rw [w_p0 g6 b0, w_p2 b0] at hp ⊢
    have q0 := poly_bd hp (x := -z * a0) (by simp)
    rw [lck2 (m := 60) q0 b0 (by omega) (by omega)]
    unfold Lt
    have : z = 1 ∨ z = -1 ∨ z = 2 ∨ z = -2 ∨ z = 3 ∨ z = -3 := by omega
    rcases this with rfl | rfl | rfl | rfl | rfl | rfl <;> omega

theorem locked2 (a0 a1 : Int) (hok : okG [a0, a1] b z t) : Fglidepathlaw01_PulseLocked [.list [a0, a1].length (encI [a0, a1]), .list b.length (encI b), .agg [.int .i64 z, .int .i64 t, .int .i64 most]] = some true := by
  obtain ⟨g1, g2, g3, g4, g5, g6, g7, g8⟩ := id hok
  have b0 := poly_bd g3 (x := a0) (by simp)
  have b1 := poly_bd g3 (x := a1) (by simp)
  refine locked_by [a0, a1] b z t most [w64 (t * a0), w64 (t * a1)] [w64 (0 - w64 (z * a0)), w64 (w64 (0 + a0) - w64 (z * a1)), w64 (0 + a1)] _ hok rfl rfl (kd0 [a0, a1] b z t most ⟨g1, g2⟩ (poly_wrds g3) 0 (by omega) 0) ?_ ?_ ?_ ?_
  · intro h
    rw [lck2 (m := 60) b0 b1 (by omega) (by omega)]
    have h : absW a1 > w64 (0 + absW a0) := h
    rw [abs_small b0, abs_small b1] at h
    unfold Bd at b0 b1
    unfold Lt
    rw [w64_in (by split <;> omega)] at h
    split at h <;> split at h <;> omega
  · intro is
    have h3 : Rglidepathlaw01_PulseLocked_2 (Tglidepathlaw01_PulseLocked_2b 2 (encI [a0, a1]) b.length (encI b) z t most is 2 (encI [w64 (t * a0), w64 (t * a1)]) 3 2 (encI [w64 (0 - w64 (z * a0)), w64 (w64 (0 + a0) - w64 (z * a1)), w64 (0 + a1)]) 2) =
        exO (Xglidepathlaw01_PulseLocked_2b (2, encI [a0, a1], b.length, encI b, most, is, 2, encI [w64 (t * a0), w64 (t * a1)], 3, encI [w64 (0 - w64 (z * a0)), w64 (w64 (0 + a0) - w64 (z * a1)), w64 (0 + a1)], 2)) :=
      Rglidepathlaw01_PulseLocked_2b_of _ _ _ _ _ _ _ _ _ _ _ _ _ _ (by kernel_rfl)
    have h2 : Rglidepathlaw01_PulseLocked_2 (Tglidepathlaw01_PulseLocked_2b 2 (encI [a0, a1]) b.length (encI b) z t most is 1 (encI [w64 (t * a0)]) 3 1 (encI [w64 (0 - w64 (z * a0)), w64 (0 + a0), 0]) 1) = _ :=
      Rglidepathlaw01_PulseLocked_2b_of _ _ _ _ _ _ _ _ _ _ _ _ _ _ (Eq.trans (by kernel_rfl) h3)
    exact Rglidepathlaw01_PulseLocked_2a_of _ _ _ _ _ _ _ _ _ _ (Eq.trans (by kernel_rfl) h2)
  · intro _
    rw [w_tx g8 b0, w_tx g8 b1, lck2 (m := 180) (t_bd g8 b0) (t_bd g8 b1) (by omega) (by omega), lck2 (m := 60) b0 b1 (by omega) (by omega), lt_scale g7]
  · intro hp
    rw [w_p0 g6 b0, w_p1 g6 b0 b1, w_p2 b1] at hp ⊢
    have q0 := poly_bd hp (x := -z * a0) (by simp)
    have q1 := poly_bd hp (x := a0 - z * a1) (by simp)
    rw [lck3 (m := 60) q0 q1 b1 (by omega) (by omega) (by omega)]
    exact fun h => zero2 g5 h.1 h.2

theorem locked3 (a0 a1 a2 : Int) (hok : okG [a0, a1, a2] b z t) : Fglidepathlaw01_PulseLocked [.list [a0, a1, a2].length (encI [a0, a1, a2]), .list b.length (encI b), .agg [.int .i64 z, .int .i64 t, .int .i64 most]] = some true := by
  obtain ⟨g1, g2, g3, g4, g5, g6, g7, g8⟩ := id hok
  have b0 := poly_bd g3 (x := a0) (by simp)
  have b1 := poly_bd g3 (x := a1) (by simp)
  have b2 := poly_bd g3 (x := a2) (by simp)
  refine locked_by [a0, a1, a2] b z t most [w64 (t * a0), w64 (t * a1), w64 (t * a2)] [w64 (0 - w64 (z * a0)), w64 (w64 (0 + a0) - w64 (z * a1)), w64 (w64 (0 + a1) - w64 (z * a2)), w64 (0 + a2)] _ hok rfl rfl (kd0 [a0, a1, a2] b z t most ⟨g1, g2⟩ (poly_wrds g3) 0 (by omega) 0) ?_ ?_ ?_ ?_
  · intro h
    rw [lck3 (m := 60) b0 b1 b2 (by omega) (by omega) (by omega)]
    have h : absW a2 > w64 (w64 (0 + absW a0) + absW a1) := h
    rw [abs_small b0, abs_small b1, abs_small b2] at h
    unfold Bd at b0 b1 b2
    unfold Lt
    obtain ⟨u, hu⟩ : ∃ u, u = if a0 < 0 then -a0 else a0 := ⟨_, rfl⟩
    obtain ⟨v, hv⟩ : ∃ v, v = if a1 < 0 then -a1 else a1 := ⟨_, rfl⟩
    obtain ⟨x, hx⟩ : ∃ x, x = if a2 < 0 then -a2 else a2 := ⟨_, rfl⟩
    rw [← hu, ← hv, ← hx] at h
    have u1 : 0 ≤ u ∧ u ≤ 60 ∧ (u = a0 ∨ u = -a0) := by split at hu <;> omega
    have v1 : 0 ≤ v ∧ v ≤ 60 ∧ (v = a1 ∨ v = -a1) := by split at hv <;> omega
    have x1 : 0 ≤ x ∧ (x = a2 ∨ x = -a2) := by split at hx <;> omega
    rw [w64_in (n := 0 + u) (by omega), w64_in (by omega)] at h
    omega
  · intro is
    have h4 : Rglidepathlaw01_PulseLocked_2 (Tglidepathlaw01_PulseLocked_2b 3 (encI [a0, a1, a2]) b.length (encI b) z t most is 3 (encI [w64 (t * a0), w64 (t * a1), w64 (t * a2)]) 4 3 (encI [w64 (0 - w64 (z * a0)), w64 (w64 (0 + a0) - w64 (z * a1)), w64 (w64 (0 + a1) - w64 (z * a2)), w64 (0 + a2)]) 3) =
        exO (Xglidepathlaw01_PulseLocked_2b (3, encI [a0, a1, a2], b.length, encI b, most, is, 3, encI [w64 (t * a0), w64 (t * a1), w64 (t * a2)], 4, encI [w64 (0 - w64 (z * a0)), w64 (w64 (0 + a0) - w64 (z * a1)), w64 (w64 (0 + a1) - w64 (z * a2)), w64 (0 + a2)], 3)) :=
      Rglidepathlaw01_PulseLocked_2b_of _ _ _ _ _ _ _ _ _ _ _ _ _ _ (by kernel_rfl)
    have h3 : Rglidepathlaw01_PulseLocked_2 (Tglidepathlaw01_PulseLocked_2b 3 (encI [a0, a1, a2]) b.length (encI b) z t most is 2 (encI [w64 (t * a0), w64 (t * a1)]) 4 2 (encI [w64 (0 - w64 (z * a0)), w64 (w64 (0 + a0) - w64 (z * a1)), w64 (0 + a1), 0]) 2) = _ :=
      Rglidepathlaw01_PulseLocked_2b_of _ _ _ _ _ _ _ _ _ _ _ _ _ _ (Eq.trans (by kernel_rfl) h4)
    have h2 : Rglidepathlaw01_PulseLocked_2 (Tglidepathlaw01_PulseLocked_2b 3 (encI [a0, a1, a2]) b.length (encI b) z t most is 1 (encI [w64 (t * a0)]) 4 1 (encI [w64 (0 - w64 (z * a0)), w64 (0 + a0), 0, 0]) 1) = _ :=
      Rglidepathlaw01_PulseLocked_2b_of _ _ _ _ _ _ _ _ _ _ _ _ _ _ (Eq.trans (by kernel_rfl) h3)
    exact Rglidepathlaw01_PulseLocked_2a_of _ _ _ _ _ _ _ _ _ _ (Eq.trans (by kernel_rfl) h2)
  · intro _
    have e : t * a2 + t * a0 = t * (a2 + a0) := by grind
    rw [w_tx g8 b0, w_tx g8 b1, w_tx g8 b2, lck3 (m := 180) (t_bd g8 b0) (t_bd g8 b1) (t_bd g8 b2) (by omega) (by omega) (by omega), lck3 (m := 60) b0 b1 b2 (by omega) (by omega) (by omega), e, lt_scale g7, lt_scale g7]
  · intro hp
    rw [w_p0 g6 b0, w_p1 g6 b0 b1, w_p1 g6 b1 b2, w_p2 b2] at hp ⊢
    have q0 := poly_bd hp (x := -z * a0) (by simp)
    have q1 := poly_bd hp (x := a0 - z * a1) (by simp)
    have q2 := poly_bd hp (x := a1 - z * a2) (by simp)
    rw [lck4 q0 q1 q2 b2]
    exact fun h => zero3 g5 h.1 h.2.1 h.2.2

theorem lockedLaw (a : List Int) : Fglidepathlaw01_PulseLocked [.list a.length (encI a), .list b.length (encI b), .agg [.int .i64 z, .int .i64 t, .int .i64 most]] = some true := by
  by_cases hok : okG a b z t
  · match a, hok with
    | [], h => exact absurd h.1 (by simp)
    | [a0], h => exact locked1 b z t most a0 h
    | [a0, a1], h => exact locked2 b z t most a0 a1 h
    | [a0, a1, a2], h => exact locked3 b z t most a0 a1 a2 h
    | _ :: _ :: _ :: _ :: _, h => exact absurd h.2.1 (by simp)
  · refine Fglidepathlaw01_PulseLocked_of _ _ _ _ _ _ _ ?_
    unfold tglidepathlaw01_PulseLocked
    have p127 := kd127 a b z t most
    rw [if_neg hok] at p127
    have L127 := Lglidepathlaw01_PulseLocked_1000127a_of p127
    simp only [awake_is, bindO_val, cond_true, L127, Sum.elim_inl]
end
end Gv
