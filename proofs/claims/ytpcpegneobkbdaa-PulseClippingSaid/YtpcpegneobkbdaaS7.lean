/- Gates with their weights, and energies. -/
import Derived.Test.YtpcpegneobkbdaaS6
namespace Gv
open Go
set_option maxRecDepth 100000

/-- A sample times a weight; 0 where there is none. -/
def wz (l : List ZZ) (at' w : Int) : ZZ := if 0 ≤ at' ∧ at' < l.length then ((l[at'.toNat]?).map fun z => (w64 (w * z.1), w64 (w * z.2))).getD (0, 0) else (0, 0)
def wtd (l : List ZZ) (first : Int) : List Int → Nat → List ZZ
  | [], _ => []
  | w :: ws, j => wz l (w64 (first + j)) w :: wtd l first ws (j + 1)
theorem wtd_len (l : List ZZ) (first : Int) : ∀ (ws : List Int) (j : Nat), (wtd l first ws j).length = ws.length
  | [], _ => rfl
  | w :: ws, j => by simp [wtd, wtd_len l first ws (j + 1)]

theorem over_same (pre r : List ZZ) (a : ZZ) : over (encG (pre ++ a :: r)) (0 + pre.length * 2) [.int .i64 a.1, .int .i64 a.2] = encG (pre ++ a :: r) := over_G pre r a a

theorem wtd_loop (l : List ZZ) (first : Int) (ws : List Int) (hw : ws.length ≤ 1000) : ∀ i, i ≤ ws.length → ∀ pre : List ZZ, pre.length = i →
    Rpulse_weighted_0 (Tpulse_weighted_0a l.length (encG l) first ws.length ws.length (encI ws) ws.length i (encG (pre ++ List.replicate (ws.length - i) (0, 0)))) = exO (Xpulse_weighted_0a (ws.length, encG (pre ++ wtd l first (ws.drop i) i))) := by
  refine up_ind _ ?_ ?_
  · intro pre hp
    refine Rpulse_weighted_0a_of _ _ _ _ _ _ _ _ _ ?_
    unfold Bpulse_weighted_0a
    rw [bif_neg (by omega), List.drop_length, Nat.sub_self]
    rfl
  · intro i hi ih pre hp
    refine Rpulse_weighted_0a_of _ _ _ _ _ _ _ _ _ ?_
    unfold Bpulse_weighted_0a
    obtain ⟨x, hx, hd⟩ := get_drop hi
    have hr : List.replicate (ws.length - i) ((0, 0) : ZZ) = (0, 0) :: List.replicate (ws.length - (i + 1)) (0, 0) := by
      rw [show ws.length - i = (ws.length - (i + 1)) + 1 by omega, List.replicate_succ]
    have next := ih (pre ++ [wz l (w64 (first + i)) x]) (by simp [hp])
    rw [List.append_assoc, List.singleton_append, List.append_assoc, List.singleton_append] at next
    rw [bif_pos (by omega), bif_pos (by omega)]
    simp only [Int.toNat_natCast, Nat.mul_one, encI_get, hx, Option.map_some, intC_int, bindO_val, Nat.add_zero]
    rw [w64_in (n := (i : Int) + 1) (by omega), hd]
    simp only [wtd]
    generalize w64 (first + i) = q at next ⊢
    by_cases h0 : 0 ≤ q
    · rw [bif_pos h0]
      by_cases h1 : q < l.length
      · rw [bif_pos h1, bif_pos ⟨h0, h1⟩]
        obtain ⟨n, rfl⟩ : ∃ n : Nat, q = n := ⟨q.toNat, by omega⟩
        obtain ⟨z, hz, _⟩ := get_drop (l := l) (i := n) (by omega)
        have e : wz l n x = (w64 (x * z.1), w64 (x * z.2)) := by
          unfold wz
          rw [if_pos ⟨h0, h1⟩, Int.toNat_natCast, hz]
          rfl
        simp only [Int.toNat_natCast, encG_0, encG_1, hz, Option.map_some, intC_int, bindO_val]
        rw [bif_pos ⟨h0, h1⟩, bif_pos (by omega), bif_pos (by simp; omega), hr, ← hp]
        rw [e] at next ⊢
        have ov := over_G pre (List.replicate (ws.length - (pre.length + 1)) (0, 0)) (0, 0) (w64 (x * z.1), w64 (x * z.2))
        simp only at ov
        rw [ov]
        rw [← hp] at next
        exact next
      · rw [bif_neg h1, hr]
        have e : wz l q x = (0, 0) := by unfold wz; rw [if_neg (by omega)]
        rw [e] at next ⊢
        exact next
    · rw [bif_neg h0, hr]
      have e : wz l q x = (0, 0) := by unfold wz; rw [if_neg (by omega)]
      rw [e] at next ⊢
      exact next

theorem weighted_is (l : List ZZ) (first : Int) (ws : List Int) (hw : ws.length ≤ 1000) : Fpulse_weighted [.list l.length (encG l), .int .i64 first, .list ws.length (encI ws)] = some (ws.length, encG (wtd l first ws 0)) := by
  refine Fpulse_weighted_of _ _ _ _ _ ?_
  unfold tpulse_weighted
  rw [bif_pos ⟨rfl, by omega, by simp only [big]; omega⟩, Int.toNat_natCast, rep_G]
  have := Lpulse_weighted_0a_of (wtd_loop l first ws hw 0 (by omega) [] rfl)
  have this : Lpulse_weighted_0 (Tpulse_weighted_0a l.length (encG l) first ws.length ws.length (encI ws) ws.length 0 (encG (List.replicate ws.length (0, 0)))) = some (ws.length, encG (wtd l first ws 0)) := this
  rw [this]
  simp only [bindO_val]
  have hlen : (encG (wtd l first ws 0)).length = ws.length * 2 := by rw [encG_len, wtd_len]
  rw [bif_pos (by rw [hlen]; omega), List.drop_zero, List.take_of_length_le (by rw [hlen]; omega)]

/-! Energies -/
def normZ (z : ZZ) : Int := w64 (w64 (z.1 * z.1) + w64 (z.2 * z.2))
def energy : List ZZ → Int → Int
  | [], e => e
  | z :: l, e => energy l (w64 (e + normZ z))

theorem power_is (z : ZZ) : Fpulse_powerOf [.agg [.int .i64 z.1, .int .i64 z.2]] = some (normZ z) := Fpulse_powerOf_of _ _ rfl
theorem gnorm_is (z : ZZ) : Fglidepathbase_GNorm [.agg [.int .i64 z.1, .int .i64 z.2]] = some (normZ z) := Fglidepathbase_GNorm_of _ _ rfl

theorem energy_loop (l : List ZZ) (hl : l.length < 4294967296) : ∀ i, i ≤ l.length → ∀ e : Int,
    Rpulse_energyOf_0 (Tpulse_energyOf_0a e l.length (encG l) l.length i) = exO (Xpulse_energyOf_0a (energy (l.drop i) e)) := by
  refine up_ind _ ?_ ?_
  · intro e
    refine Rpulse_energyOf_0a_of _ _ _ _ _ ?_
    unfold Bpulse_energyOf_0a
    rw [bif_neg (by omega), List.drop_length]
    rfl
  · intro i hi ih e
    refine Rpulse_energyOf_0a_of _ _ _ _ _ ?_
    unfold Bpulse_energyOf_0a
    obtain ⟨x, hx, hd⟩ := get_drop hi
    rw [bif_pos (by omega), bif_pos (by omega)]
    simp only [Int.toNat_natCast, encG_0, encG_1, hx, Option.map_some, intC_int, bindO_val, power_is x]
    rw [w64_in (n := (i : Int) + 1) (by omega), hd]
    exact ih (w64 (e + normZ x))

theorem energyOf_is (l : List ZZ) (hl : l.length < 4294967296) : Fpulse_energyOf [.list l.length (encG l)] = some (energy l 0) := by
  refine Fpulse_energyOf_of _ _ ?_
  unfold tpulse_energyOf
  have := Lpulse_energyOf_0a_of (energy_loop l hl 0 (by omega) 0)
  have this : Lpulse_energyOf_0 (Tpulse_energyOf_0a 0 l.length (encG l) l.length 0) = some (energy l 0) := this
  rw [this]
  rfl

theorem refEnergy_loop (l : List ZZ) (hl : l.length < 4294967296) : ∀ i, i ≤ l.length → ∀ e : Int,
    Rglidepathref01_Energy_0 (Tglidepathref01_Energy_0a l.length (encG l) e i) = exO (Xglidepathref01_Energy_0a (energy (l.drop i) e)) := by
  refine up_ind _ ?_ ?_
  · intro e
    refine Rglidepathref01_Energy_0a_of _ _ _ _ ?_
    unfold Bglidepathref01_Energy_0a
    rw [bif_neg (by omega), List.drop_length]
    rfl
  · intro i hi ih e
    refine Rglidepathref01_Energy_0a_of _ _ _ _ ?_
    unfold Bglidepathref01_Energy_0a
    obtain ⟨x, hx, hd⟩ := get_drop hi
    rw [bif_pos (by omega), bif_pos (by omega)]
    simp only [Int.toNat_natCast, encG_0, encG_1, hx, Option.map_some, intC_int, bindO_val, gnorm_is x]
    rw [w64_in (n := (i : Int) + 1) (by omega), hd]
    exact ih (w64 (e + normZ x))

theorem refEnergy_is (l : List ZZ) (hl : l.length < 4294967296) : Fglidepathref01_Energy [.list l.length (encG l)] = some (energy l 0) := by
  refine Fglidepathref01_Energy_of _ _ ?_
  unfold tglidepathref01_Energy
  have := Lglidepathref01_Energy_0a_of (refEnergy_loop l hl 0 (by omega) 0)
  have this : Lglidepathref01_Energy_0 (Tglidepathref01_Energy_0a l.length (encG l) 0 0) = some (energy l 0) := this
  rw [this]
  rfl

/-! The specification's gates -/
theorem at_eq (F j s : Int) : w64 (w64 (F + j) + s) = w64 (w64 (F + s) + j) := by
  rw [w64_add_l, w64_add_l]
  congr 1
  omega

theorem refGate_step (l : List ZZ) (at' w : Int) (hl : 1 ≤ l.length ∧ l.length < 4294967296) {α : Type} (k : ZZ → Option α) (g1 g2 : Option α)
    (h1 : 0 ≤ at' ∧ at' < l.length → g1 = k (wz l at' w)) (h2 : ¬ (0 ≤ at' ∧ at' < l.length) → g2 = k (0, 0)) :
    (bif decide (0 ≤ at' ∧ at' ≤ w64 ((l.length : Int) - 1)) then g1 else g2) = k (wz l at' w) := by
  rw [w64_in (by omega)]
  by_cases h : 0 ≤ at' ∧ at' < l.length
  · rw [bif_pos (by omega)]
    exact h1 h
  · rw [bif_neg (by omega), h2 h]
    unfold wz
    rw [if_neg h]
end Gv
