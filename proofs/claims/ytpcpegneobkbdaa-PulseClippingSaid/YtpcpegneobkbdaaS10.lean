/- Energies under jitter: the program's and the specification's; the errors of gates. -/
import Derived.Test.YtpcpegneobkbdaaS9
namespace Gv
open Go
set_option maxRecDepth 100000

def gEnd (g : Gt) : Option (Int × Int) → Option (Ext × S)
  | some p => exO (Xglidepathref01_CheckGates_0a p.1)
  | none => exO (Xglidepathref01_CheckGates_0b (g.first, g.hop, g.count, g.ws.length, encI g.ws))

theorem gEnd_some (g : Gt) (o : Option (Int × Int)) : ∃ r, gEnd g o = some r := by
  cases o
  · exact ⟨_, rfl⟩
  · exact ⟨_, rfl⟩

theorem refGates_loop (g : Gt) (hl : g.ws.length < 4294967296) : ∀ i, i ≤ g.ws.length →
    Rglidepathref01_CheckGates_0 (Tglidepathref01_CheckGates_0a i g.first g.hop g.count g.ws.length (encI g.ws)) =
      gEnd g (findE (fun x => rangeE x 0 100) (g.ws.drop i) i) := by
  refine up_ind _ ?_ ?_
  · rw [List.drop_length]
    show _ = exO (Xglidepathref01_CheckGates_0b (g.first, g.hop, g.count, g.ws.length, encI g.ws))
    refine Rglidepathref01_CheckGates_0a_of _ _ _ _ _ _ ?_
    unfold Bglidepathref01_CheckGates_0a
    rw [bif_neg (by omega)]
    rfl
  · intro i hi ih
    obtain ⟨x, hx, hd⟩ := get_drop hi
    by_cases he : 0 ≤ x ∧ x ≤ 100
    · have e0 := rangeE_in he
      rw [hd]
      simp only [findE, e0, ne_eq, not_true_eq_false, if_false]
      obtain ⟨r, hr⟩ := gEnd_some g (findE (fun x => rangeE x 0 100) (g.ws.drop (i + 1)) (i + 1))
      rw [hr] at ih ⊢
      refine Rglidepathref01_CheckGates_0a_of _ _ _ _ _ _ ?_
      unfold Bglidepathref01_CheckGates_0a
      rw [bif_pos (by omega), bif_pos (by omega)]
      simp only [Int.toNat_natCast, Nat.mul_one, encI_get, hx, Option.map_some, intC_int, bindO_val, within_is]
      rw [bif_pos he, w64_in (by omega)]
      exact ih
    · have e0 := rangeE_out he
      rw [hd]
      simp only [findE, e0]
      rw [if_pos (by decide)]
      show _ = exO (Xglidepathref01_CheckGates_0a i)
      refine Rglidepathref01_CheckGates_0a_of _ _ _ _ _ _ ?_
      unfold Bglidepathref01_CheckGates_0a
      rw [bif_pos (by omega), bif_pos (by omega)]
      simp only [Int.toNat_natCast, Nat.mul_one, encI_get, hx, Option.map_some, intC_int, bindO_val, within_is]
      rw [bif_neg he]
      rfl

theorem firstError4_zero {a b c d : Int} (h : first4 a b c d = 0) : a = 0 ∧ b = 0 ∧ c = 0 ∧ d = 0 := by
  unfold first4 at h
  split at h
  · contradiction
  · split at h
    · contradiction
    · split at h
      · contradiction
      · exact ⟨by omega, by omega, by omega, h⟩

def enE (l : List ZZ) (g : Gt) (k off : Int) : Int := first4 (gatesE g) (blockE l) (gateE g k) (rangeE off 0 8)
def enR (l : List ZZ) (g : Gt) (k off : Int) : Int × Int := rng (eAt l g k) (2 * off + 1).toNat (-off) (eAt l g k 0) (eAt l g k 0)

theorem eAt_zero (l : List ZZ) (g : Gt) (k : Int) : eAt l g k 0 = energy (wtd l (baseG g k) g.ws 0) 0 := by
  unfold eAt
  rw [Int.add_zero, show w64 (baseG g k) = baseG g k from w64_w64 _]

theorem energyIn_is (l : List ZZ) (g : Gt) (k off : Int) (hl : l.length ≤ 1000) (hw : g.ws.length ≤ 1000) : Fpulse_EnergyIn [encGt g, .list l.length (encG l), .agg [.int .i64 k, .int .i64 off]] =
    some (if enE l g k off ≠ 0 then (0, 0, enE l g k off) else ((enR l g k off).1, (enR l g k off).2, 0)) := by
  refine Fpulse_EnergyIn_of _ _ _ _ _ _ _ _ _ ?_
  unfold tpulse_EnergyIn
  have g1 := gatesError_is g (by omega)
  have g2 := gateError_is g k
  have g3 := firstIndex_is g k
  have g4 := weighted_is l (baseG g k) g.ws hw
  have g5 := energyOf_is (wtd l (baseG g k) g.ws 0) (by rw [wtd_len]; omega)
  rw [wtd_len] at g5
  unfold encGt at g1 g2 g3
  rw [show w64 (g.first + w64 (k * g.hop)) = baseG g k from rfl] at g3
  simp only [g1, g2, g3, g4, g5, blockError_is l (by omega), rangeError_is, firstError4_is, bindO_val, bif_ne]
  rw [show first4 (gatesE g) (blockE l) (gateE g k) (rangeE off 0 8) = enE l g k off from rfl]
  by_cases h : enE l g k off = 0
  · rw [if_pos h, if_neg (by simpa using h)]
    obtain ⟨_, _, _, h4⟩ := firstError4_zero h
    have ho : 0 ≤ off ∧ off ≤ 8 := by
      unfold rangeE at h4
      split at h4
      · cases h4
      · omega
    have := Lpulse_EnergyIn_0a_of (energyIn_loop l g k off hw (by omega) (2 * off + 1).toNat (-off) (eAt l g k 0) (eAt l g k 0) (by omega) (by omega))
    rw [w64_in (by omega), Int.zero_sub, ← eAt_zero, this]
    rfl
  · rw [if_neg h, if_pos h]

theorem energies_is (l : List ZZ) (g : Gt) (k off : Int) (hl : 1 ≤ l.length ∧ l.length ≤ 1000) (hw : 1 ≤ g.ws.length ∧ g.ws.length ≤ 1000) (ho : 0 ≤ off ∧ off ≤ 8) : Fglidepathref01_Energies [encGt g, .list l.length (encG l), .agg [.int .i64 k, .int .i64 off]] = some (enR l g k off) := by
  refine Fglidepathref01_Energies_of _ _ _ _ _ _ _ _ _ ?_
  unfold tglidepathref01_Energies
  have g4 := refGate_is l g k 0 (by omega) hw
  have g5 := refEnergy_is (wtd l (w64 (baseG g k + 0)) g.ws 0) (by rw [wtd_len]; omega)
  rw [wtd_len] at g5
  unfold encGt at g4
  have := Lglidepathref01_Energies_0a_of (energies_loop l g k off (by omega) hw (by omega) (2 * off + 1).toNat (-off) (eAt l g k 0) (eAt l g k 0) (by omega) (by omega))
  simp only [g4, g5, bindO_val]
  rw [w64_in (by omega), Int.zero_sub]
  rw [show energy (wtd l (w64 (baseG g k + 0)) g.ws 0) 0 = eAt l g k 0 from rfl, this]
  rfl
end Gv
