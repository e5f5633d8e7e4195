/- Energies of a gate under jitter. -/
import Derived.Test.YtpcpegneobkbdaaS8
namespace Gv
open Go
set_option maxRecDepth 100000

def baseG (g : Gt) (k : Int) : Int := w64 (g.first + w64 (k * g.hop))

theorem refGate_is (l : List ZZ) (g : Gt) (k s : Int) (hl : 1 ≤ l.length ∧ l.length < 4294967296) (hw : 1 ≤ g.ws.length ∧ g.ws.length ≤ 1000) :
    Fglidepathref01_Gate [encGt g, .list l.length (encG l), .int .i64 k, .int .i64 s] = some (g.ws.length, encG (wtd l (w64 (baseG g k + s)) g.ws 0)) := by
  refine Fglidepathref01_Gate_of _ _ _ _ _ _ _ _ _ ?_
  unfold tglidepathref01_Gate
  have key : Rglidepathref01_Gate_0 (Tglidepathref01_Gate_0a l.length (encG l) k s g.first g.hop g.count g.ws.length (encI g.ws)) =
      exO (Xglidepathref01_Gate_0b (g.ws.length, encG (wtd l (w64 (baseG g k + s)) g.ws 0), g.first, g.hop, g.count, g.ws.length, encI g.ws, g.ws.length)) := by
    refine Rglidepathref01_Gate_0a_of _ _ _ _ _ _ _ _ _ ?_
    unfold Bglidepathref01_Gate_0a
    obtain ⟨x, hx, hd⟩ := get_drop (l := g.ws) (i := 0) (by omega)
    rw [List.drop_zero] at hd
    have next := refGate_loop l g k s hl hw.2 1 (by omega) [wz l (w64 (w64 (baseG g k + s) + ((0 : Nat) : Int))) x] rfl
    have e1 : wtd l (w64 (baseG g k + s)) g.ws 0 = wz l (w64 (w64 (baseG g k + s) + ((0 : Nat) : Int))) x :: wtd l (w64 (baseG g k + s)) (g.ws.drop 1) 1 := by
      conv => lhs; rw [hd]
      rfl
    have hat : w64 (w64 (w64 (g.first + w64 (k * g.hop)) + 0) + s) = w64 (w64 (baseG g k + s) + ((0 : Nat) : Int)) := at_eq _ _ _
    rw [e1, bif_pos (by omega), hat]
    rw [show w64 (w64 (g.first + w64 (k * g.hop)) + s) = w64 (baseG g k + s) from rfl] at next
    generalize hq : w64 (w64 (baseG g k + s) + ((0 : Nat) : Int)) = q at next ⊢
    simp only [within_is, bindO_val, encI_get, hx, Option.map_some, intC_int]
    rw [w64_in (n := (l.length : Int) - 1) (by omega)]
    by_cases h : 0 ≤ q ∧ q < l.length
    · obtain ⟨n, rfl⟩ : ∃ n : Nat, q = n := ⟨q.toNat, by omega⟩
      obtain ⟨z, hz, _⟩ := get_drop (l := l) (i := n) (by omega)
      have e : wz l n x = (w64 (x * z.1), w64 (x * z.2)) := by
        unfold wz
        rw [if_pos h, Int.toNat_natCast, hz]
        rfl
      rw [bif_pos (by omega), bif_pos (by omega), bif_pos h]
      simp only [Int.toNat_natCast, Nat.add_zero, encG_0, encG_1, hz, Option.map_some, intC_int, bindO_val]
      rw [bif_pos (by omega), bif_pos h]
      rw [e] at next ⊢
      exact next
    · have e : wz l q x = (0, 0) := by unfold wz; rw [if_neg h]
      rw [bif_neg (by omega)]
      rw [e] at next ⊢
      exact next
  have := Lglidepathref01_Gate_0b_of key
  rw [this]
  simp only [bindO_val, Sum.elim_inr]
  rw [bif_pos trivial]

/-- The energy of a gate that is shifted. -/
def eAt (l : List ZZ) (g : Gt) (k s : Int) : Int := energy (wtd l (w64 (baseG g k + s)) g.ws 0) 0

def rng (e : Int → Int) : Nat → Int → Int → Int → Int × Int
  | 0, _, lo, hi => (lo, hi)
  | n + 1, s, lo, hi => rng e n (s + 1) (if e s < lo then e s else lo) (if e s > hi then e s else hi)

theorem energyIn_loop (l : List ZZ) (g : Gt) (k off : Int) (hw : g.ws.length ≤ 1000) (ho : 0 ≤ off ∧ off ≤ 1000) : ∀ (n : Nat) (s lo hi : Int), s + n = off + 1 → -1000 ≤ s →
    Rpulse_EnergyIn_0 (Tpulse_EnergyIn_0a l.length (encG l) (baseG g k) s g.first g.hop g.count g.ws.length (encI g.ws) k off lo hi) =
      exO (Xpulse_EnergyIn_0a (g.first, g.hop, g.count, g.ws.length, encI g.ws, k, off, (rng (eAt l g k) n s lo hi).1, (rng (eAt l g k) n s lo hi).2))
  | 0, s, lo, hi, hs, h1 => by
    refine Rpulse_EnergyIn_0a_of _ _ _ _ _ _ _ _ _ _ _ _ _ ?_
    unfold Bpulse_EnergyIn_0a
    rw [bif_neg (by omega)]
    rfl
  | n + 1, s, lo, hi, hs, h1 => by
    refine Rpulse_EnergyIn_0a_of _ _ _ _ _ _ _ _ _ _ _ _ _ ?_
    unfold Bpulse_EnergyIn_0a
    rw [bif_pos (by omega)]
    have hwt := weighted_is l (w64 (baseG g k + s)) g.ws hw
    have hen := energyOf_is (wtd l (w64 (baseG g k + s)) g.ws 0) (by rw [wtd_len]; omega)
    rw [wtd_len] at hen
    simp only [hwt, hen, bindO_val]
    rw [w64_in (n := s + 1) (by omega)]
    exact energyIn_loop l g k off hw ho n (s + 1) _ _ (by omega) (by omega)

theorem energies_loop (l : List ZZ) (g : Gt) (k off : Int) (hl : 1 ≤ l.length ∧ l.length < 4294967296) (hw : 1 ≤ g.ws.length ∧ g.ws.length ≤ 1000) (ho : 0 ≤ off ∧ off ≤ 1000) : ∀ (n : Nat) (s lo hi : Int), s + n = off + 1 → -1000 ≤ s →
    Rglidepathref01_Energies_0 (Tglidepathref01_Energies_0a l.length (encG l) s g.first g.hop g.count g.ws.length (encI g.ws) k off lo hi) =
      exO (Xglidepathref01_Energies_0a (g.first, g.hop, g.count, g.ws.length, encI g.ws, k, off, (rng (eAt l g k) n s lo hi).1, (rng (eAt l g k) n s lo hi).2))
  | 0, s, lo, hi, hs, h1 => by
    refine Rglidepathref01_Energies_0a_of _ _ _ _ _ _ _ _ _ _ _ _ ?_
    unfold Bglidepathref01_Energies_0a
    rw [bif_neg (by omega)]
    rfl
  | n + 1, s, lo, hi, hs, h1 => by
    refine Rglidepathref01_Energies_0a_of _ _ _ _ _ _ _ _ _ _ _ _ ?_
    unfold Bglidepathref01_Energies_0a
    rw [bif_pos (by omega)]
    have hwt := refGate_is l g k s hl hw
    have hen := refEnergy_is (wtd l (w64 (baseG g k + s)) g.ws 0) (by rw [wtd_len]; omega)
    rw [wtd_len] at hen
    unfold encGt at hwt
    simp only [hwt, hen, bindO_val]
    rw [w64_in (n := s + 1) (by omega)]
    exact energies_loop l g k off hl hw ho n (s + 1) _ _ (by omega) (by omega)

theorem rng_le (e : Int → Int) : ∀ (n : Nat) (s lo hi : Int), (rng e n s lo hi).1 ≤ lo ∧ hi ≤ (rng e n s lo hi).2 ∧ ∀ t, s ≤ t → t < s + n → (rng e n s lo hi).1 ≤ e t ∧ e t ≤ (rng e n s lo hi).2
  | 0, s, lo, hi => ⟨Int.le_refl _, Int.le_refl _, fun t h1 h2 => by omega⟩
  | n + 1, s, lo, hi => by
    have hlo : (if e s < lo then e s else lo) ≤ lo ∧ (if e s < lo then e s else lo) ≤ e s := by split <;> omega
    have hhi : hi ≤ (if e s > hi then e s else hi) ∧ e s ≤ (if e s > hi then e s else hi) := by split <;> omega
    simp only [rng]
    generalize (if e s < lo then e s else lo) = lo' at hlo ⊢
    generalize (if e s > hi then e s else hi) = hi' at hhi ⊢
    obtain ⟨h1, h2, h3⟩ := rng_le e n (s + 1) lo' hi'
    refine ⟨by omega, by omega, fun t ht1 ht2 => ?_⟩
    by_cases ht : t = s
    · subst ht
      exact ⟨by omega, by omega⟩
    · exact h3 t (by omega) (by omega)

theorem rng_ge (e : Int → Int) (a b : Int) : ∀ (n : Nat) (s lo hi : Int), a ≤ lo → hi ≤ b → (∀ t, s ≤ t → t < s + n → a ≤ e t ∧ e t ≤ b) → a ≤ (rng e n s lo hi).1 ∧ (rng e n s lo hi).2 ≤ b
  | 0, s, lo, hi, h1, h2, _ => ⟨h1, h2⟩
  | n + 1, s, lo, hi, h1, h2, h3 => by
    simp only [rng]
    have := h3 s (by omega) (by omega)
    refine rng_ge e a b n (s + 1) _ _ ?_ ?_ fun t ht1 ht2 => h3 t (by omega) (by omega)
    · split <;> omega
    · split <;> omega
end Gv
