/- The specification's errors of gates are the program's. -/
import Derived.Test.YtpcpegneobkbdaaS10
namespace Gv
open Go
set_option maxRecDepth 100000

theorem findE_rng (a b : Int) : ∀ (l : List Int) (i : Nat) (p : Int × Int), findE (fun x => rangeE x a b) l i = some p → p.2 = 2
  | [], _, p, h => by cases h
  | x :: l, i, p, h => by
    by_cases he : a ≤ x ∧ x ≤ b
    · simp only [findE, rangeE_in he, ne_eq, not_true_eq_false, if_false] at h
      exact findE_rng a b l (i + 1) p h
    · simp only [findE, rangeE_out he] at h
      rw [if_pos (by decide)] at h
      cases h
      rfl

theorem refCheckGates_is (g : Gt) (hl : g.ws.length < 4294967296) : Fglidepathref01_CheckGates [encGt g] = some (gatesP g) := by
  refine Fglidepathref01_CheckGates_of _ _ _ _ _ ?_
  unfold tglidepathref01_CheckGates gatesP
  simp only [within_is, bindO_val]
  by_cases h1 : 0 ≤ g.first ∧ g.first ≤ 48
  · by_cases h2 : 1 ≤ g.hop ∧ g.hop ≤ 48
    · by_cases h3 : 1 ≤ g.count ∧ g.count ≤ 20
      · have e : first3 (rangeE g.first 0 48) (rangeE g.hop 1 48) (rangeE g.count 1 20) = 0 := by
          rw [rangeE_in h1, rangeE_in h2, rangeE_in h3]; rfl
        rw [e, bif_pos h1, bif_pos h2, bif_pos h3, if_neg (by simp), bif_eq]
        unfold listIE
        by_cases h4 : g.ws.length = 0
        · rw [if_pos (by omega), if_pos h4]
        · rw [if_neg (by omega), if_neg h4]
          by_cases h5 : (16 : Int) < g.ws.length
          · rw [bif_pos (by omega), if_pos h5]
          · rw [bif_neg (by omega), if_neg h5]
            have hL := refGates_loop g hl 0 (by omega)
            rw [List.drop_zero] at hL
            cases hf : findE (fun x => rangeE x 0 100) g.ws 0 with
            | none =>
              rw [hf] at hL
              have := Lglidepathref01_CheckGates_0b_of hL
              rw [show ((0 : Nat) : Int) = 0 from rfl] at this
              rw [this]
              rfl
            | some p =>
              rw [hf] at hL
              have := Lglidepathref01_CheckGates_0a_of hL
              rw [show ((0 : Nat) : Int) = 0 from rfl] at this
              rw [this]
              have h2 := findE_rng 0 100 g.ws 0 p hf
              show some (p.1, (2 : Int)) = some p
              rw [← h2]
      · have e : first3 (rangeE g.first 0 48) (rangeE g.hop 1 48) (rangeE g.count 1 20) = 2 := by
          rw [rangeE_in h1, rangeE_in h2, rangeE_out h3]; rfl
        rw [e, bif_pos h1, bif_pos h2, bif_neg h3]
        rfl
    · have e : first3 (rangeE g.first 0 48) (rangeE g.hop 1 48) (rangeE g.count 1 20) = 2 := by
        rw [rangeE_in h1, rangeE_out h2]; rfl
      rw [e, bif_pos h1, bif_neg h2]
      rfl
  · have e : first3 (rangeE g.first 0 48) (rangeE g.hop 1 48) (rangeE g.count 1 20) = 2 := by
      rw [rangeE_out h1]; rfl
    rw [e, bif_neg h1]
    rfl

theorem refGatesErr_is (g : Gt) (hl : g.ws.length < 4294967296) : Fglidepathref01_GatesErr [encGt g] = some (gatesE g) := by
  refine Fglidepathref01_GatesErr_of _ _ _ _ _ ?_
  unfold tglidepathref01_GatesErr
  have := refCheckGates_is g hl
  unfold encGt at this
  simp only [this, bindO_val]
  rfl

end Gv
