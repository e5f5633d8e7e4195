/- The law about alerts. -/
import Derived.Test.YtggnifebabjoiaaA0
import Derived.Test.YtggnifebabjoiaaS8
import Derived.Test.YtggnifebabjoiaaP8
namespace Gv
open Go
set_option maxRecDepth 100000
theorem evsV_2 (l : List Z3) : (evsV l).2 = evsE l := rfl
theorem alertsLaw (r : R4) (l : List Z3) (t : Int) : Flaw8 [encR4 r, .list l.length (encT l), .int .i64 t] = some true := by
  refine Flaw8_of _ _ _ _ _ _ _ ?_
  unfold tlaw8
  simp only [awake_is, cond_true, fewE_is, bindO_val]
  by_cases hl : l.length ≤ 42
  · have hal := alOf_is r l (by omega)
    have hsa := sAt_is r l t (by omega)
    have hru := rRuE_is r
    have hra := rAl_is r l (by omega)
    have hrs := rSAt_is r l t (by omega)
    obtain ⟨ra, cl, ho, ti⟩ := r
    simp only [encR4] at hal hsa hru hra hrs
    simp only [decide_eq_true hl, cond_true, rCopE_is l (by omega), cE_is l (by omega), rCE_is l (by omega), hal, hsa, hru, bindO_val, bne_self_eq_false, cond_false, evsV_2, bif_ne]
    by_cases h1 : ruleE (ra, cl, ho, ti) = 0
    · rw [if_pos h1]
      by_cases h2 : evsE l = 0
      · obtain ⟨k1, k2⟩ := evsE_ok h2
        have hb : both (ruleE (ra, cl, ho, ti)) (evsE l) = 0 := by rw [h1, h2]; rfl
        have hal2 : ∀ (l : List Z3) (s : St5) (P : List Z3), (l.foldl (stepA (ra, cl, ho, ti)) (s, P)).2.length ≤ P.length + l.length := by
          intro l
          induction l with
          | nil => intro s P; simp
          | cons e l ih =>
            intro s P
            rw [List.foldl_cons]
            have h3 : (l.foldl (stepA (ra, cl, ho, ti)) (stepA (ra, cl, ho, ti) (s, P) e)).2.length ≤ (stepA (ra, cl, ho, ti) (s, P) e).2.length + l.length := ih (stepA (ra, cl, ho, ti) (s, P) e).1 (stepA (ra, cl, ho, ti) (s, P) e).2
            have h2 := (stepA_len (ra, cl, ho, ti) s P e).1
            simp only [List.length_cons]
            omega
        have hlen : (alL (ra, cl, ho, ti) l).length < 1000000 := by
          have := hal2 l st0 []
          unfold alL
          simp only [List.length_nil] at this
          omega
        simp only [hb, if_true]
        simp only [h2, if_true]
        have hra := hra h1 k2
        have hrs := hrs k2
        simp only [if_true, hra, hrs, bindO_val, rSamA_is _ hlen, cond_true, bTick_is, bif_eq]
        by_cases h3 : 0 ≤ t ∧ t ≤ 1000000000000
        · have he : sAtE (ra, cl, ho, ti) l t = 0 := by unfold sAtE; rw [h1, h2, rangeE_in h3]; rfl
          rw [if_pos he, decide_eq_true h3]
          simp only [cond_true, if_true]
          cases (atV (ra, cl, ho, ti) l t).1 <;> simp
        · have he : sAtE (ra, cl, ho, ti) l t = 2 := by unfold sAtE; rw [h1, h2, rangeE_out h3]; rfl
          rw [he, decide_eq_false h3]
          simp
      · have hb : both (ruleE (ra, cl, ho, ti)) (evsE l) = evsE l := both_zero h1
        have he : sAtE (ra, cl, ho, ti) l t = evsE l := by unfold sAtE first3; rw [h1]; simp [h2]
        simp only [hb, he]
        simp [h2]
    · have hb : both (ruleE (ra, cl, ho, ti)) (evsE l) = ruleE (ra, cl, ho, ti) := both_not h1
      have he : sAtE (ra, cl, ho, ti) l t = ruleE (ra, cl, ho, ti) := by unfold sAtE first3; simp [h1]
      simp only [hb, he]
      simp [h1]
  · rw [decide_eq_false hl]
    rfl
end Gv
