/- CloudSegments: whatever the numbers, the penalty and the range, the law answers true. -/
import Derived.Test.YtkbahledgljaoaaCG6
import Derived.Test.YtkbahledgljaoaaCG2
import Derived.Test.YtkbahledgljaoaaA0
namespace Gv
open Go
set_option maxRecDepth 100000
set_option maxHeartbeats 4000000

theorem copyS_is (l : List Int) (hl : l.length ≤ 1000000) : Fglidepathbase_CopyInts [.list l.length (encI l)] = some (l.length, encI l) := by
  refine Fglidepathbase_CopyInts_of _ _ ?_
  unfold tglidepathbase_CopyInts
  by_cases h : l.length = 0
  · rw [bif_pos h]
    have := List.eq_nil_of_length_eq_zero h
    subst this
    rfl
  · rw [bif_neg h, bif_pos (by simp), bif_pos ⟨rfl, by unfold big; omega⟩, bif_pos rfl]
    simp

/-- What the code gives for segments and potentials. -/
def sgR (l : List Int) (pen : Int) : (Nat × List PV) × (Int × Int) :=
  if both (profE l) (rangeE pen 0 1000000) ≠ 0 then ((0, []), (0, both (profE l) (rangeE pen 0 1000000))) else (((tailAt l pen 0).1.length, encI (tailAt l pen 0).1), ((tailAt l pen 0).2, 0))
def poR (l : List Int) (pen : Int) : (Nat × List PV) × Int :=
  if both (profE l) (rangeE pen 0 1000000) ≠ 0 then ((0, []), both (profE l) (rangeE pen 0 1000000)) else ((l.length + 1, encI (potsR l pen l.length)), 0)
theorem sgR_is (l : List Int) (hl : l.length ≤ 1000) (pen : Int) : Fcloud_SegmentsOf [.list l.length (encI l), .int .i64 pen] = some (sgR l pen) := by
  unfold sgR
  by_cases h : both (profE l) (rangeE pen 0 1000000) = 0
  · rw [if_neg (by simp [h])]
    obtain ⟨h0, hpe⟩ := both_nil h
    obtain ⟨h1, h2, hv⟩ := prof_ok h0
    have hp := rangeE_ok hpe
    obtain ⟨d, hd⟩ : ∃ d, (bestD l pen l.length)[l.length]? = some d := ⟨(bestD l pen l.length)[l.length]'(by rw [bestD_len]; omega), List.getElem?_eq_getElem _⟩
    have hs := segmentsOf_is hl h0 hp hd
    rw [both_ways h1 hd] at hs
    exact hs
  · rw [if_pos h]
    exact segmentsE_is (by omega) h
theorem poR_is (l : List Int) (hl : l.length ≤ 1000) (pen : Int) : Fcloud_PotentialsOf [.list l.length (encI l), .int .i64 pen] = some (poR l pen) := by
  unfold poR
  by_cases h : both (profE l) (rangeE pen 0 1000000) = 0
  · rw [if_neg (by simp [h])]
    obtain ⟨h0, hpe⟩ := both_nil h
    exact potentialsOf_is hl h0 (rangeE_ok hpe)
  · rw [if_pos h]
    exact potentialsE_is (by omega) h

def segE (l : List Int) (a b : Int) : Int := if profE l = 0 then seE l a b else profE l
theorem segmentsLaw (l : List Int) (pen a b : Int) : Fglidepathlaw08_CloudSegments [.list l.length (encI l), .int .i64 pen, .agg [.int .i64 a, .int .i64 b]] = some true := by
  refine Fglidepathlaw08_CloudSegments_of _ _ _ _ _ ?_
  unfold tglidepathlaw08_CloudSegments
  simp only [awake_is, bindO_val, cond_true, few_is]
  by_cases hl : l.length ≤ 26
  · rw [bif_pos hl]
    have c16 := copyS_is l (by omega)
    have c21 := segCostR_is l (by omega) a b
    have c22 := sgR_is l (by omega) pen
    have c23 := poR_is l (by omega) pen
    have c12 := refProfErr_is l (by omega)
    have h23 : ∀ (x y : Int) (n : Nat) (cs : List PV) (z w : Int) (m : Nat) (ds : List PV) (v : Int), Lglidepathlaw08_CloudSegments_1000023 (Tglidepathlaw08_CloudSegments_1000023a l.length (encI l) pen x y n cs z w m ds v (profE l) (profE l) a b) = some (l.length, encI l, pen, x, y, n, cs, z, w, m, ds, v, profE l, segE l a b, a, b) := fun x y n cs z w m ds v => by
      refine Lglidepathlaw08_CloudSegments_1000023a_of (Rglidepathlaw08_CloudSegments_1000023a_of _ _ _ _ _ _ _ _ _ _ _ _ _ _ _ _ ?_)
      unfold Bglidepathlaw08_CloudSegments_1000023a segE
      rw [bif_eq]
      by_cases h : profE l = 0
      · obtain ⟨h1, h2, hv⟩ := prof_ok h
        have c24 := refSegErr_is l h1 (by omega) a b
        rw [if_pos h, if_pos h]
        simp only [c24, bindO_val]
        rfl
      · rw [if_neg h, if_neg h]
        rfl
    have h19 : ∀ (n : Nat) (cs : List PV) (z w : Int) (m : Nat) (ds : List PV) (v : Int), Lglidepathlaw08_CloudSegments_1000019 (Tglidepathlaw08_CloudSegments_1000019a l.length (encI l) pen (scR l a b).1 (scR l a b).2 n cs z w m ds v (profE l) (segE l a b) a b) = some (.inr (l.length, encI l, pen, n, cs, z, w, m, ds, v, profE l)) := fun n cs z w m ds v => by
      refine Lglidepathlaw08_CloudSegments_1000019b_of (Rglidepathlaw08_CloudSegments_1000019a_of _ _ _ _ _ _ _ _ _ _ _ _ _ _ _ _ ?_)
      unfold Bglidepathlaw08_CloudSegments_1000019a
      have e : segE l a b = scE l a b := (scE_eq l a b).symm
      rw [e]
      unfold scR
      simp only [bif_ne, bif_eq]
      by_cases h : scE l a b = 0
      · obtain ⟨h0, h1, h2, h3⟩ := scE_ok h
        obtain ⟨_, _, hv⟩ := prof_ok h0
        have c25 := refCost_is (i := a.toNat) (k := b.toNat + 1) (by omega) hv (by omega) (by omega)
        rw [show ((a.toNat : Nat) : Int) = a by omega, show ((b.toNat + 1 : Nat) : Int) - 1 = b by omega] at c25
        rw [if_neg (c := scE l a b ≠ 0) (by simp [h])]
        simp only [h, if_true, c25, bindO_val]
        rfl
      · rw [if_pos (c := scE l a b ≠ 0) h]
        simp only [h, if_true, if_false]
        rfl
    simp only [c16, c21, c22, c23, c12, bindO_val, h23, h19, Sum.elim_inr, refPen_is, both_is, bif_ne]
    by_cases h : both (profE l) (rangeE pen 0 1000000) = 0
    · rw [if_pos h]
      obtain ⟨h0, hpe⟩ := both_nil h
      obtain ⟨h1, h2, hv⟩ := prof_ok h0
      have hp := rangeE_ok hpe
      have c28 := refSegments_is h1 (by omega) hv hp
      have c30 := refPots_is (by omega) hv h1 hp
      have hR := potsR_len l pen l.length
      have htl := tail_bd (by omega) hv hp l.length 0 (by omega)
      have i1 := ints_is (tailAt l pen 0).1 (by omega)
      have i2 := ints_is (potsR l pen l.length) (by omega)
      rw [hR] at i2
      unfold sgR poR
      rw [if_neg (c := both (profE l) (rangeE pen 0 1000000) ≠ 0) (by simp [h]), if_neg (c := both (profE l) (rangeE pen 0 1000000) ≠ 0) (by simp [h])]
      simp only [c28, bindO_val, i1, cond_true, beq_self_eq_true, c30, i2]
    · rw [if_neg h]
      unfold sgR poR
      rw [if_pos (c := both (profE l) (rangeE pen 0 1000000) ≠ 0) h, if_pos (c := both (profE l) (rangeE pen 0 1000000) ≠ 0) h]
      simp
  · rw [bif_neg hl]
end Gv
