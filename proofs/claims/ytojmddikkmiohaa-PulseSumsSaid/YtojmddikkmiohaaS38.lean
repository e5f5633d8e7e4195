/- PulseSums: whatever the sum and the piece, the law answers true. -/
import Derived.Test.YtojmddikkmiohaaS36
import Derived.Test.YtojmddikkmiohaaS37
import Derived.Test.YtojmddikkmiohaaA0
namespace Gv
open Go
set_option maxRecDepth 100000

section
variable (p a t : List ZZ) (c x d f g : Int) (n13 : Nat) (c14 : List PV) (n15 : Nat) (c16 : List PV) (i17 i18 i19 i20 i21 : Int)
theorem ps39 : Lglidepathlaw01_PulseSums_1000039 (Tglidepathlaw01_PulseSums_1000039a p.length (encG p) x d f g x d a.length (encG a) t.length (encG t) c n13 c14 n15 c16 i17 i18 i19 i20 i21) =
    some (.inr (p.length, encG p, f, g, d, a.length, encG a, t.length, encG t, c, n13, c14, n15, c16, i17, i18, i19, i20, i21)) := by
  refine Lglidepathlaw01_PulseSums_1000039b_of (Rglidepathlaw01_PulseSums_1000039a_of _ _ _ _ _ _ _ _ _ _ _ _ _ _ _ _ _ _ _ _ _ _ ?_)
  unfold Bglidepathlaw01_PulseSums_1000039a
  simp only [bne_self_eq_false, cond_false]
  rfl
theorem ps30 : Lglidepathlaw01_PulseSums_1000030 (Tglidepathlaw01_PulseSums_1000030a p.length (encG p) f g d d a.length (encG a) t.length (encG t) c n13 c14 n15 c16 i17 i18 i19 i20 i21) =
    some (p.length, encG p, f, g, d, (if d = 0 then (if c > a.length then 19 else 0) else d), a.length, encG a, t.length, encG t, c, n13, c14, n15, c16, i17, i18, i19, i20, i21) := by
  refine Lglidepathlaw01_PulseSums_1000030a_of (Rglidepathlaw01_PulseSums_1000030a_of _ _ _ _ _ _ _ _ _ _ _ _ _ _ _ _ _ _ _ _ ?_)
  unfold Bglidepathlaw01_PulseSums_1000030a
  rw [bif_eq]
  by_cases h : d = 0
  · subst h
    by_cases h2 : c > a.length
    · rw [if_pos rfl, bif_pos h2, if_pos rfl, if_pos h2]; rfl
    · rw [if_pos rfl, bif_neg h2, if_pos rfl, if_neg h2]; rfl
  · rw [if_neg h, if_neg h]; rfl
theorem ps26_bad (e : Int) (he : e ≠ 0) : Lglidepathlaw01_PulseSums_1000026 (Tglidepathlaw01_PulseSums_1000026a p.length (encG p) f e d e a.length (encG a) t.length (encG t) c n13 c14 n15 c16 i17 0 0 0 0) =
    some (.inr (p.length, encG p, f, d, a.length, encG a, t.length, encG t, c, n13, c14, n15, c16, i17)) := by
  refine Lglidepathlaw01_PulseSums_1000026b_of (Rglidepathlaw01_PulseSums_1000026a_of _ _ _ _ _ _ _ _ _ _ _ _ _ _ _ _ _ _ _ _ ?_)
  unfold Bglidepathlaw01_PulseSums_1000026a
  have h1 : (e != 0) = true := by simpa using he
  have h2 : (e == 0) = false := by simpa using he
  simp only [h1, h2, bne_self_eq_false, beq_self_eq_true, Bool.and_self, Bool.not_true, cond_true, cond_false]
  rfl
theorem ps26_ok (q : Int × Int × Int × Int) (h : Fglidepathref01_By [.agg [.list a.length (encG a), .list t.length (encG t), .int .i64 c]] = some q) :
    Lglidepathlaw01_PulseSums_1000026 (Tglidepathlaw01_PulseSums_1000026a p.length (encG p) f 0 d 0 a.length (encG a) t.length (encG t) c n13 c14 n15 c16 i17 q.1 q.2.1 q.2.2.1 q.2.2.2) =
    some (.inr (p.length, encG p, f, d, a.length, encG a, t.length, encG t, c, n13, c14, n15, c16, i17)) := by
  refine Lglidepathlaw01_PulseSums_1000026b_of (Rglidepathlaw01_PulseSums_1000026a_of _ _ _ _ _ _ _ _ _ _ _ _ _ _ _ _ _ _ _ _ ?_)
  unfold Bglidepathlaw01_PulseSums_1000026a
  simp only [h, bindO_val, bne_self_eq_false, beq_self_eq_true, Bool.and_self, Bool.not_true, cond_true, cond_false]
  rfl
end

/-- How the law ends when the spectrum is as it should be. -/
theorem sumsLaw (a t p : List ZZ) (c : Int) : Fglidepathlaw01_PulseSums [.agg [.list a.length (encG a), .list t.length (encG t), .int .i64 c], .list p.length (encG p)] = some true := by
  refine Fglidepathlaw01_PulseSums_of _ _ _ _ _ _ _ ?_
  unfold tglidepathlaw01_PulseSums
  simp only [awake_is, bindO_val, cond_true]
  obtain ⟨z, hz, hs⟩ := ps54 a p t c
  rw [hz, bindO_val]
  rcases hs with rfl | ⟨h50, ha14, ht14, rfl⟩
  · rfl
  · have hsp : ∃ q : Int × Int × Int × Int, Fpulse_SpectrumBy [.agg [.list a.length (encG a), .list t.length (encG t), .int .i64 c]] = some (q.1, q.2.1, q.2.2.1, q.2.2.2, spE a t c) ∧
        ∀ (f : Int) (n13 : Nat) (c14 : List PV) (n15 : Nat) (c16 : List PV) (i17 : Int),
          Lglidepathlaw01_PulseSums_1000026 (Tglidepathlaw01_PulseSums_1000026a p.length (encG p) f (spE a t c) (smE a t c) (spE a t c) a.length (encG a) t.length (encG t) c n13 c14 n15 c16 i17 q.1 q.2.1 q.2.2.1 q.2.2.2) =
            some (.inr (p.length, encG p, f, smE a t c, a.length, encG a, t.length, encG t, c, n13, c14, n15, c16, i17)) := by
      by_cases he : spE a t c = 0
      · obtain ⟨q, h1, h2⟩ := spectra_are (a := a) (t := t) (c := c) (by omega) (by omega) he
        refine ⟨q, by rw [h1, he], fun f n13 c14 n15 c16 i17 => ?_⟩
        rw [he]
        exact ps26_ok p a t c _ f n13 c14 n15 c16 i17 q h2
      · refine ⟨(0, 0, 0, 0), spectrumBy_bad (by omega) (by omega) he, fun f n13 c14 n15 c16 i17 => ?_⟩
        exact ps26_bad p a t c _ f n13 c14 n15 c16 i17 _ he
    obtain ⟨q, hq, h26⟩ := hsp
    have e30 : (if smE a t c = 0 then (if c > a.length then 19 else 0) else smE a t c) = spE a t c := rfl
    have hadd := added_is a t p c (by omega) (by omega) (by omega)
    have hsmE : (smP a t c).2 = smE a t c := rfl
    simp only [Sum.elim_inr, copySum_is a t c (by omega) (by omega), checkSum_is a t c (by omega) (by omega), copyG_is p (by omega), hadd, hq, refCheckSum_is a t c (by omega), bindO_val, hsmE, ps39, ps30, e30, h26,
      refBlockErr_is, lawBoth_is]
    rw [show both (smE a t c) (blockE p) = adE a t p c from rfl, bif_ne]
    by_cases had : adE a t p c = 0
    · rw [if_pos had]
      have hs0 : smE a t c = 0 := by
        by_cases k : smE a t c = 0
        · exact k
        · unfold adE both at had; rw [if_pos k] at had; exact absurd had k
      have hb0 : blockE p = 0 := by
        unfold adE both at had
        rw [if_neg (by omega)] at had
        exact had
      obtain ⟨⟨a1, _⟩, _⟩ := sm_ok hs0
      obtain ⟨p1, _⟩ := block_ok hb0
      obtain ⟨r, hr, hra⟩ := refAdded_is a t p c ⟨a1, by omega⟩ (by omega) ⟨p1, by omega⟩
      have hiff := okS_iff hs0 hb0
      simp only [hr, bindO_val]
      have hwl : (nwL a t p).length = a.length := tabZ_len _ _
      have hwt : (nwT a t p).length ≤ 1000 := by rw [nwT_len]; unfold kpN; have : (t ++ p).length = t.length + p.length := List.length_append; omega
      rcases hra with ⟨ok, rfl⟩ | ⟨bad, rfl⟩
      · have e : adR a t p c = (EG (nwL a t p), (EG (nwT a t p), (w64 (c + p.length), 0))) := by
          unfold adR
          rw [if_neg (by omega), if_neg (by have := hiff.1 ok; omega)]
        rw [e]
        simp only [EG, cond_true, beq_self_eq_true, sameSum_is (nwL a t p) (nwT a t p) _ (by omega) (by omega), bindO_val]
      · have e : adR a t p c = ((0, []), ((0, []), (0, 20))) := by
          unfold adR
          rw [if_neg (by omega), if_pos (fun h => bad (hiff.2 h))]
        rw [e]
        have s0 := sameSum_is [] [] 0 (by simp) (by simp)
        simp only [List.length_nil, encG_nil] at s0
        simp only [cond_false, beq_self_eq_true, cond_true, s0, bindO_val]
    · rw [if_neg had]
      have e : adR a t p c = ((0, []), ((0, []), (0, adE a t p c))) := by
        unfold adR
        rw [if_pos had]
      rw [e]
      have s0 := sameSum_is [] [] 0 (by simp) (by simp)
      simp only [List.length_nil, encG_nil] at s0
      simp only [beq_self_eq_true, cond_true, s0, bindO_val]
end Gv
