/- PulseLines: lines, powers and spectra are as specified. -/
import Derived.Test.YtpcpegneobkbdaaS24
import Derived.Test.YtpcpegneobkbdaaP12
namespace Gv
open Go
set_option maxRecDepth 100000

section
variable (g : Gt) (k : Int) (bs : List (List ZZ))

theorem lin61 : Rglidepathlaw01_PulseLines_1000061 (Tglidepathlaw01_PulseLines_1000061a bs.length (encB bs) k g.first g.hop g.count g.ws.length (encI g.ws)) =
    if g.ws.length ≤ 18 ∧ bs.length ≤ 14 then exO (Xglidepathlaw01_PulseLines_1000061b (bs.length, encB bs, k, g.first, g.hop, g.count, g.ws.length, encI g.ws)) else exO (Xglidepathlaw01_PulseLines_1000061a ()) := by
  have f1 := fewGt_is g
  unfold encGt at f1
  by_cases h1 : g.ws.length ≤ 18
  · by_cases h2 : bs.length ≤ 14
    · rw [if_pos ⟨h1, h2⟩]
      refine Rglidepathlaw01_PulseLines_1000061a_of _ _ _ _ _ _ _ _ ?_
      unfold Bglidepathlaw01_PulseLines_1000061a
      simp only [f1, bindO_val]
      rw [bif_pos h1, bif_neg (by omega)]
      rfl
    · rw [if_neg (fun h => h2 h.2)]
      refine Rglidepathlaw01_PulseLines_1000061a_of _ _ _ _ _ _ _ _ ?_
      unfold Bglidepathlaw01_PulseLines_1000061a
      simp only [f1, bindO_val]
      rw [bif_pos h1, bif_pos (by omega)]
      rfl
  · rw [if_neg (fun h => h1 h.1)]
    refine Rglidepathlaw01_PulseLines_1000061a_of _ _ _ _ _ _ _ _ ?_
    unfold Bglidepathlaw01_PulseLines_1000061a
    simp only [f1, bindO_val]
    rw [bif_neg h1]
    rfl

theorem lin0 (hl : bs.length ≤ 1000) : ∀ i, i ≤ bs.length →
    Rglidepathlaw01_PulseLines_0 (Tglidepathlaw01_PulseLines_0a bs.length (encB bs) k i g.first g.hop g.count g.ws.length (encI g.ws)) =
    if ∀ b ∈ bs.drop i, b.length ≤ 50 then exO (Xglidepathlaw01_PulseLines_0b (bs.length, encB bs, k, g.first, g.hop, g.count, g.ws.length, encI g.ws)) else exO (Xglidepathlaw01_PulseLines_0a ()) := by
  refine up_ind _ ?_ ?_
  · rw [List.drop_length, if_pos (by simp)]
    refine Rglidepathlaw01_PulseLines_0a_of _ _ _ _ _ _ _ _ _ ?_
    unfold Bglidepathlaw01_PulseLines_0a
    rw [bif_neg (by omega)]
    rfl
  · intro i hi ih
    obtain ⟨x, hx, hd⟩ := get_drop hi
    have step : ∀ s, (if x.length ≤ 50 then Rglidepathlaw01_PulseLines_0 (Tglidepathlaw01_PulseLines_0a bs.length (encB bs) k (i + 1 : Nat) g.first g.hop g.count g.ws.length (encI g.ws)) else exO (Xglidepathlaw01_PulseLines_0a ())) = some s →
        Rglidepathlaw01_PulseLines_0 (Tglidepathlaw01_PulseLines_0a bs.length (encB bs) k i g.first g.hop g.count g.ws.length (encI g.ws)) = some s := by
      intro s hs
      refine Rglidepathlaw01_PulseLines_0a_of _ _ _ _ _ _ _ _ _ ?_
      unfold Bglidepathlaw01_PulseLines_0a
      rw [bif_pos (by omega), bif_pos (by omega)]
      simp only [Int.toNat_natCast, Nat.mul_one, encB_get, hx, Option.map_some, listC_list, bindO_val, few_is]
      rw [w64_in (by omega)]
      by_cases h : x.length ≤ 50
      · rw [if_pos h] at hs
        rw [bif_pos h]
        exact hs
      · rw [if_neg h] at hs
        rw [bif_neg h]
        exact hs
    rw [hd]
    by_cases h : x.length ≤ 50
    · rw [if_pos h] at step
      by_cases hr : ∀ b ∈ bs.drop (i + 1), b.length ≤ 50
      · rw [if_pos hr] at ih
        rw [if_pos (fun b hb => by
          rcases List.mem_cons.1 hb with rfl | hb
          · exact h
          · exact hr b hb)]
        exact step _ ih
      · rw [if_neg hr] at ih
        rw [if_neg (fun hq => hr fun b hb => hq b (List.mem_cons_of_mem _ hb))]
        exact step _ ih
    · rw [if_neg h] at step
      rw [if_neg (fun hq => h (hq x (by simp)))]
      exact step _ rfl

theorem lin32 (hl : bs.length ≤ 1000) (e a b c d : Int) :
    Rglidepathlaw01_PulseLines_1000032 (Tglidepathlaw01_PulseLines_1000032a bs.length (encB bs) k e (gatesE g) g.first g.hop g.count g.ws.length (encI g.ws) a b c d) =
    exO (Xglidepathlaw01_PulseLines_1000032a (bs.length, encB bs, k, e, spE g k bs, g.first, g.hop, g.count, g.ws.length, encI g.ws, a, b, c, d)) := by
  refine Rglidepathlaw01_PulseLines_1000032a_of _ _ _ _ _ _ _ _ _ _ _ _ _ _ ?_
  unfold Bglidepathlaw01_PulseLines_1000032a spE both
  rw [bif_eq]
  by_cases hg : gatesE g = 0
  · have f1 := refSpectrumErr_is g k bs hg hl
    unfold encGt at f1
    rw [if_pos hg, if_neg (by simpa using hg)]
    simp only [f1, bindO_val]
    rfl
  · rw [if_neg hg, if_pos hg]
    rfl

theorem lin28 (hl : bs.length ≤ 1000) :
    Rglidepathlaw01_PulseLines_1000028 (Tglidepathlaw01_PulseLines_1000028a bs.length (encB bs) k
      (if spE g k bs ≠ 0 then (0, 0, 0, 0, spE g k bs) else ((specZ g k bs 0 0 0 0).1, (specZ g k bs 0 0 0 0).2.1, (specZ g k bs 0 0 0 0).2.2.1, (specZ g k bs 0 0 0 0).2.2.2, 0)).2.2.2.2 (spE g k bs) g.first g.hop g.count g.ws.length (encI g.ws)
      (if spE g k bs ≠ 0 then (0, 0, 0, 0, spE g k bs) else ((specZ g k bs 0 0 0 0).1, (specZ g k bs 0 0 0 0).2.1, (specZ g k bs 0 0 0 0).2.2.1, (specZ g k bs 0 0 0 0).2.2.2, 0)).1
      (if spE g k bs ≠ 0 then (0, 0, 0, 0, spE g k bs) else ((specZ g k bs 0 0 0 0).1, (specZ g k bs 0 0 0 0).2.1, (specZ g k bs 0 0 0 0).2.2.1, (specZ g k bs 0 0 0 0).2.2.2, 0)).2.1
      (if spE g k bs ≠ 0 then (0, 0, 0, 0, spE g k bs) else ((specZ g k bs 0 0 0 0).1, (specZ g k bs 0 0 0 0).2.1, (specZ g k bs 0 0 0 0).2.2.1, (specZ g k bs 0 0 0 0).2.2.2, 0)).2.2.1
      (if spE g k bs ≠ 0 then (0, 0, 0, 0, spE g k bs) else ((specZ g k bs 0 0 0 0).1, (specZ g k bs 0 0 0 0).2.1, (specZ g k bs 0 0 0 0).2.2.1, (specZ g k bs 0 0 0 0).2.2.2, 0)).2.2.2.1) =
    exO (Xglidepathlaw01_PulseLines_1000028b (bs.length, encB bs)) := by
  refine Rglidepathlaw01_PulseLines_1000028a_of _ _ _ _ _ _ _ _ _ _ _ _ _ _ ?_
  unfold Bglidepathlaw01_PulseLines_1000028a
  by_cases h : spE g k bs = 0
  · obtain ⟨hg, _, hb⟩ := spE_ok g k bs h
    have f1 := refSpectrum_is g k bs hg hl hb
    unfold encGt at f1
    simp only [bif_ne, bif_eq, h, ne_eq, not_true_eq_false, if_false, if_true, f1, bindO_val, beq_self_eq_true, Bool.and_self, Bool.not_true, cond_false]
    rfl
  · simp only [bif_ne, bif_eq, h, ne_eq, not_false_eq_true, if_true, if_false, beq_self_eq_true, Bool.and_self, Bool.not_true, cond_false]
    rfl

theorem linesLaw : Fglidepathlaw01_PulseLines [encGt g, .list bs.length (encB bs), .int .i64 k] = some true := by
  refine Fglidepathlaw01_PulseLines_of _ _ _ _ _ _ _ _ ?_
  unfold tglidepathlaw01_PulseLines
  simp only [awake_is, bindO_val, cond_true]
  have p61 := lin61 g k bs
  by_cases hf : g.ws.length ≤ 18 ∧ bs.length ≤ 14
  · rw [if_pos hf] at p61
    have L61 := Lglidepathlaw01_PulseLines_1000061b_of p61
    simp only [L61, bindO_val, Sum.elim_inr]
    have p0 := lin0 g k bs (by omega) 0 (by omega)
    rw [List.drop_zero, show ((0 : Nat) : Int) = 0 from rfl] at p0
    by_cases hb : ∀ b ∈ bs, b.length ≤ 50
    · rw [if_pos hb] at p0
      have L0 := Lglidepathlaw01_PulseLines_0b_of p0
      have c1 := copyB_is bs (by omega) (fun b h => by have := hb b h; omega)
      have c2 := copyGt_is g (by omega)
      have c3 := spectrumOf_is g k bs (by omega) (by omega) (fun b h => by have := hb b h; omega)
      have c4 := refGatesErr_is g (by omega)
      unfold encGt at c2 c3 c4
      simp only [L0, bindO_val, Sum.elim_inr, c1, c2, c3, c4]
      have q32 : ∀ e a b c d, _ = _ := fun e a b c d => Lglidepathlaw01_PulseLines_1000032a_of (lin32 g k bs (by omega) e a b c d)
      simp only [q32, bindO_val]
      have q28 := Lglidepathlaw01_PulseLines_1000028b_of (lin28 g k bs (by omega))
      simp only [q28, bindO_val, Sum.elim_inr, bif_eq]
      by_cases hn : (bs.length : Int) = 0
      · rw [if_pos hn]
      · rw [if_neg hn]
        obtain ⟨x, hx, hd⟩ := get_drop (l := bs) (i := 0) (by omega)
        have hxl := hb x (List.mem_of_getElem? hx)
        rw [bif_pos (by omega)]
        simp only [encB_get, hx, Option.map_some, listC_list, bindO_val, copyG_is x (by omega), linesOf2_is x (by omega), powersOf_is x (by omega), refBlockErr_is x,
          show ((0 : Int) ≤ 0 ∧ (0 : Int) < (bs.length : Int)) = True from eq_true (by omega), decide_true, cond_true, bif_ne]
        by_cases he : blockE x = 0
        · obtain ⟨k1, k2, k3⟩ := block_ok he
          have r1 := refLines_is x (by omega) (fun z hz => Small.mono (k3 z hz) (by omega))
          have r2 := refPowers_is x (by omega) (fun z hz => Small.mono (k3 z hz) (by omega))
          simp only [he, ne_eq, not_true_eq_false, if_false, if_true, r1, r2, bindO_val, beq_self_eq_true, Bool.and_self, cond_true]
        · simp only [he, ne_eq, not_false_eq_true, if_true, if_false, beq_self_eq_true, Bool.and_self, cond_true]
    · rw [if_neg hb] at p0
      have L0 := Lglidepathlaw01_PulseLines_0a_of p0
      simp only [L0, bindO_val, Sum.elim_inl]
  · rw [if_neg hf] at p61
    have L61 := Lglidepathlaw01_PulseLines_1000061a_of p61
    simp only [L61, bindO_val, Sum.elim_inl]
end
end Gv
