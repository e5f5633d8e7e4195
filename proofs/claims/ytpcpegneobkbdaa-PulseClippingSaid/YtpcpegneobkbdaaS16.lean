/- PulseClipping: true on all gates, blocks, limits and jitters. -/
import Derived.Test.YtpcpegneobkbdaaS3
import Derived.Test.YtpcpegneobkbdaaS15
import Derived.Test.YtpcpegneobkbdaaP4
namespace Gv
open Go
set_option maxRecDepth 100000

theorem gates_ok {g : Gt} (h : gatesE g = 0) : 1 ≤ g.ws.length ∧ g.ws.length ≤ 16 ∧ 1 ≤ g.count ∧ g.count ≤ 20 := by
  unfold gatesE gatesP at h
  split at h
  · rename_i h1
    exact absurd h h1
  · rename_i h1
    have hc : rangeE g.count 1 20 = 0 := by
      unfold first3 at h1
      by_cases a1 : rangeE g.first 0 48 = 0 <;> by_cases a2 : rangeE g.hop 1 48 = 0 <;> simp_all
    have hc' : 1 ≤ g.count ∧ g.count ≤ 20 := by
      unfold rangeE at hc
      split at hc
      · cases hc
      · omega
    unfold listIE at h
    split at h
    · cases h
    · split at h
      · cases h
      · exact ⟨by omega, by omega, hc'⟩

theorem block_small {l : List ZZ} (h : blockE l = 0) : ∀ z ∈ l, Small 4611686018427387904 z := by
  intro z hz
  obtain ⟨_, _, h3⟩ := block_ok h
  obtain ⟨⟨a, b⟩, c, d⟩ := h3 z hz
  exact ⟨⟨by omega, by omega⟩, by omega, by omega⟩

theorem lawBoth_is (x y : Int) : Fglidepathlaw01_both [.int .i64 x, .int .i64 y] = some (both x y) := Fglidepathlaw01_both_of x y (by
  unfold tglidepathlaw01_both both
  rw [bif_ne]
  by_cases h : x = 0
  · rw [if_pos h, if_neg (by simpa using h)]
  · rw [if_neg h, if_pos h])

theorem both4 (x y z u : Int) : both (both (both x y) z) u = first4 x y z u := by
  unfold both first4
  by_cases h1 : x = 0 <;> by_cases h2 : y = 0 <;> by_cases h3 : z = 0 <;> simp [h1, h2, h3]

theorem both_null {x y : Int} (h : both x y = 0) : x = 0 ∧ y = 0 := by
  unfold both at h
  split at h
  · contradiction
  · exact ⟨by omega, h⟩

section
variable (g : Gt) (l : List ZZ) (a k o : Int)

theorem part53 : Rglidepathlaw01_PulseClipping_1000053 (Tglidepathlaw01_PulseClipping_1000053a l.length (encG l) g.first g.hop g.count g.ws.length (encI g.ws) a k o) =
    if g.ws.length ≤ 18 ∧ l.length ≤ 50 then exO (Xglidepathlaw01_PulseClipping_1000053a (l.length, encG l, g.first, g.hop, g.count, g.ws.length, encI g.ws, a, k, o)) else exO (Xglidepathlaw01_PulseClipping_1000053b ()) := by
  have f1 := fewGt_is g
  unfold encGt at f1
  by_cases h1 : g.ws.length ≤ 18
  · by_cases h2 : l.length ≤ 50
    · rw [if_pos ⟨h1, h2⟩]
      refine Rglidepathlaw01_PulseClipping_1000053a_of _ _ _ _ _ _ _ _ _ _ ?_
      unfold Bglidepathlaw01_PulseClipping_1000053a
      simp only [f1, few_is, bindO_val]
      rw [bif_pos h1, bif_pos h2]
      rfl
    · rw [if_neg (fun h => h2 h.2)]
      refine Rglidepathlaw01_PulseClipping_1000053a_of _ _ _ _ _ _ _ _ _ _ ?_
      unfold Bglidepathlaw01_PulseClipping_1000053a
      simp only [f1, few_is, bindO_val]
      rw [bif_pos h1, bif_neg h2]
      rfl
  · rw [if_neg (fun h => h1 h.1)]
    refine Rglidepathlaw01_PulseClipping_1000053a_of _ _ _ _ _ _ _ _ _ _ ?_
    unfold Bglidepathlaw01_PulseClipping_1000053a
    simp only [f1, bindO_val]
    rw [bif_neg h1]
    rfl

theorem part38 (n : Nat) (c : List PV) (e f i r1 r2 : Int) : Rglidepathlaw01_PulseClipping_1000038 (Tglidepathlaw01_PulseClipping_1000038a l.length (encG l) n c e f i (blockE l) g.first g.hop g.count g.ws.length (encI g.ws) a k o r1 r2) =
    exO (Xglidepathlaw01_PulseClipping_1000038a (l.length, encG l, n, c, e, f, i, ciE l a, g.first, g.hop, g.count, g.ws.length, encI g.ws, a, k, o, r1, r2)) := by
  refine Rglidepathlaw01_PulseClipping_1000038a_of _ _ _ _ _ _ _ _ _ _ _ _ _ _ _ _ _ _ ?_
  unfold Bglidepathlaw01_PulseClipping_1000038a ciE both
  rw [bif_eq]
  by_cases h : blockE l = 0
  · rw [if_pos h, if_neg (by simpa using h)]
    simp only [within_is, bindO_val]
    by_cases h1 : 1 ≤ a ∧ a ≤ 1000
    · rw [bif_pos h1, rangeE_in h1, h]
      rfl
    · rw [bif_neg h1, rangeE_out h1]
      rfl
  · rw [if_neg h, if_pos h]
    rfl

theorem part34 (hl : l.length ≤ 50) (f i r1 r2 : Int) : Rglidepathlaw01_PulseClipping_1000034 (Tglidepathlaw01_PulseClipping_1000034a l.length (encG l) (if ciE l a ≠ 0 then ((0, []), ciE l a) else (((clipZ a l 0).length, encI (clipZ a l 0)), 0)).1.1
      (if ciE l a ≠ 0 then ((0, []), ciE l a) else (((clipZ a l 0).length, encI (clipZ a l 0)), 0)).1.2 (if ciE l a ≠ 0 then ((0, []), ciE l a) else (((clipZ a l 0).length, encI (clipZ a l 0)), 0)).2
      f i (ciE l a) g.first g.hop g.count g.ws.length (encI g.ws) a k o r1 r2) =
    exO (Xglidepathlaw01_PulseClipping_1000034b (l.length, encG l, f, i, g.first, g.hop, g.count, g.ws.length, encI g.ws, a, k, o, r1, r2)) := by
  refine Rglidepathlaw01_PulseClipping_1000034a_of _ _ _ _ _ _ _ _ _ _ _ _ _ _ _ _ _ _ ?_
  unfold Bglidepathlaw01_PulseClipping_1000034a
  by_cases h : ciE l a = 0
  · have hb : blockE l = 0 := by
      unfold ciE both at h
      by_cases hb : blockE l = 0
      · exact hb
      · rw [if_pos hb] at h
        exact absurd h hb
    have h1 := refClipped_is l a (by omega) (block_small hb)
    have h2 := ints_refl (clipZ a l 0) (by have := clipZ_len a l 0; omega)
    simp only [bif_ne, bif_eq, h, ne_eq, not_true_eq_false, if_false, if_true, h1, h2, bindO_val, cond_true]
    rfl
  · simp only [bif_ne, bif_eq, h, ne_eq, not_false_eq_true, if_true, if_false]
    rfl

theorem part25 (f d r1 r2 : Int) (hd : d = 0 → -4611686018427387904 ≤ g.count ∧ g.count ≤ 4611686018427387904) : Rglidepathlaw01_PulseClipping_1000025 (Tglidepathlaw01_PulseClipping_1000025a l.length (encG l) f d g.first g.hop g.count g.ws.length (encI g.ws) a k o r1 r2) =
    exO (Xglidepathlaw01_PulseClipping_1000025a (l.length, encG l, f, both d (gateE g k), g.first, g.hop, g.count, g.ws.length, encI g.ws, a, k, o, r1, r2)) := by
  refine Rglidepathlaw01_PulseClipping_1000025a_of _ _ _ _ _ _ _ _ _ _ _ _ _ _ ?_
  unfold Bglidepathlaw01_PulseClipping_1000025a both
  rw [bif_eq]
  by_cases h : d = 0
  · have f1 := refGateErr_is g k (hd h)
    unfold encGt at f1
    rw [if_pos h, if_neg (by simpa using h)]
    simp only [f1, bindO_val]
    rfl
  · rw [if_neg h, if_pos h]
    rfl

theorem part21 (f d r1 r2 : Int) : Rglidepathlaw01_PulseClipping_1000021 (Tglidepathlaw01_PulseClipping_1000021a l.length (encG l) f d g.first g.hop g.count g.ws.length (encI g.ws) a k o r1 r2) =
    exO (Xglidepathlaw01_PulseClipping_1000021a (l.length, encG l, f, both d (rangeE o 0 8), g.first, g.hop, g.count, g.ws.length, encI g.ws, a, k, o, r1, r2)) := by
  refine Rglidepathlaw01_PulseClipping_1000021a_of _ _ _ _ _ _ _ _ _ _ _ _ _ _ ?_
  unfold Bglidepathlaw01_PulseClipping_1000021a both
  rw [bif_eq]
  by_cases h : d = 0
  · rw [if_pos h, if_neg (by simpa using h)]
    simp only [within_is, bindO_val]
    by_cases h1 : 0 ≤ o ∧ o ≤ 8
    · rw [bif_pos h1, rangeE_in h1, h]
      rfl
    · rw [bif_neg h1, rangeE_out h1]
      rfl
  · rw [if_neg h, if_pos h]
    rfl

theorem part10 (hl : 1 ≤ l.length ∧ l.length ≤ 1000) (hw : 1 ≤ g.ws.length ∧ g.ws.length ≤ 1000) (ho : 0 ≤ o ∧ o ≤ 8) : Rglidepathlaw01_PulseClipping_1000010 (Tglidepathlaw01_PulseClipping_1000010a l.length (encG l) 0 g.first g.hop g.count g.ws.length (encI g.ws) a k o (enR l g k o).1 (enR l g k o).2) =
    exO (Xglidepathlaw01_PulseClipping_1000010b (l.length, encG l, g.first, g.hop, g.count, g.ws.length, encI g.ws, a, k, o, (enR l g k o).1, (enR l g k o).2)) := by
  refine Rglidepathlaw01_PulseClipping_1000010a_of _ _ _ _ _ _ _ _ _ _ _ _ _ ?_
  unfold Bglidepathlaw01_PulseClipping_1000010a
  have f1 := energies_is l g k o hl hw ho
  unfold encGt at f1
  simp only [f1, bindO_val, bif_ne, if_true, beq_self_eq_true, Bool.and_self, Bool.not_true, cond_false]
  rfl

theorem less_wide (ho : 0 ≤ o) : (enR l g k o).1 ≤ (enR l g k (o / 2)).1 ∧ (enR l g k (o / 2)).2 ≤ (enR l g k o).2 := by
  unfold enR
  obtain ⟨h1, h2, h3⟩ := rng_le (eAt l g k) (2 * o + 1).toNat (-o) (eAt l g k 0) (eAt l g k 0)
  exact rng_ge (eAt l g k) _ _ _ _ _ _ h1 h2 fun t ht1 ht2 => h3 t (by omega) (by omega)

theorem clipping : Fglidepathlaw01_PulseClipping [encGt g, .list l.length (encG l), .agg [.int .i64 a, .int .i64 k, .int .i64 o]] = some true := by
  refine Fglidepathlaw01_PulseClipping_of _ _ _ _ _ _ _ _ _ _ ?_
  unfold tglidepathlaw01_PulseClipping
  simp only [awake_is, bindO_val, cond_true]
  have p53 := part53 g l a k o
  by_cases hf : g.ws.length ≤ 18 ∧ l.length ≤ 50
  · rw [if_pos hf] at p53
    have L53 := Lglidepathlaw01_PulseClipping_1000053a_of p53
    have c1 := copyG_is l (by omega)
    have c2 := copyGt_is g (by omega)
    have c3 := clippedIn_is l a (by omega) (fun hb => block_small hb)
    have c4 := energyIn_is l g k o (by omega) (by omega)
    have c5 := refGatesErr_is g (by omega)
    have c6 := refBlockErr_is l
    unfold encGt at c2 c4 c5
    simp only [L53, bindO_val, Sum.elim_inl, c1, c2, c3, c4, c6]
    have q38 : ∀ n c e f i r1 r2, Lglidepathlaw01_PulseClipping_1000038 (Tglidepathlaw01_PulseClipping_1000038a l.length (encG l) n c e f i (blockE l) g.first g.hop g.count g.ws.length (encI g.ws) a k o r1 r2) = _ := fun n c e f i r1 r2 => Lglidepathlaw01_PulseClipping_1000038a_of (part38 g l a k o n c e f i r1 r2)
    have q34 : ∀ f i r1 r2, _ = _ := fun f i r1 r2 => Lglidepathlaw01_PulseClipping_1000034b_of (part34 g l a k o hf.2 f i r1 r2)
    simp only [q38, bindO_val, q34, Sum.elim_inr, c5]
    have q25 : ∀ f r1 r2, _ = _ := fun f r1 r2 => Lglidepathlaw01_PulseClipping_1000025a_of (part25 g l a k o f (both (gatesE g) (blockE l)) r1 r2 (fun hd => by
      obtain ⟨_, _, h3, h4⟩ := gates_ok (both_null hd).1
      omega))
    have q21 : ∀ f d r1 r2, _ = _ := fun f d r1 r2 => Lglidepathlaw01_PulseClipping_1000021a_of (part21 g l a k o f d r1 r2)
    simp only [lawBoth_is, bindO_val, q25, q21, both4]
    rw [show first4 (gatesE g) (blockE l) (gateE g k) (rangeE o 0 8) = enE l g k o from rfl]
    by_cases he : enE l g k o = 0
    · obtain ⟨h1, h2, h3, h4⟩ := firstError4_zero he
      obtain ⟨w1, w2, _, _⟩ := gates_ok h1
      obtain ⟨l1, l2, _⟩ := block_ok h2
      have ho : 0 ≤ o ∧ o ≤ 8 := by
        unfold rangeE at h4
        split at h4
        · cases h4
        · omega
      have q10 := Lglidepathlaw01_PulseClipping_1000010b_of (part10 g l a k o (by omega) (by omega) ho)
      have c7 := energyIn_is l g k (o / 2) (by omega) (by omega)
      have he2 : enE l g k (o / 2) = 0 := by
        unfold enE
        rw [h1, h2, h3, rangeE_in (by omega)]
        rfl
      unfold encGt at c7
      have hd : w64 (Int.tdiv o 2) = o / 2 := by rw [Int.tdiv_eq_ediv_of_nonneg ho.1, w64_in (by omega)]
      obtain ⟨k1, k2⟩ := less_wide g l k o ho.1
      simp only [bif_ne, he, if_true, ne_eq, not_true_eq_false, if_false, q10, bindO_val, Sum.elim_inr, c2, c1, hd, c7, he2, bif_eq]
      rw [bif_pos k1, bif_pos k2]
    · simp [bif_ne, bif_eq, he]
  · rw [if_neg hf] at p53
    have L53 := Lglidepathlaw01_PulseClipping_1000053b_of p53
    simp only [L53, bindO_val, Sum.elim_inr]
end
end Gv
