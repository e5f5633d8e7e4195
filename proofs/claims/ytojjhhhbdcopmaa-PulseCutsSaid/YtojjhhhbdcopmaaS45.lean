/- PulseCuts: whatever the stream, the number of lags and the cuts, the law answers true. -/
import Derived.Test.YtojjhhhbdcopmaaS44
import Derived.Test.YtojjhhhbdcopmaaA0
namespace Gv
open Go
set_option maxRecDepth 100000

section
variable {l : List ZZ} {a b g : Nat}

theorem powers_at (h : Cut l a b g) : Fpulse_PowersOf [.list l.length (encG l)] = some ((powZ l).1, (powZ l).2.1, (powZ l).2.2.1, (powZ l).2.2.2, 0) := by
  have hl := h.hl
  rw [powersOf_is l (by omega), if_neg (by rw [h.he]; simp)]

theorem st45 (h : Cut l a b g) : ∃ q : Int × Int × Int × Int × Int,
    Fpulse_SpectrumBy [.agg [.list (suL l g).length (encG (suL l g)), .list (suT l g).length (encG (suT l g)), .int .i64 ((l.length : Nat) : Int)]] = some q ∧
    LCuts_1000045 (TCuts_1000045a l.length (encG l) (g : Int) 0 q.2.2.2.2 (powZ l).1 (powZ l).2.1 (powZ l).2.2.1 (powZ l).2.2.2 q.1 q.2.1 q.2.2.1 q.2.2.2.1) =
      some (.inr (l.length, encG l, (powZ l).1, (powZ l).2.1, (powZ l).2.2.1, (powZ l).2.2.2)) := by
  have hs := h.small
  obtain ⟨hab, hb, hl, he, hg⟩ := h
  have h0 := su_ok hg hs (by omega)
  have hL := suL_len l g
  have hT := suT_len l g
  by_cases hc : l.length ≤ g
  · have e : spE (suL l g) (suT l g) ((l.length : Nat) : Int) = 0 := by
      unfold spE
      rw [if_pos h0, if_neg (by omega)]
    have e2 := spectrum_cut hs (by omega) hg hc
    simp only [Prod.ext_iff] at e2
    obtain ⟨q0, q1, q2, q3⟩ := e2
    refine ⟨_, spectrumBy_ok (suL l g) (suT l g) _ (by omega) (by omega) e, ?_⟩
    refine LCuts_1000045b_of (RCuts_1000045a_of _ _ _ _ _ _ _ _ _ _ _ _ _ ?_)
    unfold BCuts_1000045a
    simp only [q0, q1, q2, q3, bne_self_eq_false, beq_self_eq_true, Bool.and_self, Bool.not_true, cond_false]
    rw [bif_pos (by omega), bif_neg (by omega)]
    rfl
  · have e : spE (suL l g) (suT l g) ((l.length : Nat) : Int) = 19 := by
      unfold spE
      rw [if_pos h0, if_pos (by omega)]
    refine ⟨_, spectrumBy_bad (by omega) (by omega) (by rw [e]; simp), ?_⟩
    refine LCuts_1000045b_of (RCuts_1000045a_of _ _ _ _ _ _ _ _ _ _ _ _ _ ?_)
    unfold BCuts_1000045a
    simp only [e, bne_self_eq_false, cond_false]
    rw [bif_neg (by omega), bif_pos (by omega)]
    rfl
end

/-! The stream folded by 4 -/
theorem fo_small (m : Nat) : ∀ (l : List ZZ) (j : Nat), (∀ z ∈ l, Small 1000 z) → Small (1000 * (l.length : Int)) (foX l j m)
  | [], _, _ => by simp [foX, Small]
  | z :: l, j, h => by
    have h1 := fo_small m l (j + 1) (fun x hx => h x (by simp [hx]))
    have h2 := h z (by simp)
    rw [foX]
    split
    · have h3 := eadd_small h2 h1
      refine h3.mono ?_
      simp only [List.length_cons]
      omega
    · refine h1.mono ?_
      simp only [List.length_cons]
      omega

section
variable (l : List ZZ) (p0 p1 p2 p3 : Int)
theorem loop4_at (hl : l.length ≤ 1000) (hs : ∀ z ∈ l, Small 1000 z) : ∀ j, j ≤ l.length → ∀ A B C D : ZZ, Small (1000 * (j : Int)) A → Small (1000 * (j : Int)) B → Small (1000 * (j : Int)) C → Small (1000 * (j : Int)) D →
    RCuts_4 (TCuts_4a l.length (encG l) (j : Int) p0 p1 p2 p3 (encG [A, B, C, D])) =
      exO (XCuts_4a (p0, p1, p2, p3, encG [eadd A (foX (l.drop j) j 0), eadd B (foX (l.drop j) j 1), eadd C (foX (l.drop j) j 2), eadd D (foX (l.drop j) j 3)])) := by
  refine up_ind _ ?_ ?_
  · intro A B C D _ _ _ _
    refine RCuts_4a_of _ _ _ _ _ _ _ _ ?_
    unfold BCuts_4a
    rw [bif_neg (by omega), List.drop_length]
    simp only [foX, eadd_zero]
    rfl
  · intro j hj ih A B C D hA hB hC hD
    obtain ⟨z, hz, hd⟩ := get_drop hj
    have hzs : Small 1000 z := hs z (List.mem_of_getElem? hz)
    have ht : Int.tmod (j : Int) 4 = ((j % 4 : Nat) : Int) := by rw [Int.tmod_eq_emod_of_nonneg (by omega)]; omega
    have hw : w64 ((j : Int) + 1) = ((j + 1 : Nat) : Int) := by rw [w64_in (by omega)]; omega
    have up : ∀ {X : ZZ}, Small (1000 * (j : Int)) X → Small (1000 * ((j + 1 : Nat) : Int)) X := fun h => h.mono (by omega)
    have upz : ∀ {X : ZZ}, Small (1000 * (j : Int)) X → Small (1000 * ((j + 1 : Nat) : Int)) (eadd X z) := fun h => (eadd_small h hzs).mono (by omega)
    refine RCuts_4a_of _ _ _ _ _ _ _ _ ?_
    unfold BCuts_4a
    rw [bif_pos (by omega), hd]
    simp only [ht, hw, Int.toNat_natCast, Nat.zero_add, encG_0, encG_1, hz, Option.map_some, intC_int, bindO_val]
    rw [bif_pos (by omega)]
    have hq : j % 4 = 0 ∨ j % 4 = 1 ∨ j % 4 = 2 ∨ j % 4 = 3 := by omega
    rcases hq with hq | hq | hq | hq
    · have := ih (eadd A z) B C D (upz hA) (up hB) (up hC) (up hD)
      simp only [hq, List.getElem?_cons_zero, List.getElem?_cons_succ, Option.map_some, intC_int, bindO_val]
      rw [bif_pos (by omega)]
      simp only [gadd_is A z, bindO_val, addZ_eq hA hzs (by omega)]
      rw [show overO (encG [A, B, C, D]) (0 * 2) [PV.int .i64 (eadd A z).1, PV.int .i64 (eadd A z).2] = some (encG [eadd A z, B, C, D]) from rfl, bindO_val, this]
      simp only [foX, hq, eadd_assoc]
      rfl
    · have := ih A (eadd B z) C D (up hA) (upz hB) (up hC) (up hD)
      simp only [hq, List.getElem?_cons_zero, List.getElem?_cons_succ, Option.map_some, intC_int, bindO_val]
      rw [bif_pos (by omega)]
      simp only [gadd_is B z, bindO_val, addZ_eq hB hzs (by omega)]
      rw [show overO (encG [A, B, C, D]) (1 * 2) [PV.int .i64 (eadd B z).1, PV.int .i64 (eadd B z).2] = some (encG [A, eadd B z, C, D]) from rfl, bindO_val, this]
      simp only [foX, hq, eadd_assoc]
      rfl
    · have := ih A B (eadd C z) D (up hA) (up hB) (upz hC) (up hD)
      simp only [hq, List.getElem?_cons_zero, List.getElem?_cons_succ, Option.map_some, intC_int, bindO_val]
      rw [bif_pos (by omega)]
      simp only [gadd_is C z, bindO_val, addZ_eq hC hzs (by omega)]
      rw [show overO (encG [A, B, C, D]) (2 * 2) [PV.int .i64 (eadd C z).1, PV.int .i64 (eadd C z).2] = some (encG [A, B, eadd C z, D]) from rfl, bindO_val, this]
      simp only [foX, hq, eadd_assoc]
      rfl
    · have := ih A B C (eadd D z) (up hA) (up hB) (up hC) (upz hD)
      simp only [hq, List.getElem?_cons_zero, List.getElem?_cons_succ, Option.map_some, intC_int, bindO_val]
      rw [bif_pos (by omega)]
      simp only [gadd_is D z, bindO_val, addZ_eq hD hzs (by omega)]
      rw [show overO (encG [A, B, C, D]) (3 * 2) [PV.int .i64 (eadd D z).1, PV.int .i64 (eadd D z).2] = some (encG [A, B, C, eadd D z]) from rfl, bindO_val, this]
      simp only [foX, hq, eadd_assoc]
      rfl
theorem loop4 (hl : l.length ≤ 1000) (hs : ∀ z ∈ l, Small 1000 z) :
    LCuts_4 (TCuts_4a l.length (encG l) 0 p0 p1 p2 p3 [.int .i64 0, .int .i64 0, .int .i64 0, .int .i64 0, .int .i64 0, .int .i64 0, .int .i64 0, .int .i64 0]) =
      some (p0, p1, p2, p3, encG [foX l 0 0, foX l 0 1, foX l 0 2, foX l 0 3]) := by
  have z0 : Small (1000 * ((0 : Nat) : Int)) ((0, 0) : ZZ) := by unfold Small; simp
  have := loop4_at l p0 p1 p2 p3 hl hs 0 (Nat.zero_le _) (0, 0) (0, 0) (0, 0) (0, 0) z0 z0 z0 z0
  simp only [zero_eadd, List.drop_zero] at this
  exact LCuts_4a_of this
end

theorem nrm_le {z : ZZ} (h : Small 40000 z) : nrmX z ≤ 3200000000 := by
  obtain ⟨h1, h2⟩ := h
  have a := mul_abs h1 h1 (by omega)
  have b := mul_abs h2 h2 (by omega)
  unfold nrmX
  omega

section
variable (p0 p1 p2 p3 : Int) (f0 f1 f2 f3 : ZZ)
theorem st6 (k : Nat) (s p : Int) (f : ZZ) (hk : k < 4) (hp : [PV.int .i64 p0, .int .i64 p1, .int .i64 p2, .int .i64 p3][k * 1]? = some (.int .i64 p)) (hf : [f0, f1, f2, f3][k]? = some f)
    (hs : -100000000000 ≤ s ∧ s ≤ 100000000000) (hpb : 0 ≤ p ∧ p ≤ 4000000000) (hfs : Small 40000 f) {r : Ext × S}
    (h : RCuts_6 (TCuts_6a (s + p - 4 * nrmX f) ((k + 1 : Nat) : Int) p0 p1 p2 p3 (encG [f0, f1, f2, f3])) = some r) :
    RCuts_6 (TCuts_6a s (k : Int) p0 p1 p2 p3 (encG [f0, f1, f2, f3])) = some r := by
  have hw : w64 ((k : Int) + 1) = ((k + 1 : Nat) : Int) := by rw [w64_in (by omega)]; omega
  have hn0 := nrm_ge f
  have hn1 := nrm_le hfs
  have hn := norm_eq (hfs.mono (by omega))
  refine RCuts_6a_of _ _ _ _ _ _ _ ?_
  unfold BCuts_6a
  rw [bif_pos (by omega), bif_pos (by omega)]
  simp only [Int.toNat_natCast, Nat.zero_add, hp, encG_0, encG_1, hf, Option.map_some, intC_int, bindO_val, within_is, gnorm_is f, hn, hw]
  rw [bif_pos (by omega), bif_pos (by omega), bif_pos (by omega), w64_in (n := s + p) (by omega), w64_in (n := 4 * nrmX f) (by omega), w64_in (by omega)]
  exact h
theorem loop6 (b0 : 0 ≤ p0 ∧ p0 ≤ 4000000000) (b1 : 0 ≤ p1 ∧ p1 ≤ 4000000000) (b2 : 0 ≤ p2 ∧ p2 ≤ 4000000000) (b3 : 0 ≤ p3 ∧ p3 ≤ 4000000000) (s0 : Small 40000 f0) (s1 : Small 40000 f1) (s2 : Small 40000 f2) (s3 : Small 40000 f3)
    (hsum : p0 + p1 + p2 + p3 = 4 * (nrmX f0 + nrmX f1 + nrmX f2 + nrmX f3)) :
    LCuts_6 (TCuts_6a 0 0 p0 p1 p2 p3 (encG [f0, f1, f2, f3])) = some (.inr (0, p0, p1, p2, p3, encG [f0, f1, f2, f3])) := by
  have m0 := nrm_le s0
  have m1 := nrm_le s1
  have m2 := nrm_le s2
  have m3 := nrm_le s3
  have k0 := nrm_ge f0
  have k1 := nrm_ge f1
  have k2 := nrm_ge f2
  have k3 := nrm_ge f3
  have h4 : RCuts_6 (TCuts_6a 0 ((4 : Nat) : Int) p0 p1 p2 p3 (encG [f0, f1, f2, f3])) = exO (XCuts_6b (0, p0, p1, p2, p3, encG [f0, f1, f2, f3])) := by
    refine RCuts_6a_of _ _ _ _ _ _ _ ?_
    unfold BCuts_6a
    rw [bif_neg (by omega)]
    rfl
  have e4 : 0 + p0 - 4 * nrmX f0 + p1 - 4 * nrmX f1 + p2 - 4 * nrmX f2 + p3 - 4 * nrmX f3 = 0 := by omega
  rw [← e4] at h4
  have h3 := st6 p0 p1 p2 p3 f0 f1 f2 f3 3 _ p3 f3 (by omega) rfl rfl (by omega) b3 s3 h4
  have h2 := st6 p0 p1 p2 p3 f0 f1 f2 f3 2 _ p2 f2 (by omega) rfl rfl (by omega) b2 s2 h3
  have h1 := st6 p0 p1 p2 p3 f0 f1 f2 f3 1 _ p1 f1 (by omega) rfl rfl (by omega) b1 s1 h2
  have h0 := st6 p0 p1 p2 p3 f0 f1 f2 f3 0 0 p0 f0 (by omega) rfl rfl (by omega) b0 s0 h1
  have := LCuts_6b_of h0
  rw [e4] at this
  exact this
end

theorem st117 (l : List ZZ) (i x y : Int) : ∃ z, LCuts_1000117 (TCuts_1000117a l.length (encG l) i x y) = some z ∧
    (z = .inl () ∨ (l.length ≤ 30 ∧ blockE l = 0 ∧ 1 ≤ i ∧ i ≤ 12 ∧ z = .inr (l.length, encG l, i, x, y))) := by
  by_cases h1 : ((l.length : Nat) : Int) > 30
  · refine ⟨.inl (), LCuts_1000117a_of (RCuts_1000117a_of _ _ _ _ _ ?_), .inl rfl⟩
    unfold BCuts_1000117a
    rw [bif_pos h1]
    rfl
  · by_cases h2 : blockE l = 0
    · by_cases h3 : 1 ≤ i ∧ i ≤ 12
      · refine ⟨_, LCuts_1000117b_of (RCuts_1000117a_of _ _ _ _ _ ?_), .inr ⟨by omega, h2, h3.1, h3.2, rfl⟩⟩
        unfold BCuts_1000117a
        rw [bif_neg h1]
        simp only [refBlockErr_is, h2, bindO_val, bne_self_eq_false, cond_false, within_is]
        rw [bif_pos h3]
        rfl
      · refine ⟨.inl (), LCuts_1000117a_of (RCuts_1000117a_of _ _ _ _ _ ?_), .inl rfl⟩
        unfold BCuts_1000117a
        rw [bif_neg h1]
        simp only [refBlockErr_is, h2, bindO_val, bne_self_eq_false, cond_false, within_is]
        rw [bif_neg h3]
        rfl
    · refine ⟨.inl (), LCuts_1000117a_of (RCuts_1000117a_of _ _ _ _ _ ?_), .inl rfl⟩
      unfold BCuts_1000117a
      rw [bif_neg h1]
      simp only [refBlockErr_is, bindO_val]
      rw [bif_ne, if_neg h2]
      rfl

theorem cutsLaw (l : List ZZ) (i x y : Int) : FCuts [.list l.length (encG l), .int .i64 i, .agg [.int .i64 x, .int .i64 y]] = some true := by
  refine FCuts_of _ _ _ _ _ ?_
  unfold tCuts
  simp only [awake_is, bindO_val, cond_true]
  obtain ⟨z, hz, hs⟩ := st117 l i x y
  rw [hz, bindO_val]
  rcases hs with rfl | ⟨h30, he, g1, g2, rfl⟩
  · rfl
  · obtain ⟨g, rfl⟩ : ∃ g : Nat, i = g := ⟨i.toNat, by omega⟩
    have hx0 := Int.emod_nonneg x (show ((l.length : Nat) : Int) + 1 ≠ 0 by omega)
    have hx1 := Int.emod_lt_of_pos x (show 0 < ((l.length : Nat) : Int) + 1 by omega)
    obtain ⟨a, ha⟩ : ∃ a : Nat, x % (((l.length : Nat) : Int) + 1) = a := ⟨(x % (((l.length : Nat) : Int) + 1)).toNat, by omega⟩
    have hy0 := Int.emod_nonneg y (show ((l.length : Nat) : Int) - a + 1 ≠ 0 by omega)
    have hy1 := Int.emod_lt_of_pos y (show 0 < ((l.length : Nat) : Int) - a + 1 by omega)
    obtain ⟨c, hc⟩ : ∃ c : Nat, y % (((l.length : Nat) : Int) - a + 1) = c := ⟨(y % (((l.length : Nat) : Int) - a + 1)).toNat, by omega⟩
    have cut : Cut l a (a + c) g := ⟨by omega, by omega, h30, he, by omega⟩
    have w1 : w64 (((l.length : Nat) : Int) + 1) = ((l.length : Nat) : Int) + 1 := w64_in (by omega)
    have w2 : w64 (((l.length : Nat) : Int) - a) = ((l.length : Nat) : Int) - a := w64_in (by omega)
    have w3 : w64 (((l.length : Nat) : Int) - a + 1) = ((l.length : Nat) : Int) - a + 1 := w64_in (by omega)
    have w4 : w64 ((a : Int) + (c : Int)) = ((a + c : Nat) : Int) := by rw [w64_in (by omega)]; omega
    have m1 := mod_any x (((l.length : Nat) : Int) + 1) (by omega)
    have m2 := mod_any y (((l.length : Nat) : Int) - a + 1) (by omega)
    rw [ha] at m1
    rw [hc] at m2
    simp only [Sum.elim_inr, w1, m1, bindO_val, w2, w3, m2, w4, Int.toNat_natCast]
    rw [bif_pos ⟨trivial, by omega, by unfold big; omega⟩]
    have h0 := loop0 cut x y
    unfold zsC at h0
    rw [h0]
    have h76 := st76 cut
    have h2 := loop2 cut
    unfold zsC at h76 h2
    obtain ⟨q, hq, h45⟩ := st45 cut
    have hcs := copySum_is (suL l g) (suT l g) ((l.length : Nat) : Int) (by rw [suL_len]; omega) (by rw [suT_len]; omega)
    simp only [bindO_val, Sum.elim_inr, h76, h2, copyG_is l (by omega), powers_at cut, hcs, hq, h45]
    have hsm := cut.small
    have he4 := powers_energy hsm (by omega)
    have hf : ∀ m, Small 40000 (foX l 0 m) := fun m => (fo_small m l 0 hsm).mono (by omega)
    have hpw : ∀ k : Int, 0 ≤ normZ (lineX k l 0) ∧ normZ (lineX k l 0) ≤ 4000000000 := fun k => by
      have hls : Small 40000 (lineX k l 0) := (line_small k l 0 hsm).mono (by omega)
      rw [norm_eq (hls.mono (by omega))]
      have := nrm_ge (lineX k l 0)
      have := nrm_le hls
      omega
    have h4 := loop4 l (powZ l).1 (powZ l).2.1 (powZ l).2.2.1 (powZ l).2.2.2 (by omega) hsm
    have h6 := loop6 (powZ l).1 (powZ l).2.1 (powZ l).2.2.1 (powZ l).2.2.2 (foX l 0 0) (foX l 0 1) (foX l 0 2) (foX l 0 3) (hpw 0) (hpw 1) (hpw 2) (hpw 3) (hf 0) (hf 1) (hf 2) (hf 3) he4
    simp only [h4, h6, bindO_val, Sum.elim_inr, beq_self_eq_true, cond_true]
end Gv
