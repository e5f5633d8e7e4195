/- PulseLocked: what is locked, without the rows. -/
import Derived.Test.YtpfdbblfpmebcaaA1
import Derived.Test.YtpfdbblfpmebcaaK1
import Derived.Test.YtpfdbblfpmebcaaQ2
namespace Gv
open Go
set_option maxRecDepth 100000

theorem mgF_spec (a b : List Int) (most : Int) : ∀ (n : Nat) (g : Int), g ≤ mgF a b most n g ∧ mgF a b most n g ≤ g + n ∧ (∀ h, g < h → h ≤ mgF a b most n g → okW a b h) ∧ (mgF a b most n g < g + n → ¬ okW a b (mgF a b most n g + 1))
  | 0, g => by
    simp only [mgF]
    exact ⟨Int.le_refl _, by omega, fun h h1 h2 => by omega, fun h => by omega⟩
  | n + 1, g => by
    by_cases h : okW a b (g + 1)
    · obtain ⟨h1, h2, h3, h4⟩ := mgF_spec a b most n (g + 1)
      simp only [mgF, if_pos h]
      refine ⟨by omega, by omega, fun k k1 k2 => ?_, fun k => h4 (by omega)⟩
      by_cases hk : k = g + 1
      · rw [hk]; exact h
      · exact h3 k (by omega) k2
    · simp only [mgF, if_neg h]
      exact ⟨Int.le_refl _, by omega, fun k k1 k2 => by omega, fun _ => h⟩

theorem sumW_zero {a : List Int} (b : List Int) (h : Wrds a) : sumW a b 0 = a := by
  apply List.ext_getElem?
  intro i
  unfold sumW tabI
  by_cases hi : i < a.length
  · rw [List.getElem?_map, List.getElem?_range hi, get_getD 0 hi]
    simp only [Option.map_some, Int.zero_mul]
    have := h _ (getD_mem hi)
    unfold Wrd at this
    rw [w64_in (n := 0) (by omega), Int.add_zero, w64_in (by omega)]
  · rw [List.getElem?_eq_none (by simp; omega), List.getElem?_eq_none (by omega)]

section
variable (a b : List Int) (z t most : Int)

def okG : Prop := 1 ≤ a.length ∧ a.length ≤ 3 ∧ polyE a = 0 ∧ polyE b = 0 ∧ z ≠ 0 ∧ (-3 ≤ z ∧ z ≤ 3) ∧ t ≠ 0 ∧ (-3 ≤ t ∧ t ≤ 3)
instance : Decidable (okG a b z t) := by unfold okG; infer_instance

theorem kd127 : Rglidepathlaw01_PulseLocked_1000127 (Tglidepathlaw01_PulseLocked_1000127a a.length (encI a) b.length (encI b) z t most) =
    if okG a b z t then exO (Xglidepathlaw01_PulseLocked_1000127b (a.length, encI a, b.length, encI b, z, t, most)) else exO (Xglidepathlaw01_PulseLocked_1000127a ()) := by
  obtain ⟨r, hr⟩ : ∃ r, (if okG a b z t then exO (Xglidepathlaw01_PulseLocked_1000127b (a.length, encI a, b.length, encI b, z, t, most)) else exO (Xglidepathlaw01_PulseLocked_1000127a ())) = some r := by
    split <;> exact ⟨_, rfl⟩
  rw [hr]
  refine Rglidepathlaw01_PulseLocked_1000127a_of _ _ _ _ _ _ _ ?_
  unfold Bglidepathlaw01_PulseLocked_1000127a
  rw [← hr]
  simp only [refPolyErr_is, within_is, bindO_val, bif_eq, bif_ne, bif_dec]
  by_cases h1 : (a.length : Int) = 0
  · rw [if_pos h1, if_neg (fun h : okG a b z t => by have := h.1; omega)]
  · rw [if_neg h1]
    by_cases h2 : (a.length : Int) > 3
    · rw [if_pos h2, if_neg (fun h : okG a b z t => by have := h.2.1; omega)]
    · rw [if_neg h2]
      by_cases h3 : polyE a = 0
      · rw [if_pos h3]
        by_cases h4 : polyE b = 0
        · rw [if_pos h4]
          by_cases h5 : z = 0
          · rw [if_pos h5, if_neg (fun h : okG a b z t => h.2.2.2.2.1 h5)]
          · rw [if_neg h5]
            by_cases h6 : -3 ≤ z ∧ z ≤ 3
            · rw [if_pos h6]
              by_cases h7 : t = 0
              · rw [if_pos h7, if_neg (fun h : okG a b z t => h.2.2.2.2.2.2.1 h7)]
              · rw [if_neg h7]
                by_cases h8 : -3 ≤ t ∧ t ≤ 3
                · rw [if_pos h8, if_pos (show okG a b z t from ⟨by omega, by omega, h3, h4, h5, h6, h7, h8⟩)]
                · rw [if_neg h8, if_neg (fun h : okG a b z t => h8 h.2.2.2.2.2.2.2)]
            · rw [if_neg h6, if_neg (fun h : okG a b z t => h6 h.2.2.2.2.2.1)]
        · rw [if_neg h4, if_neg (fun h : okG a b z t => h4 h.2.2.2.1)]
      · rw [if_neg h3, if_neg (fun h : okG a b z t => h3 h.2.2.1)]

theorem kd103 (hl : 1 ≤ a.length ∧ a.length ≤ 3) (hw : Wrds a) (r : Int) (is : Bool) (h : absW (a.getD (a.length - 1) 0) > r → is = true) :
    Rglidepathlaw01_PulseLocked_1000103 (Tglidepathlaw01_PulseLocked_1000103a a.length (encI a) b.length (encI b) z t most r is 0) = exO (Xglidepathlaw01_PulseLocked_1000103b (a.length, encI a, b.length, encI b, z, t, most, is)) := by
  refine Rglidepathlaw01_PulseLocked_1000103a_of _ _ _ _ _ _ _ _ _ _ ?_
  unfold Bglidepathlaw01_PulseLocked_1000103a
  rw [bif_ne, if_pos rfl, w64_in (by omega), bif_pos (by omega), show ((a.length : Int) - 1).toNat * 1 = a.length - 1 by omega]
  simp only [encI_get, get_getD 0 (show a.length - 1 < a.length by omega), Option.map_some, intC_int, bindO_val, sizeW_is _ (hw _ (getD_mem (l := a) (i := a.length - 1) (by omega)))]
  by_cases hh : absW (a.getD (a.length - 1) 0) > r
  · rw [bif_pos hh, h hh]
    rfl
  · rw [bif_neg hh]
    rfl

theorem kd75 (S P : List Int) (hS : S.length ≤ 1000) (is : Bool) (h : polyE S = 0 → decide (Lck S) = is) :
    Rglidepathlaw01_PulseLocked_1000075 (Tglidepathlaw01_PulseLocked_1000075b a.length (encI a) b.length (encI b) most is S.length (encI S) P.length (encI P) S.length) = exO (Xglidepathlaw01_PulseLocked_1000075b (a.length, encI a, b.length, encI b, most, is, P.length, encI P)) := by
  refine Rglidepathlaw01_PulseLocked_1000075b_of _ _ _ _ _ _ _ _ _ _ _ ?_
  unfold Bglidepathlaw01_PulseLocked_1000075b
  simp only [refPolyErr_is, copyI_is S (by omega), isLocked2_is S (by omega), bindO_val, bif_eq, bif_ne]
  by_cases hp : polyE S = 0
  · have := h hp
    subst this
    rw [if_pos hp]
    by_cases hk : Lck S
    · simp [hp, hk]
      rfl
    · simp [hp, hk]
      rfl
  · rw [if_neg hp]
    rfl

theorem kd64 (P : List Int) (hP : P.length ≤ 1000) (is : Bool) (h : polyE P = 0 → ¬ Lck P) :
    Rglidepathlaw01_PulseLocked_1000064 (Tglidepathlaw01_PulseLocked_1000064a a.length (encI a) b.length (encI b) most is P.length (encI P)) = exO (Xglidepathlaw01_PulseLocked_1000064b (a.length, encI a, b.length, encI b, most, is)) := by
  refine Rglidepathlaw01_PulseLocked_1000064a_of _ _ _ _ _ _ _ _ ?_
  unfold Bglidepathlaw01_PulseLocked_1000064a
  have e : List.take (P.length * 1) (List.drop 0 (encI P)) = encI P := by
    rw [List.drop_zero, List.take_of_length_le (by rw [encI_len]; omega)]
  rw [e, bif_pos (by rw [encI_len]; omega)]
  simp only [refPolyErr_is, copyI_is P (by omega), isLocked2_is P (by omega), bindO_val, bif_eq, bif_ne]
  by_cases hp : polyE P = 0
  · rw [if_pos hp, bif_pos (by rw [encI_len]; omega)]
    simp [hp, h hp]
    rfl
  · rw [if_neg hp]
    rfl

theorem kd53 (is : Bool) : Rglidepathlaw01_PulseLocked_1000053 (Tglidepathlaw01_PulseLocked_1000053a a.length (encI a) b.length (encI b) most is) =
    if b.length = a.length ∧ 0 ≤ most ∧ most ≤ 60 then exO (Xglidepathlaw01_PulseLocked_1000053b (a.length, encI a, b.length, encI b, most, is)) else exO (Xglidepathlaw01_PulseLocked_1000053a ()) := by
  obtain ⟨r, hr⟩ : ∃ r, (if b.length = a.length ∧ 0 ≤ most ∧ most ≤ 60 then exO (Xglidepathlaw01_PulseLocked_1000053b (a.length, encI a, b.length, encI b, most, is)) else exO (Xglidepathlaw01_PulseLocked_1000053a ())) = some r := by
    split <;> exact ⟨_, rfl⟩
  rw [hr]
  refine Rglidepathlaw01_PulseLocked_1000053a_of _ _ _ _ _ _ ?_
  unfold Bglidepathlaw01_PulseLocked_1000053a
  rw [← hr]
  simp only [within_is, bindO_val, bif_ne, bif_dec]
  by_cases h1 : b.length = a.length
  · rw [if_pos (by omega)]
    by_cases h2 : 0 ≤ most ∧ most ≤ 60
    · rw [if_pos h2, if_pos ⟨h1, h2⟩]
    · rw [if_neg h2, if_neg (fun h => h2 h.2)]
  · rw [if_neg (by omega), if_neg (fun h => h1 h.1)]

theorem kd37 (m : Int) (h : 0 ≤ m ∧ m ≤ most) : Rglidepathlaw01_PulseLocked_1000037 (Tglidepathlaw01_PulseLocked_1000037a a.length (encI a) b.length (encI b) most m 0) = exO (Xglidepathlaw01_PulseLocked_1000037b (a.length, encI a, b.length, encI b, most, m)) := by
  refine Rglidepathlaw01_PulseLocked_1000037a_of _ _ _ _ _ _ _ ?_
  unfold Bglidepathlaw01_PulseLocked_1000037a
  simp only [within_is, bindO_val, bif_ne, if_true]
  rw [bif_pos h]
  rfl

theorem kd20 (hl : 1 ≤ a.length ∧ a.length ≤ 3) (hb : b.length = a.length) (m h : Int) (hk : okW a b h) : Rglidepathlaw01_PulseLocked_1000020 (Tglidepathlaw01_PulseLocked_1000020a a.length (encI a) b.length (encI b) most m h) = exO (Xglidepathlaw01_PulseLocked_1000020b (a.length, encI a, b.length, encI b, most, m, h)) := by
  refine Rglidepathlaw01_PulseLocked_1000020a_of _ _ _ _ _ _ _ ?_
  unfold Bglidepathlaw01_PulseLocked_1000020a
  simp only [refSum_is a b h hl.1 (by omega) (by omega), isLocked2_is (sumW a b h) (by rw [sumW_len]; omega), bindO_val]
  simp [hk.1, hk.2]
  rfl

theorem kd4 (hl : 1 ≤ a.length ∧ a.length ≤ 3) (hb : b.length = a.length) (m : Int) (hm : m ≤ 60) (hk : ∀ h, 0 ≤ h → h ≤ m → okW a b h) : ∀ (n : Nat) (h : Int), h + n = m + 1 → 0 ≤ h →
    Rglidepathlaw01_PulseLocked_4 (Tglidepathlaw01_PulseLocked_4a a.length (encI a) b.length (encI b) most m h) = exO (Xglidepathlaw01_PulseLocked_4a (a.length, encI a, b.length, encI b, most, m))
  | 0, h, h1, h2 => by
    refine Rglidepathlaw01_PulseLocked_4a_of _ _ _ _ _ _ _ ?_
    unfold Bglidepathlaw01_PulseLocked_4a
    rw [bif_neg (by omega)]
    rfl
  | n + 1, h, h1, h2 => by
    refine Rglidepathlaw01_PulseLocked_4a_of _ _ _ _ _ _ _ ?_
    unfold Bglidepathlaw01_PulseLocked_4a
    rw [bif_pos (by omega), Lglidepathlaw01_PulseLocked_1000020b_of (kd20 a b most hl hb m h (hk h h2 (by omega)))]
    simp only [bindO_val, Sum.elim_inr]
    rw [w64_in (by omega)]
    exact kd4 hl hb m hm hk n (h + 1) (by omega) (by omega)

/-- The law, when its loops are known. -/
theorem locked_by (S P : List Int) (r : Int) (hok : okG a b z t) (hS : S.length = a.length) (hP : P.length = a.length + 1)
    (H1 : Rglidepathlaw01_PulseLocked_0 (Tglidepathlaw01_PulseLocked_0a a.length (encI a) b.length (encI b) z t most 0 0) = exO (Xglidepathlaw01_PulseLocked_0a (a.length, encI a, b.length, encI b, z, t, most, r)))
    (H2 : absW (a.getD (a.length - 1) 0) > r → Lck a)
    (H3 : ∀ is, Rglidepathlaw01_PulseLocked_2 (Tglidepathlaw01_PulseLocked_2a a.length (encI a) b.length (encI b) z t most is (a.length + 1) (rep [PV.int .i64 0] (a.length + 1))) =
      exO (Xglidepathlaw01_PulseLocked_2b (a.length, encI a, b.length, encI b, most, is, S.length, encI S, P.length, encI P, S.length)))
    (H4 : polyE S = 0 → (Lck S ↔ Lck a)) (H5 : polyE P = 0 → ¬ Lck P) :
    Fglidepathlaw01_PulseLocked [.list a.length (encI a), .list b.length (encI b), .agg [.int .i64 z, .int .i64 t, .int .i64 most]] = some true := by
  refine Fglidepathlaw01_PulseLocked_of _ _ _ _ _ _ _ ?_
  unfold tglidepathlaw01_PulseLocked
  have p127 := kd127 a b z t most
  rw [if_pos hok] at p127
  have L127 := Lglidepathlaw01_PulseLocked_1000127b_of p127
  obtain ⟨g1, g2, g3, g4, g5, g6, g7, g8⟩ := hok
  have hw := poly_wrds g3
  obtain ⟨_, hbl, _⟩ := poly_ok g4
  have L0 := Lglidepathlaw01_PulseLocked_0a_of H1
  have e1 : (w64 ((a.length : Int) + 1)).toNat = a.length + 1 := by rw [w64_in (by omega)]; omega
  have hI := isLocked2_is a (by omega)
  rw [if_neg (by simpa using g3)] at hI
  have m0 := mgF_spec a b most most.toNat 0
  have h0 : Lck a → okW a b 0 := fun hk => ⟨by rw [sumW_zero b hw]; exact g3, by rw [sumW_zero b hw]; exact hk⟩
  simp only [awake_is, bindO_val, cond_true, L127, Sum.elim_inr, L0, copyI_is a (by omega), copyI_is b (by omega), hI]
  by_cases hk : Lck a
  · have L2 := Lglidepathlaw01_PulseLocked_2b_of (H3 true)
    have L75 := Lglidepathlaw01_PulseLocked_1000075b_of (kd75 a b most S P (by omega) true (fun h => decide_eq_true ((H4 h).2 hk)))
    have L64 := Lglidepathlaw01_PulseLocked_1000064b_of (kd64 a b most P (by omega) true H5)
    have L103 := Lglidepathlaw01_PulseLocked_1000103b_of (kd103 a b z t most ⟨g1, g2⟩ hw r true (fun _ => rfl))
    simp only [decide_eq_true hk, cond_true, L103, bindO_val, Sum.elim_inr, e1]
    rw [bif_pos ⟨trivial, by rw [w64_in (by omega)]; omega, by rw [w64_in (by omega)]; simp only [big]; omega⟩]
    simp only [L2, bindO_val, Sum.elim_inr, L75, L64]
    have p53 := kd53 a b most true
    by_cases hc : b.length = a.length ∧ 0 ≤ most ∧ most ≤ 60
    · rw [if_pos hc] at p53
      have L53 := Lglidepathlaw01_PulseLocked_1000053b_of p53
      have hM : mgR a b most = (mgF a b most most.toNat 0, 0) := by
        unfold mgR
        have : mgE a b most = 0 := by
          unfold mgE first4
          rw [g3, g4, if_pos hc.1.symm, rangeE_in hc.2]
          simp
        rw [if_neg (by simpa using this), if_pos hk]
      obtain ⟨n1, n2, n3, n4⟩ := m0
      have L37 := Lglidepathlaw01_PulseLocked_1000037b_of (kd37 a b most (mgF a b most most.toNat 0) ⟨n1, by omega⟩)
      have hall : ∀ h, 0 ≤ h → h ≤ mgF a b most most.toNat 0 → okW a b h := fun h q1 q2 => by
        by_cases hz : h = 0
        · rw [hz]; exact h0 hk
        · exact n3 h (by omega) q2
      have L4 := Lglidepathlaw01_PulseLocked_4a_of (kd4 a b most ⟨g1, g2⟩ hc.1 (mgF a b most most.toNat 0) (by omega) hall (mgF a b most most.toNat 0 + 1).toNat 0 (by omega) (by omega))
      simp only [L53, bindO_val, Sum.elim_inr, Sum.elim_inl, copyI_is a (by omega), copyI_is b (by omega), marginOf_is a b most (by omega) (by omega), hM, cond_true, L37, L4, bif_eq]
      by_cases he : mgF a b most most.toNat 0 = most
      · rw [if_pos he]
      · rw [if_neg he, w64_in (by omega)]
        simp only [refSum_is a b (mgF a b most most.toNat 0 + 1) g1 (by omega) (by omega), isLocked2_is (sumW a b (mgF a b most most.toNat 0 + 1)) (by rw [sumW_len]; omega), bindO_val]
        have hn := n4 (by omega)
        by_cases hp : polyE (sumW a b (mgF a b most most.toNat 0 + 1)) = 0
        · have : ¬ Lck (sumW a b (mgF a b most most.toNat 0 + 1)) := fun h => hn ⟨hp, h⟩
          simp [hp, this]
        · simp [hp]
    · rw [if_neg hc] at p53
      have L53 := Lglidepathlaw01_PulseLocked_1000053a_of p53
      simp only [L53, bindO_val, Sum.elim_inl]
  · have L2 := Lglidepathlaw01_PulseLocked_2b_of (H3 false)
    have L75 := Lglidepathlaw01_PulseLocked_1000075b_of (kd75 a b most S P (by omega) false (fun h => decide_eq_false (fun hq => hk ((H4 h).1 hq))))
    have L64 := Lglidepathlaw01_PulseLocked_1000064b_of (kd64 a b most P (by omega) false H5)
    have L103 := Lglidepathlaw01_PulseLocked_1000103b_of (kd103 a b z t most ⟨g1, g2⟩ hw r false (fun h => absurd (H2 h) hk))
    simp only [decide_eq_false hk, cond_false, L103, bindO_val, Sum.elim_inr, e1]
    rw [bif_pos ⟨trivial, by rw [w64_in (by omega)]; omega, by rw [w64_in (by omega)]; simp only [big]; omega⟩]
    simp only [L2, bindO_val, Sum.elim_inr, L75, L64]
    have p53 := kd53 a b most false
    by_cases hc : b.length = a.length ∧ 0 ≤ most ∧ most ≤ 60
    · rw [if_pos hc] at p53
      have L53 := Lglidepathlaw01_PulseLocked_1000053b_of p53
      have hM : mgR a b most = (0, 18) := by
        unfold mgR
        have : mgE a b most = 0 := by
          unfold mgE first4
          rw [g3, g4, if_pos hc.1.symm, rangeE_in hc.2]
          simp
        rw [if_neg (by simpa using this), if_neg hk]
      simp only [L53, bindO_val, Sum.elim_inr, copyI_is a (by omega), copyI_is b (by omega), marginOf_is a b most (by omega) (by omega), hM, cond_false, bif_eq, if_true]
    · rw [if_neg hc] at p53
      have L53 := Lglidepathlaw01_PulseLocked_1000053a_of p53
      simp only [L53, bindO_val, Sum.elim_inl]
end
end Gv
