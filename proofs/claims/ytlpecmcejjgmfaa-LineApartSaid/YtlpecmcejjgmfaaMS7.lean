/- No line twice: detections are apart from each other, the peak is one of them, a greater threshold leaves some of them. -/
import Derived.Test.YtlpecmcejjgmfaaMA
import Derived.Test.YtlpecmcejjgmfaaMS5
import Derived.Test.YtlpecmcejjgmfaaM8
namespace Gv
open Go
set_option maxRecDepth 100000

def hasS (l : List Int) (x : Int) : Unit ⊕ Unit := if x ∈ l then .inl () else .inr ()
theorem has_loop (l : List Int) (x : Int) (hl : l.length < 4294967296) : ∀ i, i ≤ l.length →
    Rglidepathbase_Has_0 (Tglidepathbase_Has_0a l.length (encI l) x i) = exO (XLglidepathbase_Has_0.fn (hasS (l.drop i) x)) := by
  refine up_ind _ ?_ ?_
  · refine Rglidepathbase_Has_0a_of _ _ _ _ ?_
    unfold Bglidepathbase_Has_0a
    rw [bif_neg (by omega), List.drop_length]
    rfl
  · intro i hi ih
    obtain ⟨y, hy, hd⟩ := get_drop hi
    refine Rglidepathbase_Has_0a_of _ _ _ _ ?_
    unfold Bglidepathbase_Has_0a
    rw [bif_pos (by omega), bif_pos (by omega)]
    simp only [Int.toNat_natCast, Nat.mul_one, encI_get, hy, Option.map_some, intC_int, bindO_val, bif_eq]
    rw [hd, w64_in (by omega)]
    by_cases he : y = x
    · subst he
      rw [if_pos rfl, show hasS (y :: l.drop (i + 1)) y = .inl () from if_pos (by simp)]
      rfl
    · have q : (x ∈ y :: l.drop (i + 1)) ↔ x ∈ l.drop (i + 1) := by
        rw [List.mem_cons]
        exact ⟨fun h => h.resolve_left (fun q => he q.symm), .inr⟩
      rw [if_neg he, show hasS (y :: l.drop (i + 1)) x = hasS (l.drop (i + 1)) x by unfold hasS; simp only [q]]
      exact ih
theorem has_is (l : List Int) (x : Int) (hl : l.length < 4294967296) : Fglidepathbase_Has [.list l.length (encI l), .int .i64 x] = some (decide (x ∈ l)) := by
  refine Fglidepathbase_Has_of _ _ _ ?_
  unfold tglidepathbase_Has
  have := lpO_of Iglidepathbase_Has_0 XIglidepathbase_Has_0 (has_loop l x hl 0 (by omega))
  have this : Lglidepathbase_Has_0 (Tglidepathbase_Has_0a l.length (encI l) x 0) = _ := this
  rw [this, List.drop_zero]
  by_cases h : x ∈ l
  · rw [show hasS l x = .inl () from if_pos h, decide_eq_true h]
    rfl
  · rw [show hasS l x = .inr () from if_neg h, decide_eq_false h]
    rfl

theorem colI_asc {p : Nat → Bool} : ∀ n i, (colI p n i).Pairwise (· < ·)
  | 0, _ => List.Pairwise.nil
  | n + 1, i => by
    unfold colI
    split
    · refine List.Pairwise.cons (fun x hx => ?_) (colI_asc n (i + 1))
      obtain ⟨k, rfl, h, _⟩ := colI_mem.1 hx
      omega
    · exact colI_asc n (i + 1)
theorem asc_get {l : List Int} (h : l.Pairwise (· < ·)) {i j : Nat} (hij : i < j) (hj : j < l.length) : l.getD i 0 < l.getD j 0 := by
  have := List.pairwise_iff_getElem.1 h i j (by omega) hj hij
  rw [List.getD_eq_getElem?_getD, List.getD_eq_getElem?_getD, List.getElem?_eq_getElem (by omega), List.getElem?_eq_getElem hj]
  exact this

theorem det_mem {l : List Int} {t a x : Int} : x ∈ detL l t a ↔ ∃ k : Nat, x = k ∧ k < l.length ∧ dtB l t a k = true := by
  unfold detL
  rw [colI_mem]
  constructor
  · rintro ⟨k, h1, _, h3, h4⟩; exact ⟨k, h1, by omega, h4⟩
  · rintro ⟨k, h1, h3, h4⟩; exact ⟨k, h1, by omega, by omega, h4⟩
theorem det_has (l : List Int) (t a : Int) {i : Nat} (hi : i < l.length) : decide ((i : Int) ∈ detL l t a) = dtB l t a i := by
  cases h : dtB l t a i with
  | true => exact decide_eq_true (det_mem.2 ⟨i, rfl, hi, h⟩)
  | false =>
    refine decide_eq_false fun q => ?_
    obtain ⟨k, h1, _, h3⟩ := det_mem.1 q
    have : k = i := by omega
    subst this
    rw [h] at h3
    cases h3

theorem dtB_iff {l : List Int} {t a : Int} {i : Nat} : dtB l t a i = true ↔ t ≤ l.getD i 0 ∧ ∀ j, nLo i a ≤ j → j < nLo i a + nN l i a → okAt l i j = true := by
  unfold dtB
  rw [Bool.and_eq_true, allN_iff, decide_eq_true_iff]
theorem okAt_iff {l : List Int} {i j : Nat} : okAt l i j = true ↔ l.getD j 0 ≤ l.getD i 0 ∧ (j < i → l.getD j 0 ≠ l.getD i 0) := by
  unfold okAt
  simp only [Bool.not_eq_true', Bool.or_eq_false_iff, Bool.and_eq_false_iff, decide_eq_false_iff_not]
  constructor
  · rintro ⟨h1, h2⟩
    exact ⟨by omega, fun h => by omega⟩
  · rintro ⟨h1, h2⟩
    refine ⟨by omega, ?_⟩
    by_cases h : j < i
    · exact .inr (h2 h)
    · exact .inl h
theorem det_apart {l : List Int} {t a : Int} {i j : Nat} (ha : 0 ≤ a) (hij : i < j) (hj : j < l.length) (h1 : dtB l t a i = true) (h2 : dtB l t a j = true) : a < (j : Int) - i := by
  by_cases h : a < (j : Int) - i
  · exact h
  · have a1 := okAt_iff.1 ((dtB_iff.1 h1).2 j (by simp only [nLo]; omega) (by simp only [nLo, nN]; omega))
    have a2 := okAt_iff.1 ((dtB_iff.1 h2).2 i (by simp only [nLo]; omega) (by simp only [nLo, nN]; omega))
    have := a2.2 hij
    omega
theorem det_peak {l : List Int} {t a : Int} (h : 1 ≤ l.length) : dtB l t a (pkL l) = decide (t ≤ l.getD (pkL l) 0) := by
  obtain ⟨_, p1, p2, p3⟩ := pkL_spec h
  rw [Bool.eq_iff_iff, dtB_iff, decide_eq_true_iff]
  refine ⟨fun q => q.1, fun q => ⟨q, fun j _ hj => okAt_iff.2 ⟨?_, fun hjp => ?_⟩⟩⟩
  · have := maxL_ge (getD_mem (l := l) (i := j) (by simp only [nLo, nN] at *; omega))
    omega
  · have := p3 j hjp
    omega
theorem det_more {l : List Int} {t t' a : Int} (h : t ≤ t') (i : Nat) : dtB l t' a i = (dtB l t a i && decide (t' ≤ l.getD i 0)) := by
  rw [Bool.eq_iff_iff, Bool.and_eq_true, dtB_iff, dtB_iff, decide_eq_true_iff]
  constructor
  · rintro ⟨h1, h2⟩; exact ⟨⟨by omega, h2⟩, h1⟩
  · rintro ⟨⟨_, h2⟩, h1⟩; exact ⟨h1, h2⟩

theorem ap52 {l : List Int} (sp : Sp l) (more p t a : Int) (ha : 0 ≤ a ∧ a ≤ 16) {i : Nat} (hi : i < (detL l t a).length) :
    Rglidepathlaw02_LineApart_1000052 (Tglidepathlaw02_LineApart_1000052a l.length (encI l) more (detL l t a).length (encI (detL l t a)) p (i : Int) t a) =
      exO (Xglidepathlaw02_LineApart_1000052b (l.length, encI l, more, (detL l t a).length, encI (detL l t a), p, (i : Int), t, a)) := by
  have hl := sp.len
  have hD : (detL l t a).length ≤ l.length := colI_len _ _ _
  refine Rglidepathlaw02_LineApart_1000052a_of _ _ _ _ _ _ _ _ _ ?_
  unfold Bglidepathlaw02_LineApart_1000052a
  obtain ⟨k, hk, h2, h3⟩ := det_mem.1 (getD_mem hi)
  have q1 : decide ((0 : Int) ≤ ((i : Nat) : Int) ∧ ((i : Nat) : Int) < ((detL l t a).length : Int)) = true := decide_eq_true (by omega)
  have q2 : decide ((0 : Int) ≤ ((k : Nat) : Int) ∧ ((k : Nat) : Int) < (l.length : Int)) = true := decide_eq_true (by omega)
  have q3 : rangeE (k : Int) 0 ((l.length : Int) - 1) = 0 := rangeE_in (by omega)
  have ht := (dtB_iff.1 h3).1
  rw [w64_in (n := (l.length : Int) - 1) (by omega)]
  simp only [q1, cond_true, Int.toNat_natCast, Nat.mul_one, encI_get, get_getD 0 hi, hk, Option.map_some, intC_int, bindO_val, within_is, q2, q3, decide_true, get_getD 0 h2, bif_dec]
  rw [if_pos trivial, if_pos (by omega), if_neg (by omega)]
  by_cases h0 : i = 0
  · subst h0
    rw [if_neg (by omega)]
    rfl
  · have w1 : w64 ((i : Int) - 1) = ((i - 1 : Nat) : Int) := by rw [w64_in (by omega)]; omega
    have hi1 : i - 1 < (detL l t a).length := by omega
    obtain ⟨m, hm, m2, m3⟩ := det_mem.1 (getD_mem hi1)
    have q4 : (0 : Int) ≤ ((i - 1 : Nat) : Int) ∧ ((i - 1 : Nat) : Int) < ((detL l t a).length : Int) := by omega
    have asc : (detL l t a).getD (i - 1) 0 < (detL l t a).getD i 0 := asc_get (colI_asc _ _) (by omega) hi
    rw [hk, hm] at asc
    have ap := det_apart ha.1 (by omega) h2 m3 h3
    rw [if_pos (by omega)]
    simp only [w1, q4, and_self, if_true, Int.toNat_natCast, get_getD 0 hi1, hm, Option.map_some, intC_int, bindO_val]
    rw [if_neg (by omega), w64_in (by omega), if_neg (by omega)]
    rfl

theorem ap0 {l : List Int} (sp : Sp l) (more p t a : Int) (ha : 0 ≤ a ∧ a ≤ 16) : ∀ i, i ≤ (detL l t a).length →
    Rglidepathlaw02_LineApart_0 (Tglidepathlaw02_LineApart_0a l.length (encI l) more (detL l t a).length (encI (detL l t a)) p (i : Int) t a) =
      exO (Xglidepathlaw02_LineApart_0a (l.length, encI l, more, (detL l t a).length, encI (detL l t a), p, t, a)) := by
  have hl := sp.len
  have hD : (detL l t a).length ≤ l.length := colI_len _ _ _
  refine up_ind _ ?_ ?_
  · refine Rglidepathlaw02_LineApart_0a_of _ _ _ _ _ _ _ _ _ ?_
    unfold Bglidepathlaw02_LineApart_0a
    rw [bif_neg (by omega)]
    rfl
  · intro i hi ih
    refine Rglidepathlaw02_LineApart_0a_of _ _ _ _ _ _ _ _ _ ?_
    unfold Bglidepathlaw02_LineApart_0a
    have w1 : w64 ((i : Int) + 1) = ((i + 1 : Nat) : Int) := by rw [w64_in (by omega)]; omega
    rw [bif_pos (by omega), Lglidepathlaw02_LineApart_1000052b_of (ap52 sp more p t a ha hi)]
    simp only [bindO_val, Sum.elim_inr, w1]
    exact ih

theorem ap9 {l : List Int} (sp : Sp l) {t t' a : Int} (ht : t ≤ t') {i : Nat} (hi : i < l.length) :
    Rglidepathlaw02_LineApart_1000009 (Tglidepathlaw02_LineApart_1000009a l.length (encI l) (detL l t a).length (encI (detL l t a)) (detL l t' a).length (encI (detL l t' a)) (i : Int) t' a) =
      exO (Xglidepathlaw02_LineApart_1000009a (l.length, encI l, (detL l t a).length, encI (detL l t a), (detL l t' a).length, encI (detL l t' a), (i : Int), t', a)) := by
  have hl := sp.len
  have hD : (detL l t a).length ≤ l.length := colI_len _ _ _
  have hD' : (detL l t' a).length ≤ l.length := colI_len _ _ _
  refine Rglidepathlaw02_LineApart_1000009a_of _ _ _ _ _ _ _ _ _ ?_
  unfold Bglidepathlaw02_LineApart_1000009a
  have q1 : decide ((0 : Int) ≤ ((i : Nat) : Int) ∧ ((i : Nat) : Int) < (l.length : Int)) = true := decide_eq_true (by omega)
  simp only [has_is (detL l t a) i (by omega), has_is (detL l t' a) i (by omega), det_has l t a hi, det_has l t' a hi, bindO_val, q1, cond_true, Int.toNat_natCast, Nat.mul_one, encI_get, get_getD 0 hi, Option.map_some, intC_int]
  rw [det_more ht i]
  by_cases h1 : dtB l t a i = true
  · by_cases h2 : t' ≤ l.getD i 0
    · rw [h1, decide_eq_true h2]
      simp only [Bool.and_self, cond_true, ge_iff_le, h2, decide_true]
      rfl
    · rw [h1, decide_eq_false h2]
      simp only [Bool.and_false, cond_false, cond_true, ge_iff_le, h2, decide_false]
      rfl
  · rw [show dtB l t a i = false by simpa using h1]
    simp only [Bool.false_and, cond_false]
    rfl

theorem ap2 {l : List Int} (sp : Sp l) {t t' a : Int} (ht : t ≤ t') : ∀ i, i ≤ l.length →
    Rglidepathlaw02_LineApart_2 (Tglidepathlaw02_LineApart_2a l.length (encI l) (detL l t a).length (encI (detL l t a)) (detL l t' a).length (encI (detL l t' a)) (i : Int) t' a) =
      exO (Xglidepathlaw02_LineApart_2a (t', a)) := by
  have hl := sp.len
  refine up_ind _ ?_ ?_
  · refine Rglidepathlaw02_LineApart_2a_of _ _ _ _ _ _ _ _ _ ?_
    unfold Bglidepathlaw02_LineApart_2a
    rw [bif_neg (by omega)]
    rfl
  · intro i hi ih
    refine Rglidepathlaw02_LineApart_2a_of _ _ _ _ _ _ _ _ _ ?_
    unfold Bglidepathlaw02_LineApart_2a
    have w1 : w64 ((i : Int) + 1) = ((i + 1 : Nat) : Int) := by rw [w64_in (by omega)]; omega
    rw [bif_pos (by omega), Lglidepathlaw02_LineApart_1000009a_of (ap9 sp ht hi)]
    simp only [bindO_val, Sum.elim_inl, w1]
    exact ih

def apOK (l : List Int) (t a more : Int) : Prop := spE l = 0 ∧ ruleE t a = 0 ∧ rangeE more 0 100 = 0
instance (l : List Int) (t a more : Int) : Decidable (apOK l t a more) := by unfold apOK; exact inferInstance
def apS (l : List Int) (t a more : Int) : Unit ⊕ (Nat × List PV × Int × Int × Int) := if apOK l t a more then .inr (l.length, encI l, more, t, a) else .inl ()
theorem ap80 (l : List Int) (t a more : Int) :
    Rglidepathlaw02_LineApart_1000080 (Tglidepathlaw02_LineApart_1000080a l.length (encI l) more t a) = exO (XLglidepathlaw02_LineApart_1000080.fn (apS l t a more)) := by
  refine Rglidepathlaw02_LineApart_1000080a_of _ _ _ _ _ ?_
  unfold Bglidepathlaw02_LineApart_1000080a apS apOK
  simp only [refSpErr_is, refRule_is, within_is, bindO_val, bif_ne, bif_dec]
  by_cases h1 : spE l = 0
  · by_cases h2 : ruleE t a = 0
    · by_cases h3 : rangeE more 0 100 = 0
      · simp only [h1, h2, h3, if_true, and_self]
        rfl
      · simp only [h1, h2, h3, if_true, if_false, and_false]
        rfl
    · simp only [h1, h2, if_true, if_false, and_false, false_and]
      rfl
  · simp only [h1, if_false, false_and]
    rfl

theorem ap69 {l : List Int} (sp : Sp l) (t a more x y : Int) :
    Rglidepathlaw02_LineApart_1000069 (Tglidepathlaw02_LineApart_1000069a l.length (encI l) more (detL l t a).length (encI (detL l t a)) 0 (pkL l) 0 x y) =
      exO (Xglidepathlaw02_LineApart_1000069b (l.length, encI l, more, (detL l t a).length, encI (detL l t a), (pkL l : Int), x, y)) := by
  have hl := sp.len
  have hD : (detL l t a).length ≤ l.length := colI_len _ _ _
  obtain ⟨_, p1, _, _⟩ := pkL_spec sp.pos
  refine Rglidepathlaw02_LineApart_1000069a_of _ _ _ _ _ _ _ _ _ _ ?_
  unfold Bglidepathlaw02_LineApart_1000069a
  rw [w64_in (by omega)]
  simp only [bif_ne, if_true, within_is, bindO_val, rangeE_in (x := (pkL l : Int)) (a := 0) (b := (l.length : Int) - 1) (by omega), decide_true, cond_true]
  rw [bif_neg (by omega)]
  rfl

theorem apartLaw (l : List Int) (t a more : Int) : Fglidepathlaw02_LineApart [.list l.length (encI l), .agg [.int .i64 t, .int .i64 a], .int .i64 more] = some true := by
  refine Fglidepathlaw02_LineApart_of _ _ _ _ _ ?_
  unfold tglidepathlaw02_LineApart
  have q := lpO_of Iglidepathlaw02_LineApart_1000080 XIglidepathlaw02_LineApart_1000080 (ap80 l t a more)
  have q : Lglidepathlaw02_LineApart_1000080 (Tglidepathlaw02_LineApart_1000080a l.length (encI l) more t a) = _ := q
  simp only [awakeL_is, bindO_val, cond_true, q]
  unfold apS
  by_cases h : apOK l t a more
  · rw [if_pos h]
    obtain ⟨h1, h2, h3⟩ := h
    have sp := sp_ok h1
    have hl := sp.len
    obtain ⟨r1, r2⟩ := both_nil h2
    have r1 := rangeE_ok r1
    have r2 := rangeE_ok r2
    have r3 := rangeE_ok h3
    obtain ⟨_, p1, _, _⟩ := pkL_spec sp.pos
    have hD : (detL l t a).length ≤ l.length := colI_len _ _ _
    have ok : ∀ x, ruleE x a = 0 → detR l x a = (((detL l x a).length, encI (detL l x a)), 0) := fun x hx => by
      unfold detR
      rw [if_neg (by rw [detE_both, both_zero h1, hx]; exact fun h => h rfl)]
    have pk : pkR l = ((pkL l : Int), 0) := by unfold pkR; rw [if_neg (by rw [h1]; exact fun h => h rfl)]
    have l69 := Lglidepathlaw02_LineApart_1000069b_of (ap69 sp t a more t a)
    have l0 := Lglidepathlaw02_LineApart_0a_of (ap0 sp more (pkL l) t a r2 0 (by omega))
    have l2 := Lglidepathlaw02_LineApart_2a_of (ap2 (a := a) sp (show t ≤ t + more by omega) 0 (by omega))
    rw [show ((0 : Nat) : Int) = 0 from rfl] at l0 l2
    have q1 : decide ((0 : Int) ≤ ((pkL l : Nat) : Int) ∧ ((pkL l : Nat) : Int) < (l.length : Int)) = true := decide_eq_true (by omega)
    simp only [Sum.elim_inr, lcopyI_is l (by omega), bindO_val, detections_is l _ a (show l.length < 4294967296 by omega), peakOf_is l (by omega), ok t h2, pk, l69, l0, Sum.elim_inl, has_is (detL l t a) (pkL l) (by omega), det_has l t a p1, det_peak sp.pos, q1, cond_true, Int.toNat_natCast, Nat.mul_one, encI_get, get_getD 0 p1, Option.map_some, intC_int, refRule_is, bif_ne, ge_iff_le, bif_dec]
    rw [w64_in (by omega)]
    by_cases hr : ruleE (t + more) a = 0
    · by_cases hp : t ≤ l.getD (pkL l) 0
      · simp only [hr, hp, if_true, ok _ hr, l2, bindO_val, Sum.elim_inl]
        exact if_pos (by omega)
      · simp only [hr, hp, if_true, if_false, ok _ hr, l2, bindO_val, Sum.elim_inl]
        exact if_pos (by omega)
    · by_cases hp : t ≤ l.getD (pkL l) 0
      · simp only [hr, hp, if_true, if_false]
        exact if_pos (by omega)
      · simp only [hr, hp, if_false]
        exact if_pos (by omega)
  · rw [if_neg h]
    rfl
end Gv
