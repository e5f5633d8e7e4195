/- The law about alerts without a link. -/
import Derived.Test.YtggnifebabjoiaaA0
import Derived.Test.YtggnifebabjoiaaS10
import Derived.Test.YtggnifebabjoiaaP10
namespace Gv
open Go
set_option maxRecDepth 100000
theorem over_at (A B : List Z3) (e : Z3) (x : Int) : over (encT (A ++ e :: B)) (A.length * 3 + 0) [.int .i64 x] = encT (A ++ (x, e.2) :: B) := by
  unfold over
  have e1 : encT (A ++ e :: B) = encT A ++ (PV.int .i64 e.1 :: (.int .i64 e.2.1 :: .int .i64 e.2.2 :: encT B)) := by simp [encT, enc3]
  have hl : (encT A).length = A.length * 3 := encT_len A
  rw [e1, Nat.add_zero, List.take_left' hl]
  have e2 : (encT A ++ (PV.int .i64 e.1 :: (.int .i64 e.2.1 :: .int .i64 e.2.2 :: encT B))).drop (A.length * 3 + [PV.int .i64 x].length) = .int .i64 e.2.1 :: .int .i64 e.2.2 :: encT B := by
    rw [show encT A ++ (PV.int .i64 e.1 :: (.int .i64 e.2.1 :: .int .i64 e.2.2 :: encT B)) = (encT A ++ [PV.int .i64 e.1]) ++ (.int .i64 e.2.1 :: .int .i64 e.2.2 :: encT B) by simp]
    exact List.drop_left' (by simp [hl])
  rw [e2]
  simp [encT, enc3]
theorem overO_at (A B : List Z3) (e : Z3) (x : Int) : overO (encT (A ++ e :: B)) (A.length * 3 + 0) [.int .i64 x] = some (encT (A ++ (x, e.2) :: B)) := by
  rw [overO_of (by rw [encT_len]; simp; omega), over_at]
theorem l10_move (r : R4) (l : List Z3) (d : Int) (hl : l.length ≤ 100) (hd : 0 ≤ d ∧ d ≤ 1000000) (hb : ∀ e ∈ l, 0 ≤ e.1 ∧ e.1 ≤ 1000000000) : ∀ i, i ≤ l.length →
    Rlaw10_0 (Tlaw10_0a l.length (encT l) d l.length i r.1 r.2.1 r.2.2.1 r.2.2.2 l.length (encT ((l.take i).map (sh d) ++ l.drop i))) = exO (Xlaw10_0a (l.length, encT l, d, l.length, r.1, r.2.1, r.2.2.1, r.2.2.2, l.length, encT (l.map (sh d)))) := by
  refine up_ind _ ?_ ?_
  · refine Rlaw10_0a_of _ _ _ _ _ _ _ _ _ _ _ ?_
    unfold Blaw10_0a
    rw [bif_neg (by omega), List.drop_length, List.take_length, List.append_nil]
    rfl
  · intro i hi ih
    obtain ⟨e, he, hdr⟩ := get_drop hi
    have hlen : ((l.take i).map (sh d)).length = i := by simp; omega
    have hg : (encT ((l.take i).map (sh d) ++ l.drop i))[i * 3 + 0]? = some (.int .i64 e.1) := by
      rw [encT_0', hdr, List.getElem?_append_right (by omega), hlen, Nat.sub_self]
      rfl
    have ho : ∀ x, overO (encT ((l.take i).map (sh d) ++ l.drop i)) (i * 3 + 0) [.int .i64 x] = some (encT ((l.take i).map (sh d) ++ (x, e.2) :: l.drop (i + 1))) := fun x => by
      rw [hdr]
      have := overO_at ((l.take i).map (sh d)) (l.drop (i + 1)) e x
      rw [hlen] at this
      exact this
    refine Rlaw10_0a_of _ _ _ _ _ _ _ _ _ _ _ ?_
    unfold Blaw10_0a
    have c1 : (0 : Int) ≤ (i : Int) ∧ (i : Int) < l.length := by omega
    rw [bif_pos (by omega), bif_pos c1, bif_pos rfl]
    simp only [Int.toNat_natCast, hg, intC_int, bindO_val]
    rw [bif_pos c1, bif_pos trivial]
    have hm := hb e (List.mem_of_getElem? he)
    simp only [ho, bindO_val]
    rw [w64_in (n := e.1 + d) (by omega), w64_in (by omega)]
    have e2 : (l.take i).map (sh d) ++ (e.1 + d, e.2) :: l.drop (i + 1) = (l.take (i + 1)).map (sh d) ++ l.drop (i + 1) := by
      rw [List.take_add_one, he]
      simp [sh]
    rw [e2]
    exact ih
theorem l10_same (d : Int) (P : List Z3) (hl : P.length ≤ 1000) (hb : ∀ z ∈ P, -4000000000000 ≤ z.2.1 ∧ z.2.1 ≤ 4000000000000 ∧ -4000000000000 ≤ z.2.2 ∧ z.2.2 ≤ 4000000000000) (hd : 0 ≤ d ∧ d ≤ 1000000) : ∀ i, i ≤ P.length →
    Rlaw10_2 (Tlaw10_2a d P.length (encT P) P.length (encT (P.map (sh2 d))) i) = exO (XLlaw10_2.fn (.inr ())) := by
  refine up_ind _ ?_ ?_
  · refine Rlaw10_2a_of _ _ _ _ _ _ ?_
    unfold Blaw10_2a
    rw [bif_neg (by omega)]
    rfl
  · intro i hi ih
    obtain ⟨e, he, _⟩ := get_drop hi
    refine Rlaw10_2a_of _ _ _ _ _ _ ?_
    unfold Blaw10_2a
    have c1 : (0 : Int) ≤ (i : Int) ∧ (i : Int) < P.length := by omega
    have hm := hb e (List.mem_of_getElem? he)
    have e2 : ∀ (P : List Z3) (i : Nat), (encT P)[i * 3 + 2]? = P[i]?.map fun z => PV.int .i64 z.2.2 := fun P i => encT_2 P i
    rw [bif_pos (by omega)]
    simp only [bif_dec, c1, and_self, if_true, Int.toNat_natCast, encT_0, encT_1, encT_2, encT_0', e2, List.getElem?_map, he, Option.map_some, intC_int, bindO_val, sh2]
    rw [w64_in (n := e.2.1 + d) (by omega), w64_in (n := e.2.2 + d) (by omega), w64_in (by omega)]
    simp only [beq_self_eq_true, Bool.and_self, Bool.not_true, cond_false]
    exact ih
theorem stepA_bd {r : R4} (hr : ruleE r = 0) {s : St5} {P : List Z3} {e : Z3} (he : 0 ≤ e.1 ∧ e.1 ≤ 1000000000) (h : ∀ z ∈ P, -4000000000000 ≤ z.2.1 ∧ z.2.1 ≤ 4000000000000 ∧ -4000000000000 ≤ z.2.2 ∧ z.2.2 ≤ 4000000000000) :
    ∀ z ∈ (stepA r (s, P) e).2, -4000000000000 ≤ z.2.1 ∧ z.2.1 ≤ 4000000000000 ∧ -4000000000000 ≤ z.2.2 ∧ z.2.2 ≤ 4000000000000 := by
  have hr := ruleE_ok hr
  have w1 : w64 (e.1 + r.2.2.2) = e.1 + r.2.2.2 := w64_in (by omega)
  have w2 : w64 (e.1 - 1) = e.1 - 1 := w64_in (by omega)
  have st : ∀ x : Int, -4000000000000 ≤ x ∧ x ≤ 4000000000000 → ∀ z ∈ setTo P x, -4000000000000 ≤ z.2.1 ∧ z.2.1 ≤ 4000000000000 ∧ -4000000000000 ≤ z.2.2 ∧ z.2.2 ≤ 4000000000000 := by
    intro x hx z hz
    by_cases hP : P = []
    · subst hP; simp [setTo] at hz
    · obtain ⟨pre, w, rfl⟩ := snoc_of hP
      rw [setTo_snoc] at hz
      rcases List.mem_append.1 hz with hz | hz
      · exact h z (by simp [hz])
      · have : z = (w.1, w.2.1, x) := by simpa using hz
        subst this
        have := h w (by simp)
        exact ⟨this.1, this.2.1, hx⟩
  unfold stepA
  dsimp only
  rw [w1, w2]
  split
  · split
    · exact st _ (by omega)
    · exact st _ (by omega)
  · split
    · intro z hz
      rcases List.mem_append.1 hz with hz | hz
      · exact h z hz
      · rw [List.mem_singleton] at hz
        subst hz
        dsimp only
        omega
    · exact h
theorem alL_bd {r : R4} (hr : ruleE r = 0) : ∀ (l : List Z3) (s : St5) (P : List Z3), (∀ e ∈ l, 0 ≤ e.1 ∧ e.1 ≤ 1000000000) → (∀ z ∈ P, -4000000000000 ≤ z.2.1 ∧ z.2.1 ≤ 4000000000000 ∧ -4000000000000 ≤ z.2.2 ∧ z.2.2 ≤ 4000000000000) →
    (∀ z ∈ (l.foldl (stepA r) (s, P)).2, -4000000000000 ≤ z.2.1 ∧ z.2.1 ≤ 4000000000000 ∧ -4000000000000 ≤ z.2.2 ∧ z.2.2 ≤ 4000000000000) ∧ (l.foldl (stepA r) (s, P)).2.length ≤ P.length + l.length
  | [], _, _, _, h => ⟨h, by simp⟩
  | e :: l, s, P, hl, h => by
    have hb := stepA_bd (s := s) hr (hl e (by simp)) h
    have h2 := alL_bd hr l (hearV r s e) (stepA r (s, P) e).2 (fun x hx => hl x (by simp [hx])) hb
    have h3 := (stepA_len r s P e).1
    rw [List.foldl_cons]
    refine ⟨h2.1, ?_⟩
    have h4 := h2.2
    have e1 : stepA r (s, P) e = (hearV r s e, (stepA r (s, P) e).2) := rfl
    rw [e1]
    simp only [List.length_cons]
    omega
theorem l10_52 (n0 : Nat) (c1 : List PV) (i2 i3 : Int) (r : R4) (H w : St5) (h1 : w.1 = false) (h2 : w.2.1 = H.2.1) (h3 : w.2.2.2.1 = i3) :
    Llaw10_1000052 (Tlaw10_1000052a n0 c1 i2 i3 0 0 0 0 r.1 r.2.1 r.2.2.1 r.2.2.2 H.1 H.2.1 H.2.2.1 H.2.2.2.1 H.2.2.2.2 H.1 H.2.1 H.2.2.1 H.2.2.2.1 H.2.2.2.2 w.1 w.2.1 w.2.2.1 w.2.2.2.1 w.2.2.2.2 H.1 H.2.1 H.2.2.1 H.2.2.2.1 H.2.2.2.2) =
    some (.inr (n0, c1, i2, r.1, r.2.1, r.2.2.1, r.2.2.2)) := by
  refine Llaw10_1000052b_of (Rlaw10_1000052a_of _ _ _ _ _ _ _ _ _ _ _ _ _ _ _ _ _ _ _ _ _ _ _ _ _ _ _ _ _ _ _ _ ?_)
  unfold Blaw10_1000052a
  rw [h1, h2, h3]
  simp only [bne_self_eq_false, cond_false, beq_self_eq_true, Bool.and_self, Bool.not_true]
  cases H.1 <;> rfl
theorem l10_26 (d : Int) (n : Nat) (c c' : List PV) : Llaw10_1000026 (Tlaw10_1000026a d n c 0 n c' 0) = some (.inr (d, n, c, n, c')) := by
  refine Llaw10_1000026b_of (Rlaw10_1000026a_of _ _ _ _ _ _ _ ?_)
  unfold Blaw10_1000026a
  simp only [bne_self_eq_false, cond_false]
  rfl
theorem l10_69 (r : R4) (l : List Z3) (x y : Int) : Llaw10_1000069 (Tlaw10_1000069a l.length (encT l) x y r.1 r.2.1 r.2.2.1 r.2.2.2) = some (.inl ()) ∨
    (Llaw10_1000069 (Tlaw10_1000069a l.length (encT l) x y r.1 r.2.1 r.2.2.1 r.2.2.2) = some (.inr (l.length, encT l, x, y, r.1, r.2.1, r.2.2.1, r.2.2.2)) ∧
      l.length ≤ 42 ∧ ruleE r = 0 ∧ evsE l = 0 ∧ (0 ≤ x ∧ x ≤ 1000000) ∧ ∃ pre z, l = pre ++ [z] ∧ z.1 ≤ 1000000000) := by
  have hr := rRuE_is r
  simp only [encR4] at hr
  have key : ∀ Z, Blaw10_1000069a (Fn env) Rlaw10_1000069 exO Llaw10_0 Llaw10_2 Llaw10_1000069 Llaw10_1000052 Llaw10_1000026 l.length (encT l) x y r.1 r.2.1 r.2.2.1 r.2.2.2 = Z → Rlaw10_1000069 (Tlaw10_1000069a l.length (encT l) x y r.1 r.2.1 r.2.2.1 r.2.2.2) = Z ∨ Z = none := fun Z h => by
    cases Z with
    | none => exact .inr rfl
    | some v => exact .inl (Rlaw10_1000069a_of _ _ _ _ _ _ _ _ h)
  have no : Blaw10_1000069a (Fn env) Rlaw10_1000069 exO Llaw10_0 Llaw10_2 Llaw10_1000069 Llaw10_1000052 Llaw10_1000026 l.length (encT l) x y r.1 r.2.1 r.2.2.1 r.2.2.2 = exO (Xlaw10_1000069a ()) → Llaw10_1000069 (Tlaw10_1000069a l.length (encT l) x y r.1 r.2.1 r.2.2.1 r.2.2.2) = some (.inl ()) := fun h =>
    Llaw10_1000069a_of (Rlaw10_1000069a_of _ _ _ _ _ _ _ _ h)
  have yes : Blaw10_1000069a (Fn env) Rlaw10_1000069 exO Llaw10_0 Llaw10_2 Llaw10_1000069 Llaw10_1000052 Llaw10_1000026 l.length (encT l) x y r.1 r.2.1 r.2.2.1 r.2.2.2 = exO (Xlaw10_1000069b (l.length, encT l, x, y, r.1, r.2.1, r.2.2.1, r.2.2.2)) → Llaw10_1000069 (Tlaw10_1000069a l.length (encT l) x y r.1 r.2.1 r.2.2.1 r.2.2.2) = some (.inr (l.length, encT l, x, y, r.1, r.2.1, r.2.2.1, r.2.2.2)) := fun h =>
    Llaw10_1000069b_of (Rlaw10_1000069a_of _ _ _ _ _ _ _ _ h)
  clear key
  by_cases h1 : l.length ≤ 42
  · by_cases h2 : l = []
    · refine .inl (no ?_)
      subst h2
      unfold Blaw10_1000069a
      simp only [fewE_is, bindO_val]
      rfl
    · obtain ⟨pre, z, rfl⟩ := snoc_of h2
      have hn : ¬ (((pre ++ [z]).length : Nat) : Int) = 0 := by simp; omega
      by_cases h3 : ruleE r = 0
      · by_cases h4 : evsE (pre ++ [z]) = 0
        · have a1 : w64 (((pre ++ [z]).length : Int) - 1) = (pre.length : Int) := by rw [w64_in (by omega)]; simp
          have c1 : (0 : Int) ≤ (pre.length : Int) ∧ (pre.length : Int) < ((pre ++ [z]).length : Int) := by simp; omega
          have hg : (encT (pre ++ [z]))[pre.length * 3 + 0]? = some (.int .i64 z.1) := by rw [encT_0']; simp
          by_cases h5 : z.1 ≤ 1000000000
          · by_cases h6 : 0 ≤ x ∧ x ≤ 1000000
            · refine .inr ⟨yes ?_, h1, h3, h4, h6, pre, z, rfl, h5⟩
              unfold Blaw10_1000069a
              simp only [fewE_is, decide_eq_true h1, cond_true, bif_eq, bif_ne, if_neg hn, hr, h3, rEsE_is _ (show (pre ++ [z]).length < 1000 by omega), h4, bindO_val, if_true, a1, bif_dec, c1, and_self, Int.toNat_natCast, hg, intC_int, bWi_is]
              rw [if_neg (by omega), if_pos h6]
            · refine .inl (no ?_)
              unfold Blaw10_1000069a
              simp only [fewE_is, decide_eq_true h1, cond_true, bif_eq, bif_ne, if_neg hn, hr, h3, rEsE_is _ (show (pre ++ [z]).length < 1000 by omega), h4, bindO_val, if_true, a1, bif_dec, c1, and_self, Int.toNat_natCast, hg, intC_int, bWi_is]
              rw [if_neg (by omega), if_neg h6]
          · refine .inl (no ?_)
            unfold Blaw10_1000069a
            simp only [fewE_is, decide_eq_true h1, cond_true, bif_eq, bif_ne, if_neg hn, hr, h3, rEsE_is _ (show (pre ++ [z]).length < 1000 by omega), h4, bindO_val, if_true, a1, bif_dec, c1, and_self, Int.toNat_natCast, hg, intC_int]
            rw [if_pos (by omega)]
        · refine .inl (no ?_)
          unfold Blaw10_1000069a
          simp only [fewE_is, decide_eq_true h1, cond_true, bif_eq, bif_ne, if_neg hn, hr, h3, rEsE_is _ (show (pre ++ [z]).length < 1000 by omega), if_neg h4, bindO_val, if_true]
      · refine .inl (no ?_)
        unfold Blaw10_1000069a
        simp only [fewE_is, decide_eq_true h1, cond_true, bif_eq, bif_ne, if_neg hn, hr, if_neg h3, bindO_val]
  · refine .inl (no ?_)
    unfold Blaw10_1000069a
    simp only [fewE_is, decide_eq_false h1, cond_false, bindO_val]
theorem encT_plain (l : List Z3) : (encT l).all plain = true := by simp [encT, enc3, plain]
theorem silentLaw (r : R4) (l : List Z3) (x y : Int) : Flaw10 [encR4 r, .list l.length (encT l), .agg [.int .i64 x, .int .i64 y]] = some true := by
  refine Flaw10_of _ _ _ _ _ _ _ _ ?_
  unfold tlaw10
  simp only [awake_is, cond_true, bindO_val]
  rcases l10_69 r l x y with hg | ⟨hg, hl, hr, hev, hx, pre, z, hz, hzb⟩
  · rw [hg]
    rfl
  · rw [hg]
    simp only [bindO_val, Sum.elim]
    obtain ⟨k1, ha⟩ := evsE_ok hev
    have hrr := ruleE_ok hr
    have hlen : l.length = pre.length + 1 := by rw [hz]; simp
    have a1 : w64 ((l.length : Int) - 1) = (pre.length : Int) := by rw [w64_in (by omega)]; omega
    have c1 : (0 : Int) ≤ (pre.length : Int) ∧ (pre.length : Int) < (l.length : Int) := by omega
    have hgz : (encT l)[pre.length * 3 + 0]? = some (.int .i64 z.1) := by rw [encT_0', hz]; simp
    have hn : ¬ l.length = 0 := by omega
    have cB : (0 + l.length) ≤ big := by unfold big; omega
    have haz := asc_snoc (hz ▸ ha)
    have hzz := eventE_ok haz.2.1
    have bd : ∀ e ∈ l, 0 ≤ e.1 ∧ e.1 ≤ 1000000000 := by
      have : ∀ (l : List Z3) (b : Int), -1 ≤ b → Asc l b → ∀ e ∈ l, 0 ≤ e.1 := by
        intro l
        induction l with
        | nil => intro b _ _ e he; simp at he
        | cons a l ih =>
          intro b hb h e he
          obtain ⟨h1, h2, h3⟩ := h
          rcases List.mem_cons.1 he with rfl | he
          · omega
          · exact ih a.1 (by omega) h3 e he
      intro e he
      refine ⟨this l (-1) (by omega) ha e he, ?_⟩
      rw [hz] at he
      rcases List.mem_append.1 he with he | he
      · have := haz.1 e he; omega
      · have : e = z := by simpa using he
        rw [this]; exact hzb
    have q0 : ∀ t : Int, z.1 ≤ t → t ≤ 4611686018427387904 → _ := fun t h1 h2 => at_last (r := r) (t := t) (hz ▸ ha) h1 h2
    rw [← hz] at q0
    have hH := (q0 (z.1) (by omega) (by omega)).2
    have q1 := (q0 (z.1) (by omega) (by omega)).1
    have q2 := (q0 (z.1 + r.2.2.2) (by omega) (by omega)).1
    have q3 := (q0 (z.1 + r.2.2.2 + 1) (by omega) (by omega)).1
    have y1 := Int.emod_nonneg y (show r.2.2.2 + 1 ≠ 0 by omega)
    have y2 := Int.emod_lt_of_pos y (show 0 < r.2.2.2 + 1 by omega)
    have q4 := (q0 (z.1 + y % (r.2.2.2 + 1)) (by omega) (by omega)).1
    rw [if_neg (by omega)] at q1 q2 q4
    have sE : ∀ t, 0 ≤ t → t ≤ 1000000000000 → sAtE r l t = 0 := fun t h1 h2 => by unfold sAtE; rw [hr, hev, rangeE_in ⟨h1, h2⟩]; rfl
    have s1 := sAt_is r l z.1 (by omega)
    have s2 := sAt_is r l (z.1 + r.2.2.2) (by omega)
    have s3 := sAt_is r l (z.1 + r.2.2.2 + 1) (by omega)
    have s4 := sAt_is r l (z.1 + y % (r.2.2.2 + 1)) (by omega)
    rw [if_pos (sE _ (by omega) (by omega)), q1] at s1
    rw [if_pos (sE _ (by omega) (by omega)), q2] at s2
    rw [if_pos (sE _ (by omega) (by omega))] at s3
    rw [if_pos (sE _ (by omega) (by omega)), q4] at s4
    have hw : (atV r l (z.1 + r.2.2.2 + 1)).1 = false ∧ (atV r l (z.1 + r.2.2.2 + 1)).2.1 = (l.foldl (hearV r) st0).2.1 ∧ (atV r l (z.1 + r.2.2.2 + 1)).2.2.2.1 = z.1 := by
      rw [q3]
      cases hb : (l.foldl (hearV r) st0).1 with
      | true =>
        rw [if_pos ⟨rfl, by omega⟩]
        exact ⟨rfl, rfl, rfl⟩
      | false =>
        rw [if_neg (by simp)]
        exact ⟨hb, rfl, hH⟩
    have hal := alOf_is r l (by omega)
    have hbz : both (ruleE r) (evsE l) = 0 := by rw [hr, hev]; rfl
    rw [if_pos hbz] at hal
    have hlm : (l.map (sh x)).length = l.length := by simp
    have hev2 : evsE (l.map (sh x)) = 0 := evsE_asc (asc_sh hx ha (by omega) fun e he => (bd e he).2) (by rw [hlm]; exact k1)
    have hal2 := alOf_is r (l.map (sh x)) (by rw [hlm]; omega)
    have hbz2 : both (ruleE r) (evsE (l.map (sh x))) = 0 := by rw [hr, hev2]; rfl
    rw [if_pos hbz2, alL_sh hr hx bd, hlm, List.length_map] at hal2
    have hA : FbMod [.int .i64 y, .int .i64 (r.2.2.2 + 1)] = _ := bMod_is y (r.2.2.2 + 1) (by omega) (by omega)
    have m0 := l10_move r l x (by omega) hx bd 0 (by omega)
    rw [List.take_zero, List.map_nil, List.nil_append, List.drop_zero] at m0
    have m1 : Llaw10_0 (Tlaw10_0a l.length (encT l) x l.length 0 r.1 r.2.1 r.2.2.1 r.2.2.2 l.length (encT l)) = _ := Llaw10_0a_of m0
    have p52 := l10_52 l.length (encT l) x z.1 r (l.foldl (hearV r) st0) (atV r l (z.1 + r.2.2.2 + 1)) hw.1 hw.2.1 hw.2.2
    have hbd := alL_bd hr l st0 [] bd (by simp)
    have p26 := l10_26 x (alL r l).length (encT (alL r l)) (encT ((alL r l).map (sh2 x)))
    have p2 := l10_same x (alL r l) (by have := hbd.2; unfold alL; simp only [List.length_nil] at this; omega) hbd.1 hx 0 (by omega)
    have p2' : Llaw10_2 (Tlaw10_2a x (alL r l).length (encT (alL r l)) (alL r l).length (encT ((alL r l).map (sh2 x))) 0) = _ := lpO_of Ilaw10_2 XIlaw10_2 p2
    have w1 : w64 (z.1 + r.2.2.2) = z.1 + r.2.2.2 := w64_in (by omega)
    have w2 : w64 (z.1 + r.2.2.2 + 1) = z.1 + r.2.2.2 + 1 := w64_in (by omega)
    have w3 : w64 (z.1 + y % (r.2.2.2 + 1)) = z.1 + y % (r.2.2.2 + 1) := w64_in (by omega)
    have w4 : w64 (r.2.2.2 + 1) = r.2.2.2 + 1 := w64_in (by omega)
    simp only [encR4] at s1 s2 s3 s4 hal hal2
    simp only [a1, bif_dec, c1, and_self, if_true, Int.toNat_natCast, hgz, intC_int, bindO_val, if_neg hn, encT_len, cB, Nat.zero_add, List.nil_append, s1, w1, s2, w2, s3, w4, hA, w3, s4, p52]
    simp only [bif_dec, if_neg hn, encT_len, if_true, Nat.zero_add, cB, and_self, List.nil_append, m1, bindO_val, hal, hal2, p26, p2']
    have cB2 : l.length ≤ big := by unfold big; omega
    simp only [cB2, and_self, if_true, encT_plain]
end Gv
