/- The law about alerts that are issued once. -/
import Derived.Test.YtggnifebabjoiaaA0
import Derived.Test.YtggnifebabjoiaaS20
import Derived.Test.YtggnifebabjoiaaP9
namespace Gv
open Go
set_option maxRecDepth 100000
theorem e2T (P : List Z3) (i : Nat) : (encT P)[i * 3 + 2]? = P[i]?.map fun z => PV.int .i64 z.2.2 := encT_2 P i
theorem e10T (l : List Z3) (i : Nat) : (encT l)[i * 3 + 1 + 0]? = l[i]?.map fun z => PV.int .i64 z.2.1 := encT_1 l i
theorem l9_52 (n0 : Nat) (c1 : List PV) (t : Int) (ra cl ho ti : Int) (P : List Z3) (hl : P.length < 1000) (hn : ∀ (i : Nat) z, P[i]? = some z → z.1 = (i : Int) + 1) (hr : ∀ z ∈ P, z.2.1 ≤ z.2.2)
    (ha : ∀ (i : Nat) z w, P[i]? = some z → P[i + 1]? = some w → z.2.2 < w.2.1) (i : Nat) (hi : i < P.length) :
    Llaw9_1000052 (Tlaw9_1000052a n0 c1 t P.length (encT P) i ra cl ho ti) = some (.inr (n0, c1, t, P.length, encT P, i, ra, cl, ho, ti)) := by
  obtain ⟨z, hz, _⟩ := get_drop hi
  refine Llaw9_1000052b_of (Rlaw9_1000052a_of _ _ _ _ _ _ _ _ _ _ ?_)
  unfold Blaw9_1000052a
  have c1 : (0 : Int) ≤ (i : Int) ∧ (i : Int) < P.length := by omega
  have hnz := hn i z hz
  have hrz := hr z (List.mem_of_getElem? hz)
  have w1 : w64 ((i : Int) + 1) = (i : Int) + 1 := w64_in (by omega)
  simp only [bif_dec, c1, and_self, if_true, Int.toNat_natCast, encT_0', encT_1, e2T, hz, Option.map_some, intC_int, bindO_val, w1, hnz, bif_ne, show ¬ z.2.1 > z.2.2 by omega, if_false]
  cases i with
  | zero => rfl
  | succ j =>
    obtain ⟨y, hy, _⟩ := get_drop (l := P) (i := j) (by omega)
    have hyz := ha j y z hy hz
    have w2 : w64 (((j + 1 : Nat) : Int) - 1) = (j : Int) := by rw [w64_in (by omega)]; omega
    have c2 : (0 : Int) ≤ (j : Int) ∧ (j : Int) < P.length := by omega
    simp only [w2, c2, and_self, if_true, Int.toNat_natCast, e2T, hy, Option.map_some, intC_int, bindO_val, show ((j + 1 : Nat) : Int) > 0 by omega, show ¬ z.2.1 ≤ y.2.2 by omega, if_false]
    rfl
theorem l9_0 (n0 : Nat) (c1 : List PV) (t : Int) (ra cl ho ti : Int) (P : List Z3) (hl : P.length < 1000) (hn : ∀ (i : Nat) z, P[i]? = some z → z.1 = (i : Int) + 1) (hr : ∀ z ∈ P, z.2.1 ≤ z.2.2)
    (ha : ∀ (i : Nat) z w, P[i]? = some z → P[i + 1]? = some w → z.2.2 < w.2.1) : ∀ i, i ≤ P.length →
    Rlaw9_0 (Tlaw9_0a n0 c1 t P.length (encT P) i ra cl ho ti) = exO (XLlaw9_0.fn (.inl (n0, c1, t, P.length, encT P, ra, cl, ho, ti))) := by
  refine up_ind _ ?_ ?_
  · refine Rlaw9_0a_of _ _ _ _ _ _ _ _ _ _ ?_
    unfold Blaw9_0a
    rw [bif_neg (by omega)]
    rfl
  · intro i hi ih
    refine Rlaw9_0a_of _ _ _ _ _ _ _ _ _ _ ?_
    unfold Blaw9_0a
    rw [bif_pos (by omega), l9_52 n0 c1 t ra cl ho ti P hl hn hr ha i hi]
    simp only [bindO_val, Sum.elim_inr]
    rw [w64_in (by omega)]
    exact ih
theorem l9_27 (l P : List Z3) (t : Int) (ra cl ho ti : Int) (d q : Bool) (i : Nat) (e : Z3) (s : St5) (hi : i < l.length) (he : l[i]? = some e) (hP : P.length < 1000) (hs : stB P e.1 = s.1) (hh : s.2.2.2.1 = e.1) (hlo : ra ≤ e.2.1 → s.1 = true) :
    Llaw9_1000027 (Tlaw9_1000027a l.length (encT l) t P.length (encT P) d q i 0 ra cl ho ti s.1 s.2.1 s.2.2.1 s.2.2.2.1 s.2.2.2.2) =
    some (.inr (l.length, encT l, t, P.length, encT P, d, q, i, ra, cl, ho, ti, s.1, s.2.1, s.2.2.1, s.2.2.2.1, s.2.2.2.2)) := by
  refine Llaw9_1000027b_of (Rlaw9_1000027a_of _ _ _ _ _ _ _ _ _ _ _ _ _ _ _ _ _ _ ?_)
  unfold Blaw9_1000027a
  have c1 : (0 : Int) ≤ (i : Int) ∧ (i : Int) < l.length := by omega
  have hst : FlStd [.list P.length (encT P), .int .i64 e.1] = some (stB P e.1) := lStd_is P e.1 hP
  obtain ⟨b, n, si, h, qq⟩ := s
  simp only at hs hh hlo
  rw [hs] at hst
  simp only [bif_dec, c1, and_self, if_true, Int.toNat_natCast, encT_0', encT_1, e10T, he, Option.map_some, intC_int, bindO_val, hst, bif_ne, hh]
  cases b with
  | true =>
    simp only [cond_true]
    by_cases h5 : e.2.1 ≥ ra <;> simp [h5] <;> rfl
  | false =>
    have h5 : ¬ e.2.1 ≥ ra := fun h => by have := hlo h; cases this
    simp [h5]
    rfl
def Dn (l : List Z3) (ti : Int) (i : Nat) : Prop := ∀ (k : Nat) a b, k + 1 < i → l[k]? = some a → l[k + 1]? = some b → b.1 - a.1 ≤ ti
def Qn (l : List Z3) (cl : Int) (i : Nat) : Prop := ∀ (k : Nat) a, k < i → l[k]? = some a → cl ≤ a.2.2
theorem Qn_succ {l : List Z3} {cl : Int} {i : Nat} {e : Z3} (he : l[i]? = some e) : Qn l cl (i + 1) ↔ Qn l cl i ∧ cl ≤ e.2.2 := by
  constructor
  · exact fun h => ⟨fun k a hk => h k a (by omega), h i e (by omega) he⟩
  · rintro ⟨h1, h2⟩ k a hk ha
    by_cases hc : k = i
    · subst hc; rw [he] at ha; cases ha; exact h2
    · exact h1 k a (by omega) ha
theorem Dn_one (l : List Z3) (ti : Int) : Dn l ti 0 ∧ Dn l ti 1 := ⟨fun k a b hk => by omega, fun k a b hk => by omega⟩
theorem Dn_succ {l : List Z3} {ti : Int} {i : Nat} {a e : Z3} (ha : l[i]? = some a) (he : l[i + 1]? = some e) : Dn l ti (i + 2) ↔ Dn l ti (i + 1) ∧ e.1 - a.1 ≤ ti := by
  constructor
  · exact fun h => ⟨fun k x y hk => h k x y (by omega), h i a e (by omega) ha he⟩
  · rintro ⟨h1, h2⟩ k x y hk hx hy
    by_cases hc : k = i
    · subst hc; rw [ha] at hx; rw [he] at hy; cases hx; cases hy; exact h2
    · exact h1 k x y (by omega) hx hy
section
variable {ra cl ho ti : Int} {l P : List Z3} {t : Int}
theorem l9_32z (hP : P.length < 1000) (hl : l.length < 900) (d q : Bool) (e : Z3) (s : St5) (he : l[0]? = some e)
    (hsa : FsAt [.agg [.int .i64 ra, .int .i64 cl, .int .i64 ho, .int .i64 ti], .list l.length (encT l), .int .i64 e.1] = some (flat6 s 0)) (hs : stB P e.1 = s.1) (hh : s.2.2.2.1 = e.1) (hlo : ra ≤ e.2.1 → s.1 = true) :
    Llaw9_1000032 (Tlaw9_1000032a l.length (encT l) t P.length (encT P) d q 0 ra cl ho ti) =
    some (.inr (l.length, encT l, t, P.length, encT P, d, q || decide (e.2.2 < cl), 0, ra, cl, ho, ti)) := by
  have hi : 0 < l.length := by
    cases l with
    | nil => simp at he
    | cons _ _ => simp
  refine Llaw9_1000032b_of (Rlaw9_1000032a_of _ _ _ _ _ _ _ _ _ _ _ _ ?_)
  unfold Blaw9_1000032a
  have c1 : (0 : Int) ≤ 0 ∧ (0 : Int) < l.length := by omega
  have p27 := l9_27 l P t ra cl ho ti d q 0 e s hi he hP hs hh hlo
  have g0 : (encT l)[0 * 3 + 0]? = some (.int .i64 e.1) := by rw [encT_0', he]; rfl
  have g2 : (encT l)[0 * 3 + 1 + 1]? = some (.int .i64 e.2.2) := by rw [encT_2, he]; rfl
  simp only [rCopE_is l (by omega), bindO_val, bif_dec, c1, and_self, if_true, show Int.toNat 0 = 0 from rfl, g0, intC_int, hsa]
  have p27' : Llaw9_1000027 (Tlaw9_1000027a l.length (encT l) t P.length (encT P) d q 0 0 ra cl ho ti s.1 s.2.1 s.2.2.1 s.2.2.2.1 s.2.2.2.2) = _ := p27
  rw [p27']
  simp only [bindO_val, Sum.elim_inr]
  have z0 : ((0 : Nat) : Int) = 0 := rfl
  simp only [z0, g2, intC_int, bindO_val, show Int.toNat 0 = 0 from rfl, bif_eq, if_true, bif_dec, c1, and_self]
  cases q with
  | true => rfl
  | false =>
    by_cases h : e.2.2 < cl <;> simp [h] <;> rfl
theorem l9_32s (hP : P.length < 1000) (hl : l.length < 900) (d q : Bool) (i : Nat) (hi0 : 0 < i) (a e : Z3) (s v : St5) (hp : l[i - 1]? = some a) (he : l[i]? = some e) (ha1 : 0 ≤ a.1) (hae : a.1 < e.1) (he2 : e.1 ≤ 1000000000000)
    (hsa : FsAt [.agg [.int .i64 ra, .int .i64 cl, .int .i64 ho, .int .i64 ti], .list l.length (encT l), .int .i64 e.1] = some (flat6 s 0)) (hs : stB P e.1 = s.1) (hh : s.2.2.2.1 = e.1) (hlo : ra ≤ e.2.1 → s.1 = true)
    (hv : FsAt [.agg [.int .i64 ra, .int .i64 cl, .int .i64 ho, .int .i64 ti], .list l.length (encT l), .int .i64 (a.1 + t % (e.1 - a.1))] = some (flat6 v 0))
    (hx : Fnext [.agg [.int .i64 ra, .int .i64 cl, .int .i64 ho, .int .i64 ti], .agg [.bool v.1, .int .i64 v.2.1, .int .i64 v.2.2.1, .int .i64 v.2.2.2.1, .int .i64 v.2.2.2.2], .agg [.int .i64 e.1, .int .i64 e.2.1, .int .i64 e.2.2]] = some (flat6 s 0)) :
    Llaw9_1000032 (Tlaw9_1000032a l.length (encT l) t P.length (encT P) d q i ra cl ho ti) =
    some (.inr (l.length, encT l, t, P.length, encT P, d && decide (e.1 - a.1 ≤ ti), q || decide (e.2.2 < cl), i, ra, cl, ho, ti)) := by
  have hi : i < l.length := (List.getElem?_eq_some_iff.1 he).1
  refine Llaw9_1000032b_of (Rlaw9_1000032a_of _ _ _ _ _ _ _ _ _ _ _ _ ?_)
  unfold Blaw9_1000032a
  have c1 : (0 : Int) ≤ (i : Int) ∧ (i : Int) < l.length := by omega
  have w1 : w64 ((i : Int) - 1) = ((i - 1 : Nat) : Int) := by rw [w64_in (by omega)]; omega
  have c2 : (0 : Int) ≤ ((i - 1 : Nat) : Int) ∧ ((i - 1 : Nat) : Int) < l.length := by omega
  have p27 := l9_27 l P t ra cl ho ti d q i e s hi he hP hs hh hlo
  have w2 : w64 (e.1 - a.1) = e.1 - a.1 := w64_in (by omega)
  have hm := bMod_is t (e.1 - a.1) (by omega) (by omega)
  have hm1 := Int.emod_nonneg t (show e.1 - a.1 ≠ 0 by omega)
  have hm2 := Int.emod_lt_of_pos t (show 0 < e.1 - a.1 by omega)
  have w3 : w64 (a.1 + t % (e.1 - a.1)) = a.1 + t % (e.1 - a.1) := w64_in (by omega)
  have hne : ¬ ((i : Int) = 0) := by omega
  simp only [rCopE_is l (by omega), bindO_val, bif_dec, c1, and_self, if_true, Int.toNat_natCast, encT_0', he, Option.map_some, intC_int, hsa, p27, Sum.elim_inr, bif_eq, bif_ne, hne, if_false, w1, c2, encT_0, encT_1, encT_2, hp, w2, hm, w3, hv]
  generalize a.1 + t % (e.1 - a.1) = since at *
  obtain ⟨vb, v1, v2, v3, v4⟩ := v
  obtain ⟨sb, s1, s2, s3, s4⟩ := s
  simp only at hx
  cases vb <;> cases sb <;> cases q <;> cases d <;>
  · simp only [cond_true, cond_false, bindO_val, hx, Bool.true_or, Bool.false_or, Bool.true_and, Bool.false_and, if_true, beq_self_eq_true, Bool.and_self, Bool.not_true]
    first
    | rfl
    | (by_cases h1 : e.1 - a.1 ≤ ti <;> by_cases h2 : e.2.2 < cl <;> simp [h1, h2, hx] <;> rfl)
end
section
variable {r : R4} {l : List Z3} {t : Int}
theorem l9_2 (hr : ruleE r = 0) (hl : l.length ≤ 40) (ha : Asc l (-1)) (ht : 0 ≤ t ∧ t ≤ 1000000000000) (hP : (alL r l).length < 1000)
    (hsa : ∀ x : Int, 0 ≤ x ∧ x ≤ 1000000000000 → FsAt [encR4 r, .list l.length (encT l), .int .i64 x] = some (flat6 (atV r l x) 0)) : ∀ i, i ≤ l.length → ∀ d q : Bool, (d = true ↔ Dn l r.2.2.2 i) → (q = false ↔ Qn l r.2.1 i) →
    ∃ d' q' : Bool, (d' = true ↔ Dn l r.2.2.2 l.length) ∧ (q' = false ↔ Qn l r.2.1 l.length) ∧ Rlaw9_2 (Tlaw9_2a l.length (encT l) t (alL r l).length (encT (alL r l)) d q i r.1 r.2.1 r.2.2.1 r.2.2.2) =
      exO (XLlaw9_2.fn (.inl ((alL r l).length, encT (alL r l), d', q', r.1, r.2.1, r.2.2.1, r.2.2.2))) := by
  have hst : ∀ x : Int, 0 ≤ x ∧ x ≤ 1000000000000 → stB (alL r l) x = (atV r l x).1 := fun x hx => by
    have h1 := stB_iff (alL r l) x
    have h2 := st_at (t := x) hr (by omega) ha (by omega)
    cases hb : (atV r l x).1 with
    | true => exact h1.2 (h2.2 hb)
    | false =>
      cases hc : stB (alL r l) x with
      | false => rfl
      | true => rw [← hb]; exact (h2.1 (h1.1 hc)).symm
  have hR : encR4 r = .agg [.int .i64 r.1, .int .i64 r.2.1, .int .i64 r.2.2.1, .int .i64 r.2.2.2] := rfl
  refine up_ind _ ?_ ?_
  · intro d q hd hq
    refine ⟨d, q, hd, hq, Rlaw9_2a_of _ _ _ _ _ _ _ _ _ _ _ _ ?_⟩
    unfold Blaw9_2a
    rw [bif_neg (by omega)]
    rfl
  · intro i hi ih d q hd hq
    obtain ⟨e, he, _⟩ := get_drop hi
    obtain ⟨g1, g2, g3, g4⟩ := asc_get ha he
    have ge := eventE_ok g2
    have hev := at_event hr ha he
    obtain ⟨vu, nu⟩ := vd_u hr ha (by omega) i
    have hs := hst e.1 (by omega)
    have hsE := hsa e.1 (by omega)
    have hh := hearV_at r (sU r l i) e
    have hlo : r.1 ≤ e.2.1 → (hearV r (sU r l i) e).1 = true := fun hlo => by
      have hb : (sU r l i).2.2.2.1 < e.1 := by
        cases i with
        | zero => exact g1
        | succ j =>
          obtain ⟨a, hp, _⟩ := get_drop (l := l) (i := j) (by omega)
          rw [sU_succ r hp, hearV_at]
          exact g3 a (List.mem_of_getElem? (i := j) (by rw [List.getElem?_take, if_pos (by omega)]; exact hp))
      have hr' := ruleE_ok hr
      rcases stepA_cases [] hr g2 hb vu.2.2.1.1 (by unfold Nm at *; omega) with ⟨_, a3, _⟩ | ⟨_, a3, _, _, a6⟩ | ⟨_, a3, _⟩ | ⟨_, a3, _, _, a6⟩
      · exact a3
      · omega
      · exact a3
      · omega
    rw [hev] at hs hsE
    rw [hR] at hsE
    have fin : ∀ d' q' : Bool, Llaw9_1000032 (Tlaw9_1000032a l.length (encT l) t (alL r l).length (encT (alL r l)) d q i r.1 r.2.1 r.2.2.1 r.2.2.2) = some (.inr (l.length, encT l, t, (alL r l).length, encT (alL r l), d', q', i, r.1, r.2.1, r.2.2.1, r.2.2.2)) →
        (d' = true ↔ Dn l r.2.2.2 (i + 1)) → (q' = false ↔ Qn l r.2.1 (i + 1)) → ∃ d' q' : Bool, (d' = true ↔ Dn l r.2.2.2 l.length) ∧ (q' = false ↔ Qn l r.2.1 l.length) ∧ Rlaw9_2 (Tlaw9_2a l.length (encT l) t (alL r l).length (encT (alL r l)) d q i r.1 r.2.1 r.2.2.1 r.2.2.2) =
      exO (XLlaw9_2.fn (.inl ((alL r l).length, encT (alL r l), d', q', r.1, r.2.1, r.2.2.1, r.2.2.2))) := fun d' q' h32 hd' hq' => by
      obtain ⟨d2, q2, k1, k2, k3⟩ := ih d' q' hd' hq'
      refine ⟨d2, q2, k1, k2, Rlaw9_2a_of _ _ _ _ _ _ _ _ _ _ _ _ ?_⟩
      unfold Blaw9_2a
      rw [bif_pos (by omega), h32]
      simp only [bindO_val, Sum.elim_inr]
      rw [w64_in (by omega)]
      exact k3
    have hqs : ((q || decide (e.2.2 < r.2.1)) = false) ↔ Qn l r.2.1 (i + 1) := by
      rw [Qn_succ he, ← hq]
      simp only [Bool.or_eq_false_iff, decide_eq_false_iff_not, Int.not_lt]
    by_cases h0 : i = 0
    · subst h0
      exact fin d _ (l9_32z hP (by omega) d q e _ he hsE hs hh hlo) (by simp only [hd, (Dn_one l r.2.2.2).1, (Dn_one l r.2.2.2).2]) hqs
    · obtain ⟨j, rfl⟩ : ∃ j, i = j + 1 := ⟨i - 1, by omega⟩
      obtain ⟨a, hp, _⟩ := get_drop (l := l) (i := j) (by omega)
      obtain ⟨m1, m2, m3, m4⟩ := asc_get ha hp
      have me := eventE_ok m2
      have hae : a.1 < e.1 := g3 a (List.mem_of_getElem? (i := j) (by rw [List.getElem?_take, if_pos (by omega)]; exact hp))
      have hm1 := Int.emod_nonneg t (show e.1 - a.1 ≠ 0 by omega)
      have hm2 := Int.emod_lt_of_pos t (show 0 < e.1 - a.1 by omega)
      obtain ⟨u1, u2⟩ := at_since (r := r) (t := a.1 + t % (e.1 - a.1)) ha hp he (by omega) (by omega)
      have hv := hsa (a.1 + t % (e.1 - a.1)) (by omega)
      rw [u1, hR] at hv
      have hx := nx' r (passV r (sU r l (j + 1)) (a.1 + t % (e.1 - a.1))).1 (passV r (sU r l (j + 1)) (a.1 + t % (e.1 - a.1))).2.1 (passV r (sU r l (j + 1)) (a.1 + t % (e.1 - a.1))).2.2.1 (passV r (sU r l (j + 1)) (a.1 + t % (e.1 - a.1))).2.2.2.1 (passV r (sU r l (j + 1)) (a.1 + t % (e.1 - a.1))).2.2.2.2 e.1 e.2.1 e.2.2
      have hnb := next_between (r := r) (s := sU r l (j + 1)) (e := e) (t := a.1 + t % (e.1 - a.1)) hr vu nu g2 (by omega) (by omega)
      have hx2 := hx.trans (congrArg some hnb)
      exact fin _ _ (l9_32s hP (by omega) d q (j + 1) (by omega) a e _ _ hp he me.1 hae ge.2.1 hsE hs hh hlo hv hx2) (by rw [Dn_succ hp he, ← hd]; simp) hqs
end
theorem issuedLaw (r : R4) (l : List Z3) (t : Int) : Flaw9 [encR4 r, .list l.length (encT l), .int .i64 t] = some true := by
  refine Flaw9_of _ _ _ _ _ _ _ ?_
  unfold tlaw9
  simp only [awake_is, cond_true, bindO_val]
  have hR : encR4 r = .agg [.int .i64 r.1, .int .i64 r.2.1, .int .i64 r.2.2.1, .int .i64 r.2.2.2] := rfl
  have hru := rRuE_is r
  rw [hR] at hru
  by_cases hg : l.length ≤ 42 ∧ ruleE r = 0 ∧ evsE l = 0 ∧ (0 ≤ t ∧ t ≤ 1000000000000)
  · obtain ⟨h0, h1, h2, h3⟩ := hg
    obtain ⟨hl, ha⟩ := evsE_ok h2
    obtain ⟨iv, hlen⟩ := iv_all h1 l st0 [] (by simp; omega) ha (iv_0 r)
    have hlen : (alL r l).length ≤ l.length := by
      simp only [List.length_nil, Nat.zero_add] at hlen
      exact hlen
    have hsa : ∀ x : Int, 0 ≤ x ∧ x ≤ 1000000000000 → FsAt [encR4 r, .list l.length (encT l), .int .i64 x] = some (flat6 (atV r l x) 0) := fun x hx => by
      rw [sAt_is r l x (by omega), if_pos (by unfold sAtE; rw [h1, h2, rangeE_in hx]; rfl)]
    have p80 : Llaw9_1000080 (Tlaw9_1000080a l.length (encT l) t r.1 r.2.1 r.2.2.1 r.2.2.2) = some (.inr (l.length, encT l, t, r.1, r.2.1, r.2.2.1, r.2.2.2)) := by
      refine Llaw9_1000080b_of (Rlaw9_1000080a_of _ _ _ _ _ _ _ ?_)
      unfold Blaw9_1000080a
      simp only [fewE_is, bindO_val, decide_eq_true h0, cond_true, hru, h1, rEsE_is l (by omega), h2, bTick_is, decide_eq_true h3, bif_ne, if_true]
      rfl
    have hal := alOf_is r l (by omega)
    rw [if_pos (by rw [h1, h2]; rfl), hR] at hal
    have hsT := hsa t h3
    rw [hR] at hsT
    have hst : stB (alL r l) t = (atV r l t).1 := by
      have k1 := stB_iff (alL r l) t
      have k2 := st_at (t := t) h1 (by omega) ha (by omega)
      cases hb : (atV r l t).1 with
      | true => exact k1.2 (k2.2 hb)
      | false =>
        cases hc : stB (alL r l) t with
        | false => rfl
        | true => rw [← hb]; exact (k2.1 (k1.1 hc)).symm
    have p69 : Llaw9_1000069 (Tlaw9_1000069a l.length (encT l) t (alL r l).length (encT (alL r l)) 0 0 r.1 r.2.1 r.2.2.1 r.2.2.2 (atV r l t).1 (atV r l t).2.1 (atV r l t).2.2.1 (atV r l t).2.2.2.1 (atV r l t).2.2.2.2) = some (.inr (l.length, encT l, t, (alL r l).length, encT (alL r l), r.1, r.2.1, r.2.2.1, r.2.2.2)) := by
      refine Llaw9_1000069b_of (Rlaw9_1000069a_of _ _ _ _ _ _ _ _ _ _ _ _ _ _ _ _ ?_)
      unfold Blaw9_1000069a
      simp only [bif_ne, if_true, bif_dec, show ¬ ((alL r l).length : Int) > (l.length : Int) by omega, if_false, lStd_is _ _ (show (alL r l).length < 1000 by omega), hst, bindO_val]
      cases (atV r l t).1 <;> rfl
    have p0 : Llaw9_0 (Tlaw9_0a l.length (encT l) t (alL r l).length (encT (alL r l)) ((0 : Nat) : Int) r.1 r.2.1 r.2.2.1 r.2.2.2) = _ := lpO_of Ilaw9_0 XIlaw9_0 (l9_0 l.length (encT l) t r.1 r.2.1 r.2.2.1 r.2.2.2 (alL r l) (by omega) iv.num (fun z hz => (iv.rng z hz).2.1) (fun i z w hz hw => by
      have hp := List.pairwise_iff_getElem.1 iv.asc
      obtain ⟨b1, b2⟩ := List.getElem?_eq_some_iff.1 hz
      obtain ⟨b3, b4⟩ := List.getElem?_eq_some_iff.1 hw
      have := hp i (i + 1) b1 b3 (by omega)
      rw [← b2, ← b4]
      exact this) 0 (by omega))
    obtain ⟨d, q, k1, k2, k3⟩ := l9_2 h1 hl ha h3 (by omega) hsa 0 (by omega) true false (by simp only [(Dn_one l r.2.2.2).1]) (by constructor
                                                                                                                                   · intro _ k a hk; omega
                                                                                                                                   · intro _; rfl)
    have p2 : Llaw9_2 (Tlaw9_2a l.length (encT l) t (alL r l).length (encT (alL r l)) true false ((0 : Nat) : Int) r.1 r.2.1 r.2.2.1 r.2.2.2) = _ := lpO_of Ilaw9_2 XIlaw9_2 k3
    have z0 : ((0 : Nat) : Int) = 0 := rfl
    rw [z0] at p0 p2
    simp only [p80, bindO_val, Sum.elim_inr, rCopE_is l (by omega), hal, hsT, p69, p0, Sum.elim_inl, p2]
    cases d with
    | false => rfl
    | true =>
      cases q with
      | true => rfl
      | false =>
        have hD := k1.1 rfl
        have hQ := k2.1 rfl
        have h1l := one_all (r := r) (l := l) h1 (by omega) ha (fun k a b h1 h2 => hD k a b (List.getElem?_eq_some_iff.1 h2).1 h1 h2) (fun e he => by
          obtain ⟨k, hk, he⟩ := List.mem_iff_getElem.1 he
          exact hQ k e hk (by rw [← he]; exact List.getElem?_eq_getElem hk))
        simp only [cond_true, cond_false]
        rw [bif_pos (by omega)]
  · have p80 : Llaw9_1000080 (Tlaw9_1000080a l.length (encT l) t r.1 r.2.1 r.2.2.1 r.2.2.2) = some (.inl ()) := by
      refine Llaw9_1000080a_of (Rlaw9_1000080a_of _ _ _ _ _ _ _ ?_)
      unfold Blaw9_1000080a
      by_cases h0 : l.length ≤ 42
      · simp only [fewE_is, bindO_val, decide_eq_true h0, cond_true, hru, rEsE_is l (by omega), bTick_is, bif_ne, bif_dec]
        by_cases h1 : ruleE r = 0
        · by_cases h2 : evsE l = 0
          · have h3 : ¬ (0 ≤ t ∧ t ≤ 1000000000000) := fun h3 => hg ⟨h0, h1, h2, h3⟩
            rw [if_pos h1, if_pos h2, if_neg h3]
            rfl
          · rw [if_pos h1, if_neg h2]
            rfl
        · rw [if_neg h1]
          rfl
      · simp only [fewE_is, bindO_val, decide_eq_false h0, cond_false]
        rfl
    rw [p80]
    rfl
end Gv
