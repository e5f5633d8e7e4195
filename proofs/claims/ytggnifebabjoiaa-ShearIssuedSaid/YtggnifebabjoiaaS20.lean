import Derived.Test.YtggnifebabjoiaaS7
import Derived.Test.YtggnifebabjoiaaP5c
import Derived.Test.YtggnifebabjoiaaL7

/- All alerts: the specification's, and that both are the same. -/
namespace Gv
open Go
set_option maxRecDepth 100000
abbrev TC (r : R4) (l : List Z3) (i h : Int) : Q := TalOf_0c l.length (encT l) l.length i r.1 r.2.1 r.2.2.1 r.2.2.2 h
def TP (r : R4) (l : List Z3) (i : Int) (s : St5) (P : List Z3) : Q := if P = [] then TC r l i s.2.2.2.1 else TB r l i s P
def endP (r : R4) (p : St5 × List Z3) : YalOf_0 := if p.2 = [] then .inl (r.1, r.2.1, r.2.2.1, r.2.2.2, p.1.2.2.2.1) else .inr (p.2.length, r.1, r.2.1, r.2.2.1, r.2.2.2, p.1.1, p.1.2.1, p.1.2.2.1, p.1.2.2.2.1, p.1.2.2.2.2, p.2.length, encT p.2)
def Emp (s : St5) (P : List Z3) : Prop := P = [] → s = (false, 0, 0, s.2.2.2.1, -1)
theorem stepA_emp (r : R4) (h : Int) (e : Z3) : stepA r ((false, 0, 0, h, -1), []) e = if r.1 ≤ e.2.1 then ((true, 1, e.1, e.1, -1), [(1, e.1, w64 (e.1 + r.2.2.2))]) else ((false, 0, 0, e.1, -1), []) := by
  have w1 : w64 1 = 1 := w64_in (by omega)
  by_cases h5 : r.1 ≤ e.2.1 <;> simp [stepA, hearV, hear3, hear2, passV, h5, w1]
theorem stepA_len (r : R4) (s : St5) (P : List Z3) (e : Z3) : (stepA r (s, P) e).2.length ≤ P.length + 1 ∧ (P ≠ [] → (stepA r (s, P) e).2 ≠ []) := by
  have sl : ∀ (P : List Z3) x, (setTo P x).length = P.length := fun P x => by
    cases P with
    | nil => rfl
    | cons a P =>
      obtain ⟨pre, z, hz⟩ := snoc_of (l := a :: P) (by simp)
      rw [hz, setTo_snoc]
      simp
  unfold stepA
  dsimp only
  constructor
  · split
    · split <;> rw [sl] <;> omega
    · split
      · simp
      · omega
  · intro h
    split
    · split <;> exact setTo_ne h
    · split
      · simp
      · exact h
theorem al_loop (r : R4) (l : List Z3) (hl : l.length ≤ 100) : ∀ i, i ≤ l.length → ∀ (s : St5) (P : List Z3), P.length ≤ i → Emp s P →
    RalOf_0 (TP r l i s P) = exO (XLalOf_0.fn (endP r ((l.drop i).foldl (stepA r) (s, P)))) := by
  refine up_ind _ ?_ ?_
  · intro s P _ hE
    rw [List.drop_length]
    by_cases hP : P = []
    · rw [TP, if_pos hP, List.foldl_nil, endP, if_pos hP]
      refine RalOf_0c_of _ _ _ _ _ _ _ _ _ ?_
      unfold BalOf_0c
      rw [bif_neg (by omega)]
      rfl
    · rw [TP, if_neg hP, List.foldl_nil, endP, if_neg hP]
      refine RalOf_0b_of _ _ _ _ _ _ _ _ _ _ _ _ _ _ _ _ ?_
      unfold BalOf_0b
      rw [bif_neg (by omega)]
      rfl
  · intro i hi ih s P hn hE
    obtain ⟨e, he, hd⟩ := get_drop hi
    rw [hd, List.foldl_cons]
    by_cases hP : P = []
    · have hs := hE hP
      subst hP
      rw [TP, if_pos rfl]
      have es := stepA_emp r s.2.2.2.1 e
      rw [← hs] at es
      refine RalOf_0c_of _ _ _ _ _ _ _ _ _ ?_
      unfold BalOf_0c
      rw [bif_pos (by omega), bif_pos (by omega)]
      simp only [Int.toNat_natCast, encT_0, encT_1, encT_2, he, Option.map_some, intC_int, bindO_val]
      rw [w64_in (by omega)]
      by_cases h5 : r.1 ≤ e.2.1
      · rw [if_pos h5] at es
        rw [bif_pos h5, es]
        have := ih (true, 1, e.1, e.1, -1) [(1, e.1, w64 (e.1 + r.2.2.2))] (by simp) (fun h => by simp at h)
        rw [TP, if_neg (by simp)] at this
        exact this
      · rw [if_neg h5] at es
        rw [bif_neg h5, es]
        have := ih (false, 0, 0, e.1, -1) [] (by simp) (fun _ => rfl)
        rw [TP, if_pos rfl] at this
        exact this
    · obtain ⟨pre, z, rfl⟩ := snoc_of hP
      rw [TP, if_neg hP]
      have hk : pre.length < 1000 := by simp at hn; omega
      have hlen := stepA_len r s (pre ++ [z]) e
      have := ih (stepA r (s, pre ++ [z]) e).1 (stepA r (s, pre ++ [z]) e).2 (by omega) (fun h => absurd h (hlen.2 hP))
      rw [TP, if_neg (hlen.2 hP)] at this
      refine RalOf_0b_of _ _ _ _ _ _ _ _ _ _ _ _ _ _ _ _ ?_
      rw [alb_step _ _ _ _ r l s pre z e i hi he hk, w64_in (by omega)]
      exact this
def alL (r : R4) (l : List Z3) : List Z3 := (l.foldl (stepA r) (st0, [])).2
theorem al_start (r u : R4) (l : List Z3) (hl : l.length ≤ 100) : RalOf_0 (TalOf_0a l.length (encT l) l.length u.1 u.2.1 u.2.2.1 u.2.2.2 r.1 r.2.1 r.2.2.1 r.2.2.2) = exO (XLalOf_0.fn (endP r (l.foldl (stepA r) (st0, [])))) := by
  refine RalOf_0a_of _ _ _ _ _ _ _ _ _ _ _ ?_
  unfold BalOf_0a
  cases l with
  | nil => rfl
  | cons e l =>
    have h0 : (encT (e :: l))[0]? = some (PV.int .i64 e.1) := encT_0 (e :: l) 0
    have h1 : (encT (e :: l))[1]? = some (PV.int .i64 e.2.1) := encT_1 (e :: l) 0
    have h2 : (encT (e :: l))[2]? = some (PV.int .i64 e.2.2) := encT_2 (e :: l) 0
    rw [bif_pos (by simp only [List.length_cons]; omega), bif_pos (by simp only [List.length_cons]; omega)]
    simp only [h0, h1, h2, intC_int, bindO_val]
    rw [List.foldl_cons]
    have es : stepA r (st0, []) e = _ := stepA_emp r (-1) e
    by_cases h5 : r.1 ≤ e.2.1
    · rw [if_pos h5] at es
      rw [bif_pos h5, es]
      have := al_loop r (e :: l) hl 1 (by simp) (true, 1, e.1, e.1, -1) [(1, e.1, w64 (e.1 + r.2.2.2))] (by simp) (fun h => by simp at h)
      rw [TP, if_neg (by simp)] at this
      exact this
    · rw [if_neg h5] at es
      rw [bif_neg h5, es]
      have := al_loop r (e :: l) hl 1 (by simp) (false, 0, 0, e.1, -1) [] (by simp) (fun _ => rfl)
      rw [TP, if_pos rfl] at this
      exact this
theorem alOf_is (r : R4) (l : List Z3) (hl : l.length ≤ 100) : FalOf [encR4 r, .list l.length (encT l)] = some (if both (ruleE r) (evsE l) = 0 then (((alL r l).length, encT (alL r l)), 0) else ((0, []), both (ruleE r) (evsE l))) := by
  refine FalOf_of _ _ _ _ _ _ ?_
  have hr := cRule_is r
  have hst : LalOf_0 _ = _ := lpO_of IalOf_0 XIalOf_0 (al_start r r l hl)
  obtain ⟨ra, cl, ho, ti⟩ := r
  simp only [encR4] at hr
  unfold talOf
  simp only [hr, evsE_is l (by omega), fE2_is, bindO_val, bif_ne]
  by_cases he : both (ruleE (ra, cl, ho, ti)) (evsE l) = 0
  · rw [if_pos he, if_pos he]
    have hst' : LalOf_0 (TalOf_0a l.length (encT l) l.length ra cl ho ti ra cl ho ti) = _ := hst
    rw [hst']
    unfold alL endP
    by_cases hP : (l.foldl (stepA (ra, cl, ho, ti)) (st0, [])).2 = []
    · rw [if_pos hP, hP]
      rfl
    · rw [if_neg hP]
      simp
  · rw [if_neg he, if_neg he]
theorem setTo_len (P : List Z3) (x : Int) : (setTo P x).length = P.length := by
  cases P with
  | nil => rfl
  | cons a P =>
    obtain ⟨pre, z, hz⟩ := snoc_of (l := a :: P) (by simp)
    rw [hz, setTo_snoc]
    simp
def fin (r : R4) (p : St5 × List Z3) : List Z3 := if p.1.1 = true then setTo p.2 (w64 (p.1.2.2.2.1 + r.2.2.2)) else p.2
end Gv

/- Events that are all later: alerts are later by as much. -/
namespace Gv
open Go
set_option maxRecDepth 100000
theorem fold_le (r : R4) (t : Int) : ∀ (l : List Z3) (s : St5), (∀ e ∈ l, e.1 ≤ t) → l.foldl (stepV r t) s = l.foldl (hearV r) s
  | [], _, _ => rfl
  | e :: l, s, h => by
    rw [List.foldl_cons, List.foldl_cons, show stepV r t s e = hearV r s e from if_pos (h e (by simp))]
    exact fold_le r t l _ fun x hx => h x (by simp [hx])
def sh (d : Int) (e : Z3) : Z3 := (e.1 + d, e.2)
def sh2 (d : Int) (z : Z3) : Z3 := (z.1, z.2.1 + d, z.2.2 + d)
end Gv

/- What the alerts of events are: their numbers, their ranges, and when they stand. -/
namespace Gv
open Go
set_option maxRecDepth 100000
theorem stepA_cases {r : R4} {s : St5} {e : Z3} (P : List Z3) (hr : ruleE r = 0) (he : eventE e = 0) (hh : s.2.2.2.1 < e.1) (hb : -1 ≤ s.2.2.2.1) (hn : Nm 1000 s) :
    ((s.1 = true ∧ e.1 - s.2.2.2.1 ≤ r.2.2.2) ∧ (hearV r s e).1 = true ∧ (hearV r s e).2.1 = s.2.1 ∧ (stepA r (s, P) e).2 = setTo P (e.1 + r.2.2.2)) ∨
    ((s.1 = true ∧ e.1 - s.2.2.2.1 ≤ r.2.2.2) ∧ (hearV r s e).1 = false ∧ (hearV r s e).2.1 = s.2.1 ∧ (stepA r (s, P) e).2 = setTo P (e.1 - 1) ∧ e.2.2 < r.2.1) ∨
    ((s.1 = true → r.2.2.2 < e.1 - s.2.2.2.1) ∧ (hearV r s e).1 = true ∧ (hearV r s e).2.1 = s.2.1 + 1 ∧ (stepA r (s, P) e).2 = P ++ [(s.2.1 + 1, e.1, e.1 + r.2.2.2)]) ∨
    ((s.1 = true → r.2.2.2 < e.1 - s.2.2.2.1) ∧ (hearV r s e).1 = false ∧ (hearV r s e).2.1 = s.2.1 ∧ (stepA r (s, P) e).2 = P ∧ e.2.1 < r.1) := by
  have hr := ruleE_ok hr
  have he := eventE_ok he
  obtain ⟨b, n, si, h, q⟩ := s
  obtain ⟨ra, cl, ho, ti⟩ := r
  obtain ⟨at_, lo, hi⟩ := e
  unfold Nm at hn
  simp only at hr he hh hb hn
  have w1 : w64 (at_ - h) = at_ - h := w64_in (by omega)
  have w2 : w64 (n + 1) = n + 1 := w64_in (by omega)
  have w3 : w64 (at_ + ti) = at_ + ti := w64_in (by omega)
  have w4 : w64 (at_ - 1) = at_ - 1 := w64_in (by omega)
  cases b with
  | true =>
    by_cases h0 : ti < at_ - h
    · refine .inr (.inr ?_)
      by_cases h5 : ra ≤ lo
      · refine .inl ⟨fun _ => h0, ?_, ?_, ?_⟩ <;> simp [stepA, hearV, hear3, hear2, passV, w1, w2, w3, h0, h5]
      · refine .inr ⟨fun _ => h0, ?_, ?_, ?_, by show lo < ra; omega⟩ <;> simp [stepA, hearV, hear3, hear2, passV, w1, h0, h5]
    · have h0' : at_ - h ≤ ti := by omega
      by_cases h1 : cl ≤ hi
      · refine .inl ⟨⟨rfl, h0'⟩, ?_, ?_, ?_⟩ <;> simp [stepA, hearV, hear3, hear2, listenV, passV, w1, w3, h0, h1]
      · have h5 : ¬ ra ≤ lo := by omega
        by_cases h2 : q = -1
        · by_cases h3 : ho ≤ w64 (at_ - at_)
          · refine .inr (.inl ⟨⟨rfl, h0'⟩, ?_, ?_, ?_, by show hi < cl; omega⟩) <;> simp [-Int.sub_self, stepA, hearV, hear3, hear2, listenV, passV, w1, w4, h0, h1, h2, h3, h5]
          · refine .inl ⟨⟨rfl, h0'⟩, ?_, ?_, ?_⟩ <;> simp [-Int.sub_self, stepA, hearV, hear3, hear2, listenV, passV, w1, w3, h0, h1, h2, h3]
        · by_cases h3 : ho ≤ w64 (at_ - q)
          · refine .inr (.inl ⟨⟨rfl, h0'⟩, ?_, ?_, ?_, by show hi < cl; omega⟩) <;> simp [stepA, hearV, hear3, hear2, listenV, passV, w1, w4, h0, h1, h2, h3, h5]
          · refine .inl ⟨⟨rfl, h0'⟩, ?_, ?_, ?_⟩ <;> simp [stepA, hearV, hear3, hear2, listenV, passV, w1, w3, h0, h1, h2, h3]
  | false =>
    refine .inr (.inr ?_)
    by_cases h5 : ra ≤ lo
    · refine .inl ⟨by simp, ?_, ?_, ?_⟩ <;> simp [stepA, hearV, hear3, hear2, passV, w2, w3, h5]
    · refine .inr ⟨by simp, ?_, ?_, ?_, by show lo < ra; omega⟩ <;> simp [stepA, hearV, hear3, hear2, passV, h5]
structure Iv (r : R4) (s : St5) (P : List Z3) : Prop where
  num : ∀ (i : Nat) z, P[i]? = some z → z.1 = (i : Int) + 1
  rng : ∀ z ∈ P, 0 ≤ z.2.1 ∧ z.2.1 ≤ z.2.2 ∧ z.2.2 ≤ 2000000000000
  asc : P.Pairwise fun z w => z.2.2 < w.2.1
  cnt : s.2.1 = P.length
  hrd : -1 ≤ s.2.2.2.1 ∧ s.2.2.2.1 ≤ 1000000000000
  std : s.1 = true → ∃ pre z, P = pre ++ [z] ∧ z.2.1 ≤ s.2.2.2.1 ∧ z.2.2 = s.2.2.2.1 + r.2.2.2
  sil : s.1 = false → ∀ z ∈ P, z.2.2 < s.2.2.2.1
theorem iv_0 (r : R4) : Iv r st0 [] := ⟨by simp, by simp, .nil, rfl, by decide, by simp [st0], by simp⟩
theorem iv_before {r : R4} {s : St5} {P : List Z3} (h : Iv r s P) {t : Int} (hr : ruleE r = 0) (h1 : s.2.2.2.1 < t) (h2 : s.1 = true → r.2.2.2 < t - s.2.2.2.1) : ∀ z ∈ P, z.2.2 < t := by
  intro z hz
  cases hb : s.1 with
  | false => have := h.sil hb z hz; omega
  | true =>
    obtain ⟨pre, w, rfl, k1, k2⟩ := h.std hb
    have h2 := h2 hb
    rcases List.mem_append.1 hz with hz | hz
    · have := (List.pairwise_append.1 h.asc).2.2 z hz w (by simp)
      omega
    · have : z = w := by simpa using hz
      subst this
      omega
theorem iv_set {r : R4} {s s' : St5} {pre : List Z3} {z : Z3} {x : Int} (h : Iv r s (pre ++ [z])) (h1 : z.2.1 ≤ x) (h2 : x ≤ 2000000000000) (hc : s'.2.1 = s.2.1) (hh : -1 ≤ s'.2.2.2.1 ∧ s'.2.2.2.1 ≤ 1000000000000)
    (hs : s'.1 = true → z.2.1 ≤ s'.2.2.2.1 ∧ x = s'.2.2.2.1 + r.2.2.2) (hq : s'.1 = false → x < s'.2.2.2.1) : Iv r s' (pre ++ [(z.1, z.2.1, x)]) := by
  have hp := List.pairwise_append.1 h.asc
  refine ⟨?_, ?_, ?_, ?_, hh, fun hb => ⟨pre, _, rfl, hs hb⟩, ?_⟩
  · intro i w hw
    by_cases hi : i < pre.length
    · rw [List.getElem?_append_left hi] at hw
      exact h.num i w (by rw [List.getElem?_append_left hi]; exact hw)
    · rw [List.getElem?_append_right (by omega)] at hw
      have e : i - pre.length = 0 := by
        cases hj : i - pre.length with
        | zero => rfl
        | succ j => rw [hj] at hw; simp at hw
      rw [e] at hw
      simp at hw
      subst hw
      exact h.num i z (by rw [List.getElem?_append_right (by omega), e]; rfl)
  · intro w hw
    rcases List.mem_append.1 hw with hw | hw
    · exact h.rng w (by simp [hw])
    · have : w = (z.1, z.2.1, x) := by simpa using hw
      subst this
      have := h.rng z (by simp)
      exact ⟨this.1, h1, h2⟩
  · refine List.pairwise_append.2 ⟨hp.1, List.pairwise_singleton _ _, fun a ha b hb => ?_⟩
    have : b = (z.1, z.2.1, x) := by simpa using hb
    subst this
    exact hp.2.2 a ha z (by simp)
  · rw [hc, h.cnt]; simp
  · intro hb w hw
    have := hq hb
    rcases List.mem_append.1 hw with hw | hw
    · have := hp.2.2 w hw z (by simp)
      omega
    · have : w = (z.1, z.2.1, x) := by simpa using hw
      subst this
      exact hq hb
theorem iv_step {r : R4} {s : St5} {P : List Z3} {e : Z3} (h : Iv r s P) (hl : P.length ≤ 900) (hr : ruleE r = 0) (he : eventE e = 0) (hh : s.2.2.2.1 < e.1) : Iv r (stepA r (s, P) e).1 (stepA r (s, P) e).2 := by
  have hn : Nm 1000 s := by unfold Nm; rw [h.cnt]; omega
  have hr' := ruleE_ok hr
  have he' := eventE_ok he
  have hat := hearV_at r s e
  have e1 : (stepA r (s, P) e).1 = hearV r s e := rfl
  rw [e1]
  have hhd : -1 ≤ (hearV r s e).2.2.2.1 ∧ (hearV r s e).2.2.2.1 ≤ 1000000000000 := by rw [hat]; omega
  rcases stepA_cases P hr he hh h.hrd.1 hn with ⟨⟨a1, a2⟩, a3, a4, a5⟩ | ⟨⟨a1, a2⟩, a3, a4, a5, a6⟩ | ⟨a1, a3, a4, a5⟩ | ⟨a1, a3, a4, a5, a6⟩
  · obtain ⟨pre, z, rfl, k1, k2⟩ := h.std a1
    rw [a5, setTo_snoc]
    exact iv_set h (by omega) (by omega) a4 hhd (fun _ => by rw [hat]; omega) (by rw [a3]; simp)
  · obtain ⟨pre, z, rfl, k1, k2⟩ := h.std a1
    rw [a5, setTo_snoc]
    exact iv_set h (by omega) (by omega) a4 hhd (by rw [a3]; simp) (fun _ => by rw [hat]; omega)
  · have hb := iv_before h hr hh a1
    rw [a5]
    refine ⟨?_, ?_, ?_, by rw [a4, h.cnt]; simp, hhd, fun _ => ⟨P, _, rfl, by rw [hat]; exact ⟨Int.le_refl _, rfl⟩⟩, by rw [a3]; simp⟩
    · intro i z hz
      by_cases hi : i < P.length
      · rw [List.getElem?_append_left hi] at hz
        exact h.num i z hz
      · rw [List.getElem?_append_right (by omega)] at hz
        have e : i - P.length = 0 := by
          cases hj : i - P.length with
          | zero => rfl
          | succ j => rw [hj] at hz; simp at hz
        rw [e] at hz
        simp at hz
        subst hz
        rw [h.cnt]
        simp only
        omega
    · intro z hz
      rcases List.mem_append.1 hz with hz | hz
      · exact h.rng z hz
      · rw [List.mem_singleton] at hz
        subst hz
        simp only
        omega
    · refine List.pairwise_append.2 ⟨h.asc, List.pairwise_singleton _ _, fun a ha b hb' => ?_⟩
      rw [List.mem_singleton] at hb'
      subst hb'
      exact hb a ha
  · have hb := iv_before h hr hh a1
    rw [a5]
    exact ⟨h.num, h.rng, h.asc, by rw [a4, h.cnt], hhd, by rw [a3]; simp, fun _ => by rw [hat]; exact hb⟩
theorem iv_all {r : R4} (hr : ruleE r = 0) : ∀ (l : List Z3) (s : St5) (P : List Z3), P.length + l.length ≤ 900 → Asc l s.2.2.2.1 → Iv r s P → Iv r (l.foldl (stepA r) (s, P)).1 (l.foldl (stepA r) (s, P)).2 ∧ (l.foldl (stepA r) (s, P)).2.length ≤ P.length + l.length
  | [], _, _, _, _, h => ⟨h, Nat.le_refl _⟩
  | e :: l, s, P, hl, ha, h => by
    obtain ⟨h1, h2, h3⟩ := ha
    simp only [List.length_cons] at hl
    have hk := (stepA_len r s P e).1
    have := iv_all hr l (stepA r (s, P) e).1 (stepA r (s, P) e).2 (by omega) (by rw [show (stepA r (s, P) e).1 = hearV r s e from rfl, hearV_at]; exact h3) (iv_step h (by omega) hr h2 h1)
    rw [List.foldl_cons]
    refine ⟨this.1, ?_⟩
    have := this.2
    simp only [List.length_cons]
    exact Nat.le_trans this (by omega)
def St (P : List Z3) (t : Int) : Prop := ∃ z ∈ P, z.2.1 ≤ t ∧ t ≤ z.2.2
theorem st_snoc (P : List Z3) (z : Z3) (t : Int) : St (P ++ [z]) t ↔ St P t ∨ (z.2.1 ≤ t ∧ t ≤ z.2.2) := by
  unfold St
  constructor
  · rintro ⟨w, hw, h⟩
    rcases List.mem_append.1 hw with hw | hw
    · exact .inl ⟨w, hw, h⟩
    · have : w = z := by simpa using hw
      subst this
      exact .inr h
  · rintro (⟨w, hw, h⟩ | h)
    · exact ⟨w, by simp [hw], h⟩
    · exact ⟨z, by simp, h⟩
theorem st_now {r : R4} {s : St5} {P : List Z3} (h : Iv r s P) {t : Int} (ht : s.2.2.2.1 ≤ t) : St P t ↔ s.1 = true ∧ t - s.2.2.2.1 ≤ r.2.2.2 := by
  cases hb : s.1 with
  | false =>
    constructor
    · rintro ⟨z, hz, h1, h2⟩
      have := h.sil hb z hz
      omega
    · rintro ⟨h1, _⟩
      cases h1
  | true =>
    obtain ⟨pre, w, rfl, k1, k2⟩ := h.std hb
    rw [st_snoc]
    constructor
    · rintro (⟨z, hz, h1, h2⟩ | h1)
      · have := (List.pairwise_append.1 h.asc).2.2 z hz w (by simp)
        omega
      · exact ⟨rfl, by omega⟩
    · rintro ⟨_, h1⟩
      exact .inr ⟨by omega, by omega⟩
theorem st_later {r : R4} {s : St5} {P : List Z3} {e : Z3} (h : Iv r s P) (hl : P.length ≤ 900) (hr : ruleE r = 0) (he : eventE e = 0) (hh : s.2.2.2.1 < e.1) {t : Int} (ht : t < e.1) : St (stepA r (s, P) e).2 t ↔ St P t := by
  have hn : Nm 1000 s := by unfold Nm; rw [h.cnt]; omega
  have hr' := ruleE_ok hr
  rcases stepA_cases P hr he hh h.hrd.1 hn with ⟨⟨a1, a2⟩, a3, a4, a5⟩ | ⟨⟨a1, a2⟩, a3, a4, a5, a6⟩ | ⟨a1, a3, a4, a5⟩ | ⟨a1, a3, a4, a5, a6⟩
  · obtain ⟨pre, z, rfl, k1, k2⟩ := h.std a1
    rw [a5, setTo_snoc, st_snoc, st_snoc]
    have : (z.2.1 ≤ t ∧ t ≤ e.1 + r.2.2.2) ↔ (z.2.1 ≤ t ∧ t ≤ z.2.2) := by omega
    rw [this]
  · obtain ⟨pre, z, rfl, k1, k2⟩ := h.std a1
    rw [a5, setTo_snoc, st_snoc, st_snoc]
    have : (z.2.1 ≤ t ∧ t ≤ e.1 - 1) ↔ (z.2.1 ≤ t ∧ t ≤ z.2.2) := by omega
    rw [this]
  · rw [a5, st_snoc]
    constructor
    · rintro (h | h)
      · exact h
      · have : e.1 ≤ t := h.1
        omega
    · exact .inl
  · rw [a5]
theorem st_rest {r : R4} (hr : ruleE r = 0) {t : Int} : ∀ (l : List Z3) (s : St5) (P : List Z3), P.length + l.length ≤ 900 → Asc l s.2.2.2.1 → Iv r s P → (∀ e ∈ l, t < e.1) → (St (l.foldl (stepA r) (s, P)).2 t ↔ St P t)
  | [], _, _, _, _, _, _ => Iff.rfl
  | e :: l, s, P, hl, ha, h, ht => by
    obtain ⟨h1, h2, h3⟩ := ha
    simp only [List.length_cons] at hl
    have hk := (stepA_len r s P e).1
    have := st_rest hr (t := t) l (stepA r (s, P) e).1 (stepA r (s, P) e).2 (by omega) (by rw [show (stepA r (s, P) e).1 = hearV r s e from rfl, hearV_at]; exact h3) (iv_step h (by omega) hr h2 h1) (fun x hx => ht x (by simp [hx]))
    rw [List.foldl_cons]
    exact this.trans (st_later h (by omega) hr h2 h1 (ht e (by simp)))
theorem asc_gt : ∀ {l : List Z3} {b : Int}, Asc l b → ∀ e ∈ l, b < e.1
  | [], _, _, _, he => by cases he
  | e :: l, b, h, x, hx => by
    obtain ⟨h1, h2, h3⟩ := h
    rcases List.mem_cons.1 hx with rfl | hx
    · exact h1
    · have := asc_gt h3 x hx
      omega
theorem passV_1 {r : R4} {s : St5} {t : Int} (h1 : -1 ≤ s.2.2.2.1 ∧ s.2.2.2.1 ≤ 1000000000000) (h2 : -1 ≤ t ∧ t ≤ 4611686018427387904) : (passV r s t).1 = true ↔ s.1 = true ∧ t - s.2.2.2.1 ≤ r.2.2.2 := by
  unfold passV
  rw [w64_in (by omega)]
  split
  · rename_i h
    constructor
    · intro h; cases h
    · rintro ⟨_, h3⟩; omega
  · rename_i h
    constructor
    · intro h3
      exact ⟨h3, by
        by_cases h4 : t - s.2.2.2.1 ≤ r.2.2.2
        · exact h4
        · exact absurd ⟨h3, by omega⟩ h⟩
    · exact fun h => h.1
theorem stepV_none (r : R4) (t : Int) : ∀ (l : List Z3) (s : St5), (∀ e ∈ l, t < e.1) → l.foldl (stepV r t) s = s
  | [], _, _ => rfl
  | e :: l, s, h => by
    have := h e (by simp)
    rw [List.foldl_cons, show stepV r t s e = s from if_neg (by omega)]
    exact stepV_none r t l s fun x hx => h x (by simp [hx])
theorem st_main {r : R4} (hr : ruleE r = 0) {t : Int} (htb : -1 ≤ t ∧ t ≤ 4611686018427387904) : ∀ (l : List Z3) (s : St5) (P : List Z3), P.length + l.length ≤ 900 → Asc l s.2.2.2.1 → Iv r s P → s.2.2.2.1 ≤ t →
    (St (l.foldl (stepA r) (s, P)).2 t ↔ (passV r (l.foldl (stepV r t) s) t).1 = true)
  | [], s, P, _, _, h, ht => (st_now h ht).trans (passV_1 h.hrd htb).symm
  | e :: l, s, P, hl, ha, h, ht => by
    obtain ⟨h1, h2, h3⟩ := ha
    have hl' := hl
    simp only [List.length_cons] at hl
    by_cases hc : e.1 ≤ t
    · have hk := (stepA_len r s P e).1
      have := st_main hr htb l (stepA r (s, P) e).1 (stepA r (s, P) e).2 (by omega) (by rw [show (stepA r (s, P) e).1 = hearV r s e from rfl, hearV_at]; exact h3) (iv_step h (by omega) hr h2 h1) (by rw [show (stepA r (s, P) e).1 = hearV r s e from rfl, hearV_at]; exact hc)
      rw [List.foldl_cons, List.foldl_cons, show stepV r t s e = hearV r s e from if_pos hc]
      exact this
    · have hg : ∀ x ∈ e :: l, t < x.1 := fun x hx => by
        rcases List.mem_cons.1 hx with rfl | hx
        · omega
        · have := asc_gt h3 x hx
          omega
      rw [stepV_none r t _ _ hg]
      exact (st_rest hr (e :: l) s P hl' ⟨h1, h2, h3⟩ h hg).trans ((st_now h ht).trans (passV_1 h.hrd htb).symm)
theorem st_at {r : R4} {l : List Z3} {t : Int} (hr : ruleE r = 0) (hl : l.length ≤ 900) (ha : Asc l (-1)) (ht : 0 ≤ t ∧ t ≤ 4611686018427387904) : St (alL r l) t ↔ (atV r l t).1 = true :=
  st_main hr ⟨by omega, ht.2⟩ l st0 [] (by simpa using hl) ha (iv_0 r) (by show (-1 : Int) ≤ t; omega)
def Gap (ti : Int) : List Z3 → Int → Prop
  | [], _ => True
  | e :: l, b => e.1 - b ≤ ti ∧ Gap ti l e.1
theorem one_tail {r : R4} (hr : ruleE r = 0) : ∀ (l : List Z3) (s : St5) (P : List Z3), P.length + l.length ≤ 900 → Asc l s.2.2.2.1 → Iv r s P → Gap r.2.2.2 l s.2.2.2.1 → (∀ e ∈ l, r.2.1 ≤ e.2.2) → (s.1 = false ∧ P = [] ∨ s.1 = true ∧ P.length = 1) →
    (l.foldl (stepA r) (s, P)).2.length ≤ 1
  | [], _, _, _, _, _, _, _, h => by
    rcases h with ⟨_, rfl⟩ | ⟨_, h⟩
    · simp
    · exact Nat.le_of_eq h
  | e :: l, s, P, hl, ha, h, hg, hq, hs => by
    obtain ⟨h1, h2, h3⟩ := ha
    obtain ⟨g1, g2⟩ := hg
    simp only [List.length_cons] at hl
    have hk := (stepA_len r s P e).1
    have hn : Nm 1000 s := by unfold Nm; rw [h.cnt]; omega
    have hq1 := hq e (by simp)
    have hset : ∀ x, (setTo P x).length = P.length := setTo_len P
    have e1 : (stepA r (s, P) e).1 = hearV r s e := rfl
    rw [List.foldl_cons]
    refine one_tail hr l (stepA r (s, P) e).1 (stepA r (s, P) e).2 (by omega) (by rw [e1, hearV_at]; exact h3) (iv_step h (by omega) hr h2 h1) (by rw [e1, hearV_at]; exact g2) (fun x hx => hq x (by simp [hx])) ?_
    rw [e1]
    rcases stepA_cases P hr h2 h1 h.hrd.1 hn with ⟨⟨a1, a2⟩, a3, a4, a5⟩ | ⟨⟨a1, a2⟩, a3, a4, a5, a6⟩ | ⟨a1, a3, a4, a5⟩ | ⟨a1, a3, a4, a5, a6⟩
    · rcases hs with ⟨b1, _⟩ | ⟨_, b2⟩
      · rw [a1] at b1; cases b1
      · exact .inr ⟨a3, by rw [a5, hset, b2]⟩
    · omega
    · rcases hs with ⟨_, rfl⟩ | ⟨b1, _⟩
      · exact .inr ⟨a3, by rw [a5]; rfl⟩
      · have := a1 b1; omega
    · rcases hs with ⟨_, rfl⟩ | ⟨b1, _⟩
      · exact .inl ⟨a3, a5⟩
      · have := a1 b1; omega
theorem gap_of (ti : Int) : ∀ (l : List Z3) (e : Z3), (∀ (k : Nat) a b, (e :: l)[k]? = some a → (e :: l)[k + 1]? = some b → b.1 - a.1 ≤ ti) → Gap ti l e.1
  | [], _, _ => trivial
  | x :: l, e, h => ⟨h 0 e x rfl rfl, gap_of ti l x fun k a b h1 h2 => h (k + 1) a b (by simpa using h1) (by simpa using h2)⟩
theorem one_all {r : R4} {l : List Z3} (hr : ruleE r = 0) (hl : l.length ≤ 900) (ha : Asc l (-1)) (hg : ∀ (k : Nat) a b, l[k]? = some a → l[k + 1]? = some b → b.1 - a.1 ≤ r.2.2.2) (hq : ∀ e ∈ l, r.2.1 ≤ e.2.2) : (alL r l).length ≤ 1 := by
  cases l with
  | nil => exact Nat.zero_le 1
  | cons e l =>
    obtain ⟨h1, h2, h3⟩ := ha
    simp only [List.length_cons] at hl
    have hk := (stepA_len r st0 [] e).1
    have e1 : (stepA r (st0, []) e).1 = hearV r st0 e := rfl
    show ((e :: l).foldl (stepA r) (st0, [])).2.length ≤ 1
    rw [List.foldl_cons]
    refine one_tail hr l (stepA r (st0, []) e).1 (stepA r (st0, []) e).2 (by simp only [List.length_nil] at hk; omega) (by rw [e1, hearV_at]; exact h3) (iv_step (iv_0 r) (by simp) hr h2 h1) (by rw [e1, hearV_at]; exact gap_of _ l e hg) (fun x hx => hq x (by simp [hx])) ?_
    rw [e1]
    rcases stepA_cases [] hr h2 h1 (show (-1 : Int) ≤ st0.2.2.2.1 by decide) ⟨by decide, by decide⟩ with ⟨⟨a1, a2⟩, a3, a4, a5⟩ | ⟨⟨a1, a2⟩, a3, a4, a5, a6⟩ | ⟨a1, a3, a4, a5⟩ | ⟨a1, a3, a4, a5, a6⟩
    · cases a1
    · cases a1
    · exact .inr ⟨a3, by rw [a5]; rfl⟩
    · exact .inl ⟨a3, a5⟩
end Gv

/- The state at an event, and between two events. -/
namespace Gv
open Go
set_option maxRecDepth 100000
theorem asc_take : ∀ {l : List Z3} {b : Int} (i : Nat), Asc l b → Asc (l.take i) b
  | [], _, _, _ => by simp [Asc]
  | _ :: _, _, 0, _ => trivial
  | _ :: _, _, i + 1, h => ⟨h.1, h.2.1, asc_take i h.2.2⟩
theorem asc_get : ∀ {l : List Z3} {b : Int} {i : Nat} {e : Z3}, Asc l b → l[i]? = some e → b < e.1 ∧ eventE e = 0 ∧ (∀ x ∈ l.take i, x.1 < e.1) ∧ (∀ x ∈ l.drop (i + 1), e.1 < x.1)
  | [], _, _, _, _, he => by simp at he
  | x :: l, b, 0, e, h, he => by
    have : x = e := by simpa using he
    subst this
    exact ⟨h.1, h.2.1, by simp, fun y hy => asc_gt h.2.2 y (by simpa using hy)⟩
  | x :: l, b, i + 1, e, h, he => by
    obtain ⟨h1, h2, h3⟩ := h
    obtain ⟨k1, k2, k3, k4⟩ := asc_get h3 (show l[i]? = some e by simpa using he)
    refine ⟨by omega, k2, fun y hy => ?_, fun y hy => k4 y (by simpa using hy)⟩
    rcases List.mem_cons.1 (by simpa using hy : y ∈ x :: l.take i) with rfl | hy
    · exact k1
    · exact k3 y hy
def sU (r : R4) (l : List Z3) (i : Nat) : St5 := (l.take i).foldl (hearV r) st0
theorem sU_succ (r : R4) {l : List Z3} {i : Nat} {e : Z3} (he : l[i]? = some e) : sU r l (i + 1) = hearV r (sU r l i) e := by
  unfold sU
  rw [List.take_add_one, he]
  simp
theorem sU_fold (r : R4) (l : List Z3) (i : Nat) (t : Int) (h1 : ∀ x ∈ l.take i, x.1 ≤ t) (h2 : ∀ x ∈ l.drop i, t < x.1) : l.foldl (stepV r t) st0 = sU r l i := by
  have e : l = l.take i ++ l.drop i := (List.take_append_drop i l).symm
  rw [e, List.foldl_append, ← e, fold_le r t _ _ h1, stepV_none r t _ _ h2]
  rfl
theorem at_event {r : R4} {l : List Z3} {i : Nat} {e : Z3} (hr : ruleE r = 0) (ha : Asc l (-1)) (he : l[i]? = some e) : atV r l e.1 = hearV r (sU r l i) e := by
  have hr := ruleE_ok hr
  obtain ⟨k1, k2, k3, k4⟩ := asc_get ha he
  unfold atV
  rw [sU_fold r l (i + 1) e.1 (fun x hx => by
    rw [List.take_add_one, he] at hx
    rcases List.mem_append.1 hx with hx | hx
    · have := k3 x hx; omega
    · have : x = e := by simpa using hx
      rw [this]; exact Int.le_refl _) k4, sU_succ r he]
  unfold passV
  rw [hearV_at, show e.1 - e.1 = 0 by omega, w64_in (by omega), if_neg (by omega)]
theorem at_since {r : R4} {l : List Z3} {i : Nat} {a e : Z3} (ha : Asc l (-1)) (hp : l[i]? = some a) (he : l[i + 1]? = some e) {t : Int} (h1 : a.1 ≤ t) (h2 : t < e.1) : atV r l t = passV r (sU r l (i + 1)) t ∧ (sU r l (i + 1)).2.2.2.1 = a.1 := by
  obtain ⟨k1, k2, k3, k4⟩ := asc_get ha hp
  obtain ⟨m1, m2, m3, m4⟩ := asc_get ha he
  refine ⟨?_, by rw [sU_succ r hp, hearV_at]⟩
  unfold atV
  rw [sU_fold r l (i + 1) t (fun x hx => by
    rw [List.take_add_one, hp] at hx
    rcases List.mem_append.1 hx with hx | hx
    · have := k3 x hx; omega
    · have : x = a := by simpa using hx
      rw [this]; exact h1) (fun x hx => by
    obtain ⟨y, hy, hd⟩ := get_drop (l := l) (i := i + 1) (by
      have := (List.getElem?_eq_some_iff.1 he).1
      exact this)
    rw [hd] at hx
    rcases List.mem_cons.1 hx with rfl | hx
    · rw [he] at hy; cases hy; exact h2
    · have := m4 x hx; omega)]
theorem vd_all {r : R4} (hr : ruleE r = 0) : ∀ (l : List Z3) (s : St5) (k : Nat), Vd s → Nm k s → k + l.length ≤ 900 → Asc l s.2.2.2.1 → Vd (l.foldl (hearV r) s) ∧ Nm 900 (l.foldl (hearV r) s)
  | [], s, k, h, hn, hk, _ => ⟨h, by simp only [List.length_nil] at hk; unfold Nm at *; simp only [List.foldl_nil]; omega⟩
  | e :: l, s, k, h, hn, hk, ha => by
    obtain ⟨h1, h2, h3⟩ := ha
    simp only [List.length_cons] at hk
    have hn2 : Nm ((k + 1 : Nat) : Int) (hearV r s e) := by
      have := hearV_nm (r := r) (e := e) hn (by omega)
      unfold Nm at *
      omega
    rw [List.foldl_cons]
    exact vd_all hr l _ (k + 1) (hear_vd hr h h2 h1 (by unfold Nm at hn2; omega)) hn2 (by omega) (by rw [hearV_at]; exact h3)
theorem vd_u {r : R4} {l : List Z3} (hr : ruleE r = 0) (ha : Asc l (-1)) (hl : l.length ≤ 900) (i : Nat) : Vd (sU r l i) ∧ Nm 900 (sU r l i) :=
  vd_all hr (l.take i) st0 0 (by unfold Vd st0; simp) ⟨Int.le_refl 0, Int.le_refl 0⟩ (by simp only [List.length_take]; omega) (asc_take i ha)
theorem vd_pass {r : R4} {s : St5} (t : Int) (h : Vd s) : Vd (passV r s t) := by
  unfold passV
  split
  · unfold Vd at *
    simp only [Bool.false_eq_true, false_implies, true_and, true_implies, and_self, and_true]
    omega
  · exact h
theorem pass_at (r : R4) (s : St5) (t : Int) : (passV r s t).2.2.2.1 = s.2.2.2.1 ∧ (passV r s t).2.1 = s.2.1 := by
  unfold passV
  split <;> exact ⟨rfl, rfl⟩
theorem hear_pass {r : R4} {s : St5} {e : Z3} {t : Int} (hh : -1 ≤ s.2.2.2.1) (h1 : s.2.2.2.1 ≤ t) (h2 : t < e.1) (h3 : e.1 ≤ 1000000000000) : hearV r (passV r s t) e = hearV r s e := by
  have key : passV r (passV r s t) e.1 = passV r s e.1 := by
    by_cases hc : s.1 = true ∧ r.2.2.2 < w64 (t - s.2.2.2.1)
    · have hc2 : s.1 = true ∧ r.2.2.2 < w64 (e.1 - s.2.2.2.1) := ⟨hc.1, by
        have := hc.2
        rw [w64_in (by omega)] at this ⊢
        omega⟩
      have e1 : passV r s t = (false, s.2.1, 0, s.2.2.2.1, -1) := if_pos hc
      have e2 : passV r s e.1 = (false, s.2.1, 0, s.2.2.2.1, -1) := if_pos hc2
      rw [e1, e2]
      exact if_neg (by simp)
    · rw [show passV r s t = s from if_neg hc]
  unfold hearV
  rw [key]
theorem next_between {r : R4} {s : St5} {e : Z3} {t : Int} (hr : ruleE r = 0) (hs : Vd s) (hn : Nm 900 s) (he : eventE e = 0) (h1 : s.2.2.2.1 ≤ t) (h2 : t < e.1) : nextV r (passV r s t) e = flat6 (hearV r s e) 0 := by
  have he' := eventE_ok he
  have hv := vd_pass (r := r) t hs
  obtain ⟨p1, p2⟩ := pass_at r s t
  have hp := hear_pass (r := r) (s := s) (e := e) (t := t) hs.2.2.1.1 h1 h2 he'.2.1
  have hk := hearV_nm (r := r) (e := e) hn (by decide)
  have h0 : nextE r (passV r s t) e = 0 := by
    unfold nextE
    rw [hr, stateE_vd.2 hv, he, if_neg (by rw [p1]; omega)]
    rfl
  unfold nextV
  rw [h0, hp]
  unfold Nm at hk
  rw [if_neg (by simp), if_neg (by omega)]
def stB (P : List Z3) (t : Int) : Bool := P.any fun z => decide (z.2.1 ≤ t ∧ t ≤ z.2.2)
theorem stB_iff (P : List Z3) (t : Int) : stB P t = true ↔ St P t := by
  unfold stB St
  simp only [List.any_eq_true, decide_eq_true_eq]
theorem lStd_is (P : List Z3) (t : Int) (hl : P.length < 1000) : FlStd [.list P.length (encT P), .int .i64 t] = some (stB P t) := by
  have e2 : ∀ (P : List Z3) (i : Nat), (encT P)[i * 3 + 2]? = P[i]?.map fun z => PV.int .i64 z.2.2 := fun P i => encT_2 P i
  have lp : ∀ i, i ≤ P.length → RlStd_0 (TlStd_0a P.length (encT P) t i) = exO (XLlStd_0.fn (if stB (P.drop i) t = true then .inl () else .inr ())) := by
    refine up_ind _ ?_ ?_
    · refine RlStd_0a_of _ _ _ _ ?_
      unfold BlStd_0a
      rw [bif_neg (by omega), List.drop_length]
      rfl
    · intro i hi ih
      obtain ⟨z, hz, hd⟩ := get_drop hi
      refine RlStd_0a_of _ _ _ _ ?_
      unfold BlStd_0a
      rw [bif_pos (by omega), bif_pos (by omega)]
      simp only [Int.toNat_natCast, encT_1, e2, hz, Option.map_some, intC_int, bindO_val, bWi_is]
      rw [bif_pos (by omega), hd]
      simp only [stB, List.any_cons, Bool.or_eq_true, decide_eq_true_eq] at ih ⊢
      by_cases hc : z.2.1 ≤ t ∧ t ≤ z.2.2
      · rw [bif_pos hc, if_pos (.inl hc)]
        rfl
      · rw [bif_neg hc, w64_in (by omega)]
        simp only [hc, false_or]
        exact ih
  refine FlStd_of _ _ _ ?_
  have h' : LlStd_0 (TlStd_0a P.length (encT P) t 0) = _ := lpO_of IlStd_0 XIlStd_0 (lp 0 (by omega))
  unfold tlStd
  rw [h', List.drop_zero]
  cases stB P t <;> rfl
end Gv
