/- All alerts: the specification's, and that both are the same. -/
import Derived.Test.YtggnifebabjoiaaS7
import Derived.Test.YtggnifebabjoiaaP5c
namespace Gv
open Go
set_option maxRecDepth 100000
abbrev TC (r : R4) (l : List Z3) (i h : Int) : Q := TalOf_0c l.length (encT l) l.length i r.1 r.2.1 r.2.2.1 r.2.2.2 h
def TP (r : R4) (l : List Z3) (i : Int) (s : St5) (P : List Z3) : Q := if P = [] then TC r l i s.2.2.2.1 else TB r l i s P
def endP (r : R4) (p : St5 × List Z3) : YalOf_0 := if p.2 = [] then .inl (r.1, r.2.1, r.2.2.1, r.2.2.2, p.1.2.2.2.1) else .inr (p.2.length, r.1, r.2.1, r.2.2.1, r.2.2.2, p.1.1, p.1.2.1, p.1.2.2.1, p.1.2.2.2.1, p.1.2.2.2.2, p.2.length, encT p.2)
def Emp (s : St5) (P : List Z3) : Prop := P = [] → s = (false, 0, 0, s.2.2.2.1, -1)
theorem stepA_emp (r : R4) (h : Int) (e : Z3) : stepA r ((false, 0, 0, h, -1), []) e = if r.1 ≤ e.2.1 then ((true, 1, e.1, e.1, -1), [(1, e.1, w64 (e.1 + r.2.2.2))]) else ((false, 0, 0, e.1, -1), []) := by
  have w1 : w64 1 = 1 := w64_in (by omega)
  by_cases h5 : r.1 ≤ e.2.1 <;> simp [stepA, hearV, hear3, hear2, passV, h5, w1]
theorem stepA_len (r : R4) (s : St5) (P : List Z3) (e : Z3) : (stepA r (s, P) e).2.length ≤ P.length + 1 ∧ (P ≠ [] → (stepA r (s, P) e).2 ≠ []) := by
  have sl : ∀ (P : List Z3) x, (setTo P x).length = P.length := fun P x => by
    cases P with
    | nil => rfl
    | cons a P =>
      obtain ⟨pre, z, hz⟩ := snoc_of (l := a :: P) (by simp)
      rw [hz, setTo_snoc]
      simp
  unfold stepA
  dsimp only
  constructor
  · split
    · split <;> rw [sl] <;> omega
    · split
      · simp
      · omega
  · intro h
    split
    · split <;> exact setTo_ne h
    · split
      · simp
      · exact h
theorem al_loop (r : R4) (l : List Z3) (hl : l.length ≤ 100) : ∀ i, i ≤ l.length → ∀ (s : St5) (P : List Z3), P.length ≤ i → Emp s P →
    RalOf_0 (TP r l i s P) = exO (XLalOf_0.fn (endP r ((l.drop i).foldl (stepA r) (s, P)))) := by
  refine up_ind _ ?_ ?_
  · intro s P _ hE
    rw [List.drop_length]
    by_cases hP : P = []
    · rw [TP, if_pos hP, List.foldl_nil, endP, if_pos hP]
      refine RalOf_0c_of _ _ _ _ _ _ _ _ _ ?_
      unfold BalOf_0c
      rw [bif_neg (by omega)]
      rfl
    · rw [TP, if_neg hP, List.foldl_nil, endP, if_neg hP]
      refine RalOf_0b_of _ _ _ _ _ _ _ _ _ _ _ _ _ _ _ _ ?_
      unfold BalOf_0b
      rw [bif_neg (by omega)]
      rfl
  · intro i hi ih s P hn hE
    obtain ⟨e, he, hd⟩ := get_drop hi
    rw [hd, List.foldl_cons]
    by_cases hP : P = []
    · have hs := hE hP
      subst hP
      rw [TP, if_pos rfl]
      have es := stepA_emp r s.2.2.2.1 e
      rw [← hs] at es
      refine RalOf_0c_of _ _ _ _ _ _ _ _ _ ?_
      unfold BalOf_0c
      rw [bif_pos (by omega), bif_pos (by omega)]
      simp only [Int.toNat_natCast, encT_0, encT_1, encT_2, he, Option.map_some, intC_int, bindO_val]
      rw [w64_in (by omega)]
      by_cases h5 : r.1 ≤ e.2.1
      · rw [if_pos h5] at es
        rw [bif_pos h5, es]
        have := ih (true, 1, e.1, e.1, -1) [(1, e.1, w64 (e.1 + r.2.2.2))] (by simp) (fun h => by simp at h)
        rw [TP, if_neg (by simp)] at this
        exact this
      · rw [if_neg h5] at es
        rw [bif_neg h5, es]
        have := ih (false, 0, 0, e.1, -1) [] (by simp) (fun _ => rfl)
        rw [TP, if_pos rfl] at this
        exact this
    · obtain ⟨pre, z, rfl⟩ := snoc_of hP
      rw [TP, if_neg hP]
      have hk : pre.length < 1000 := by simp at hn; omega
      have hlen := stepA_len r s (pre ++ [z]) e
      have := ih (stepA r (s, pre ++ [z]) e).1 (stepA r (s, pre ++ [z]) e).2 (by omega) (fun h => absurd h (hlen.2 hP))
      rw [TP, if_neg (hlen.2 hP)] at this
      refine RalOf_0b_of _ _ _ _ _ _ _ _ _ _ _ _ _ _ _ _ ?_
      rw [alb_step _ _ _ _ r l s pre z e i hi he hk, w64_in (by omega)]
      exact this
def alL (r : R4) (l : List Z3) : List Z3 := (l.foldl (stepA r) (st0, [])).2
theorem al_start (r u : R4) (l : List Z3) (hl : l.length ≤ 100) : RalOf_0 (TalOf_0a l.length (encT l) l.length u.1 u.2.1 u.2.2.1 u.2.2.2 r.1 r.2.1 r.2.2.1 r.2.2.2) = exO (XLalOf_0.fn (endP r (l.foldl (stepA r) (st0, [])))) := by
  refine RalOf_0a_of _ _ _ _ _ _ _ _ _ _ _ ?_
  unfold BalOf_0a
  cases l with
  | nil => rfl
  | cons e l =>
    have h0 : (encT (e :: l))[0]? = some (PV.int .i64 e.1) := encT_0 (e :: l) 0
    have h1 : (encT (e :: l))[1]? = some (PV.int .i64 e.2.1) := encT_1 (e :: l) 0
    have h2 : (encT (e :: l))[2]? = some (PV.int .i64 e.2.2) := encT_2 (e :: l) 0
    rw [bif_pos (by simp only [List.length_cons]; omega), bif_pos (by simp only [List.length_cons]; omega)]
    simp only [h0, h1, h2, intC_int, bindO_val]
    rw [List.foldl_cons]
    have es : stepA r (st0, []) e = _ := stepA_emp r (-1) e
    by_cases h5 : r.1 ≤ e.2.1
    · rw [if_pos h5] at es
      rw [bif_pos h5, es]
      have := al_loop r (e :: l) hl 1 (by simp) (true, 1, e.1, e.1, -1) [(1, e.1, w64 (e.1 + r.2.2.2))] (by simp) (fun h => by simp at h)
      rw [TP, if_neg (by simp)] at this
      exact this
    · rw [if_neg h5] at es
      rw [bif_neg h5, es]
      have := al_loop r (e :: l) hl 1 (by simp) (false, 0, 0, e.1, -1) [] (by simp) (fun _ => rfl)
      rw [TP, if_pos rfl] at this
      exact this
theorem alOf_is (r : R4) (l : List Z3) (hl : l.length ≤ 100) : FalOf [encR4 r, .list l.length (encT l)] = some (if both (ruleE r) (evsE l) = 0 then (((alL r l).length, encT (alL r l)), 0) else ((0, []), both (ruleE r) (evsE l))) := by
  refine FalOf_of _ _ _ _ _ _ ?_
  have hr := cRule_is r
  have hst : LalOf_0 _ = _ := lpO_of IalOf_0 XIalOf_0 (al_start r r l hl)
  obtain ⟨ra, cl, ho, ti⟩ := r
  simp only [encR4] at hr
  unfold talOf
  simp only [hr, evsE_is l (by omega), fE2_is, bindO_val, bif_ne]
  by_cases he : both (ruleE (ra, cl, ho, ti)) (evsE l) = 0
  · rw [if_pos he, if_pos he]
    have hst' : LalOf_0 (TalOf_0a l.length (encT l) l.length ra cl ho ti ra cl ho ti) = _ := hst
    rw [hst']
    unfold alL endP
    by_cases hP : (l.foldl (stepA (ra, cl, ho, ti)) (st0, [])).2 = []
    · rw [if_pos hP, hP]
      rfl
    · rw [if_neg hP]
      simp
  · rw [if_neg he, if_neg he]
def stepR (r : R4) (p : St5 × List Z3) (e : Z3) : St5 × List Z3 :=
  (hearV r p.1 e,
    if (hearV r p.1 e).1 = true ∧ (hearV r p.1 e).2.1 ≠ p.1.2.1 then
      (if p.1.1 = true then setTo p.2 (if w64 (p.1.2.2.2.1 + r.2.2.2) < w64 (e.1 - 1) then w64 (p.1.2.2.2.1 + r.2.2.2) else w64 (e.1 - 1)) else p.2) ++ [((hearV r p.1 e).2.1, e.1, 0)]
    else if p.1.1 = true ∧ (hearV r p.1 e).1 = false then setTo p.2 (if w64 (p.1.2.2.2.1 + r.2.2.2) < w64 (e.1 - 1) then w64 (p.1.2.2.2.1 + r.2.2.2) else w64 (e.1 - 1)) else p.2)
abbrev TRb (r : R4) (l : List Z3) (i : Int) (s : St5) (P : List Z3) : Q := TrAl_0b l.length (encT l) P.length i r.1 r.2.1 r.2.2.1 r.2.2.2 s.1 s.2.1 s.2.2.1 s.2.2.2.1 s.2.2.2.2 P.length (encT P)
abbrev TRa (r : R4) (l : List Z3) (i : Int) (s : St5) : Q := TrAl_0a l.length (encT l) i r.1 r.2.1 r.2.2.1 r.2.2.2 s.1 s.2.1 s.2.2.1 s.2.2.2.1 s.2.2.2.2
theorem rb_step (N : QO) (E : EO) (L0 : Q → Option YrAl_0) (r : R4) (l : List Z3) (s : St5) (pre : List Z3) (z e : Z3) (i : Nat) (hi : i < l.length) (he : l[i]? = some e) (hk : pre.length < 1000) (hx : rNextV r s e = flat6 (hearV r s e) 0) :
    BrAl_0b (Fn env) N E L0 l.length (encT l) (pre ++ [z]).length i r.1 r.2.1 r.2.2.1 r.2.2.2 s.1 s.2.1 s.2.2.1 s.2.2.2.1 s.2.2.2.2 (pre ++ [z]).length (encT (pre ++ [z])) =
    N (TRb r l (w64 (i + 1)) (stepR r (s, pre ++ [z]) e).1 (stepR r (s, pre ++ [z]) e).2) := by
  unfold BrAl_0b
  rw [bif_pos (by omega)]
  have c9 : (0 : Int) ≤ (i : Int) ∧ (i : Int) < l.length := by omega
  have hnx := rNx' r s.1 s.2.1 s.2.2.1 s.2.2.2.1 s.2.2.2.2 e.1 e.2.1 e.2.2
  have hx' : rNextV r (s.1, s.2.1, s.2.2.1, s.2.2.2.1, s.2.2.2.2) (e.1, e.2.1, e.2.2) = flat6 (hearV r s e) 0 := hx
  rw [hx'] at hnx
  simp only [encR4] at hnx
  simp only [bif_dec, c9, and_self, if_true, Int.toNat_natCast, encT_0, encT_1, encT_2, encT_0', he, Option.map_some, intC_int, bindO_val]
  have hlen : (pre ++ [z]).length = pre.length + 1 := by simp
  have a1 : w64 (((pre ++ [z]).length : Int) - 1) = (pre.length : Int) := by rw [w64_in (by omega)]; omega
  have c1 : (0 : Int) ≤ (pre.length : Int) ∧ (pre.length : Int) < ((pre ++ [z]).length : Int) := by omega
  have c0 : (pre ++ [z]).length = (pre ++ [z]).length ∧ (pre ++ [z]).length + 1 ≤ big := ⟨rfl, by unfold big; omega⟩
  have o1 : ∀ x, overO (encT (pre ++ [z])) (pre.length * 3 + 2) [.int .i64 x] = some (encT (pre ++ [(z.1, z.2.1, x)])) := overO_last pre z
  have sl : ∀ x, (pre ++ [(z.1, z.2.1, x)]).length = (pre ++ [z]).length := fun x => by simp
  have sl2 : ∀ (P : List Z3) (w : Z3), (P ++ [w]).length = P.length + 1 := fun P w => by simp
  have st : ∀ x, setTo (pre ++ [z]) x = pre ++ [(z.1, z.2.1, x)] := setTo_snoc pre z
  have sn : ∀ (P : List Z3) (a b c : Int), encT P ++ [.int .i64 a, .int .i64 b, .int .i64 c] = encT (P ++ [(a, b, c)]) := fun P a b c => encT_snoc P (a, b, c)
  unfold stepR
  dsimp only
  generalize hP : pre ++ [z] = P at *
  generalize hearV r s e = s' at *
  obtain ⟨b', n', si', h', q'⟩ := s'
  obtain ⟨b, n, si, h, q⟩ := s
  obtain ⟨ra, cl, ho, ti⟩ := r
  cases b with
  | true =>
    simp only at hnx
    simp only [cond_true, hnx, bindO_val, bif_ne]
    cases b' with
    | true =>
      by_cases hne : n' = n
      · simp only [TRb, cond_true, hne, if_true, if_false, ne_eq, not_true_eq_false, and_false, Bool.true_eq_false]
      · simp only [TRb, cond_true, hne, if_true, if_false, ne_eq, not_false_eq_true, and_self, a1, c1, Int.toNat_natCast, o1, bindO_val, c0, sn, sl, sl2, st]
    | false =>
      simp only [TRb, cond_false, a1, c1, and_self, if_true, Int.toNat_natCast, o1, bindO_val, sl, st, Bool.false_eq_true, false_and, if_false]
  | false =>
    simp only at hnx
    simp only [cond_false, hnx, bindO_val, bif_ne]
    cases b' with
    | true =>
      by_cases hne : n' = n
      · simp only [TRb, cond_true, hne, if_true, if_false, ne_eq, not_true_eq_false, and_false, Bool.true_eq_false]
      · simp only [TRb, cond_true, hne, if_true, if_false, ne_eq, not_false_eq_true, and_self, c0, sn, sl2, Bool.false_eq_true]
    | false =>
      simp only [TRb, cond_false, Bool.false_eq_true, false_and, if_false]
theorem ra_step (N : QO) (E : EO) (L0 : Q → Option YrAl_0) (r : R4) (l : List Z3) (s : St5) (e : Z3) (i : Nat) (hi : i < l.length) (he : l[i]? = some e) (hb : s.1 = false) (hx : rNextV r s e = flat6 (hearV r s e) 0) :
    BrAl_0a (Fn env) N E L0 l.length (encT l) i r.1 r.2.1 r.2.2.1 r.2.2.2 s.1 s.2.1 s.2.2.1 s.2.2.2.1 s.2.2.2.2 =
    N (if (stepR r (s, []) e).2 = [] then TRa r l (w64 (i + 1)) (stepR r (s, []) e).1 else TRb r l (w64 (i + 1)) (stepR r (s, []) e).1 (stepR r (s, []) e).2) := by
  unfold BrAl_0a
  rw [bif_pos (by omega)]
  have c9 : (0 : Int) ≤ (i : Int) ∧ (i : Int) < l.length := by omega
  have hnx := rNx' r s.1 s.2.1 s.2.2.1 s.2.2.2.1 s.2.2.2.2 e.1 e.2.1 e.2.2
  have hx' : rNextV r (s.1, s.2.1, s.2.2.1, s.2.2.2.1, s.2.2.2.2) (e.1, e.2.1, e.2.2) = flat6 (hearV r s e) 0 := hx
  rw [hx'] at hnx
  simp only [encR4] at hnx
  simp only [bif_dec, c9, and_self, if_true, Int.toNat_natCast, encT_0, encT_1, encT_2, encT_0', he, Option.map_some, intC_int, bindO_val]
  unfold stepR
  dsimp only
  generalize hearV r s e = s' at *
  obtain ⟨b', n', si', h', q'⟩ := s'
  obtain ⟨b, n, si, h, q⟩ := s
  obtain ⟨ra, cl, ho, ti⟩ := r
  simp only at hb
  subst hb
  simp only at hnx
  simp only [cond_false, hnx, bindO_val, bif_ne]
  cases b' with
  | true =>
    by_cases hne : n' = n
    · simp [hne]
    · simp [hne]
      rfl
  | false => simp
def endR (r : R4) (p : St5 × List Z3) : YrAl_0 := if p.2 = [] then .inl (r.1, r.2.1, r.2.2.1, r.2.2.2, p.1.1, p.1.2.1, p.1.2.2.1, p.1.2.2.2.1, p.1.2.2.2.2) else .inr (p.2.length, r.1, r.2.1, r.2.2.1, r.2.2.2, p.1.1, p.1.2.1, p.1.2.2.1, p.1.2.2.2.1, p.1.2.2.2.2, p.2.length, encT p.2)
theorem setTo_len (P : List Z3) (x : Int) : (setTo P x).length = P.length := by
  cases P with
  | nil => rfl
  | cons a P =>
    obtain ⟨pre, z, hz⟩ := snoc_of (l := a :: P) (by simp)
    rw [hz, setTo_snoc]
    simp
theorem stepR_len (r : R4) (s : St5) (P : List Z3) (e : Z3) : (stepR r (s, P) e).2.length ≤ P.length + 1 ∧ (P ≠ [] → (stepR r (s, P) e).2 ≠ []) := by
  unfold stepR
  dsimp only
  constructor
  · split
    · split <;> simp [setTo_len]
    · split
      · rw [setTo_len]; omega
      · omega
  · intro h
    split
    · simp
    · split
      · exact setTo_ne h
      · exact h
theorem rAl_loop (r : R4) (l : List Z3) (hl : l.length ≤ 100) : ∀ i, i ≤ l.length → ∀ (s : St5) (P : List Z3), P.length ≤ i → (P = [] → s.1 = false ∧ s.2.1 = 0) → Asc (l.drop i) s.2.2.2.1 → Nm i s →
    RrAl_0 (if P = [] then TRa r l i s else TRb r l i s P) = exO (XLrAl_0.fn (endR r ((l.drop i).foldl (stepR r) (s, P)))) := by
  refine up_ind _ ?_ ?_
  · intro s P _ _ _ _
    rw [List.drop_length, List.foldl_nil]
    by_cases hP : P = []
    · rw [if_pos hP, endR, if_pos hP]
      refine RrAl_0a_of _ _ _ _ _ _ _ _ _ _ _ _ ?_
      unfold BrAl_0a
      rw [bif_neg (by omega)]
      rfl
    · rw [if_neg hP, endR, if_neg hP]
      refine RrAl_0b_of _ _ _ _ _ _ _ _ _ _ _ _ _ _ _ ?_
      unfold BrAl_0b
      rw [bif_neg (by omega)]
      rfl
  · intro i hi ih s P hn hE ha hm
    obtain ⟨e, he, hd⟩ := get_drop hi
    rw [hd] at ha ⊢
    obtain ⟨a1, a2, a3⟩ := ha
    have hx := rNext_hear (r := r) a1 (by unfold Nm at hm; omega)
    have hn2 : Nm ((i + 1 : Nat) : Int) (hearV r s e) := by
      have := hearV_nm (r := r) (e := e) hm (by omega)
      unfold Nm at *
      omega
    rw [List.foldl_cons]
    have hlen := stepR_len r s P e
    have e1 : (stepR r (s, P) e).1 = hearV r s e := rfl
    have hh : (stepR r (s, P) e).2 = [] → (hearV r s e).1 = false ∧ (hearV r s e).2.1 = 0 := by
      intro h
      have hP : P = [] := Classical.byContradiction fun hc => hlen.2 hc h
      obtain ⟨k1, k2⟩ := hE hP
      subst hP
      unfold stepR at h
      dsimp only at h
      split at h
      · simp at h
      · rename_i hc
        have hp : passV r s e.1 = s := by unfold passV; rw [if_neg (by rw [k1]; simp)]
        have h2 : hear2 r s e = s := by unfold hear2; rw [if_neg (by rw [k1]; simp)]
        have w1 : w64 (0 + 1) = 1 := w64_in (by omega)
        unfold hearV at hc ⊢
        rw [hp, h2] at hc ⊢
        unfold hear3 at hc ⊢
        by_cases h5 : s.1 = false ∧ r.1 ≤ e.2.1
        · rw [if_pos h5] at hc
          exfalso
          apply hc
          rw [k2, w1]
          simp
        · rw [if_neg h5]
          exact ⟨k1, k2⟩
    have := ih (stepR r (s, P) e).1 (stepR r (s, P) e).2 (by omega) (by rw [e1]; exact hh) (by rw [e1, hearV_at]; exact a3) (by rw [e1]; exact hn2)
    by_cases hP : P = []
    · subst hP
      rw [if_pos rfl]
      refine RrAl_0a_of _ _ _ _ _ _ _ _ _ _ _ _ ?_
      rw [ra_step _ _ _ r l s e i hi he (hE rfl).1 hx, w64_in (by omega)]
      exact this
    · obtain ⟨pre, z, rfl⟩ := snoc_of hP
      rw [if_neg hP]
      rw [if_neg (hlen.2 hP)] at this
      refine RrAl_0b_of _ _ _ _ _ _ _ _ _ _ _ _ _ _ _ ?_
      rw [rb_step _ _ _ r l s pre z e i hi he (by simp at hn; omega) hx, w64_in (by omega)]
      exact this
def fin (r : R4) (p : St5 × List Z3) : List Z3 := if p.1.1 = true then setTo p.2 (w64 (p.1.2.2.2.1 + r.2.2.2)) else p.2
theorem same_step {r : R4} {s : St5} {P : List Z3} {e : Z3} (hr : ruleE r = 0) (he : eventE e = 0) (hh : s.2.2.2.1 < e.1) (hb : -1 ≤ s.2.2.2.1) (hn : Nm 1000 s) :
    stepA r (s, fin r (s, P)) e = (hearV r s e, fin r (stepR r (s, P) e)) := by
  have hr := ruleE_ok hr
  have he := eventE_ok he
  obtain ⟨b, n, si, h, q⟩ := s
  obtain ⟨ra, cl, ho, ti⟩ := r
  obtain ⟨at_, lo, hi⟩ := e
  unfold Nm at hn
  simp only at hr he hh hb hn
  have w1 : w64 (at_ - h) = at_ - h := w64_in (by omega)
  have w2 : w64 (n + 1) = n + 1 := w64_in (by omega)
  have w3 : w64 (h + ti) = h + ti := w64_in (by omega)
  have w4 : w64 (at_ - 1) = at_ - 1 := w64_in (by omega)
  have ne : ¬ n + 1 = n := by omega
  have sa : ∀ (Q : List Z3) (w : Z3) (x : Int), setTo (Q ++ [w]) x = Q ++ [(w.1, w.2.1, x)] := setTo_snoc
  cases b with
  | true =>
    by_cases h0 : at_ - h > ti
    · have k1 : h + ti < at_ - 1 ∨ h + ti = at_ - 1 := by omega
      have k2 : (if h + ti < at_ - 1 then h + ti else at_ - 1) = h + ti := by split <;> omega
      by_cases h5 : lo ≥ ra
      · simp [stepA, stepR, fin, hearV, hear3, hear2, passV, w1, w2, w3, w4, h0, h5, ne, sa, k2]
      · simp [stepA, stepR, fin, hearV, hear3, hear2, passV, w1, w2, w3, w4, h0, h5, k2]
    · have k2 : (if h + ti < at_ - 1 then h + ti else at_ - 1) = at_ - 1 := by split <;> omega
      by_cases h1 : hi ≥ cl
      · simp [stepA, stepR, fin, hearV, hear3, hear2, listenV, passV, w1, w3, w4, h0, h1, setTo_two]
      · have h5 : ¬ lo ≥ ra := by omega
        by_cases h2 : q = -1
        · by_cases h3 : w64 (at_ - at_) ≥ ho
          · simp [-Int.sub_self, stepA, stepR, fin, hearV, hear3, hear2, listenV, passV, w1, w3, w4, h0, h1, h2, h3, h5, setTo_two, k2]
          · simp [-Int.sub_self, stepA, stepR, fin, hearV, hear3, hear2, listenV, passV, w1, w3, w4, h0, h1, h2, h3, setTo_two]
        · by_cases h3 : w64 (at_ - q) ≥ ho
          · simp [stepA, stepR, fin, hearV, hear3, hear2, listenV, passV, w1, w3, w4, h0, h1, h2, h3, h5, setTo_two, k2]
          · simp [stepA, stepR, fin, hearV, hear3, hear2, listenV, passV, w1, w3, w4, h0, h1, h2, h3, setTo_two]
  | false =>
    by_cases h5 : lo ≥ ra
    · simp [stepA, stepR, fin, hearV, hear3, hear2, passV, w2, h5, ne, sa]
    · simp [stepA, stepR, fin, hearV, hear3, hear2, passV, h5]
theorem same_all' {r : R4} (hr : ruleE r = 0) : ∀ (l : List Z3) (s : St5) (P : List Z3) (k : Nat), k + l.length ≤ 900 → Asc l s.2.2.2.1 → -1 ≤ s.2.2.2.1 → Nm k s →
    (l.foldl (stepA r) (s, fin r (s, P))).2 = fin r (l.foldl (stepR r) (s, P))
  | [], s, P, _, _, _, _, _ => rfl
  | e :: l, s, P, k, hk, ha, hb, hn => by
    obtain ⟨a1, a2, a3⟩ := ha
    simp only [List.length_cons] at hk
    have hn' : Nm 1000 s := by unfold Nm at *; omega
    have hn2 : Nm ((k + 1 : Nat) : Int) (hearV r s e) := by
      have := hearV_nm (r := r) (e := e) hn (by omega)
      unfold Nm at *
      omega
    have h1 := same_step (P := P) hr a2 a1 hb hn'
    rw [List.foldl_cons, List.foldl_cons, h1]
    have he1 : stepR r (s, P) e = (hearV r s e, (stepR r (s, P) e).2) := rfl
    rw [he1]
    exact same_all' hr l (hearV r s e) (stepR r (s, P) e).2 (k + 1) (by omega) (by rw [hearV_at]; exact a3) (by rw [hearV_at]; omega) hn2
theorem rAl_is (r : R4) (l : List Z3) (hl : l.length ≤ 100) (hr : ruleE r = 0) (ha : Asc l (-1)) : FrAl [encR4 r, .list l.length (encT l)] = some ((alL r l).length, encT (alL r l)) := by
  refine FrAl_of _ _ _ _ _ _ ?_
  have hlp := rAl_loop r l hl 0 (by omega) st0 [] (by simp) (fun _ => ⟨rfl, rfl⟩) ha ⟨Int.le_refl 0, Int.le_refl 0⟩
  rw [if_pos rfl, List.drop_zero] at hlp
  have hst : LrAl_0 (TrAl_0a l.length (encT l) 0 r.1 r.2.1 r.2.2.1 r.2.2.2 false 0 0 (-1) (-1)) = _ := lpO_of IrAl_0 XIrAl_0 hlp
  have hs := same_all' hr l st0 [] 0 (by omega) ha (by decide) ⟨Int.le_refl 0, Int.le_refl 0⟩
  have hs' : alL r l = fin r (l.foldl (stepR r) (st0, [])) := hs
  unfold trAl
  simp only [rFst_is, bindO_val, hst]
  rw [hs']
  have hne : ∀ (l : List Z3) (s : St5) (P : List Z3), (P = [] → s.1 = false ∧ s.2.1 = 0) → (l.foldl (stepR r) (s, P)).2 = [] → (l.foldl (stepR r) (s, P)).1.1 = false := by
    intro l
    induction l with
    | nil => intro s P h hP; exact (h hP).1
    | cons e l ih =>
      intro s P h hP
      rw [List.foldl_cons] at hP ⊢
      refine ih _ _ (fun h2 => ?_) hP
      have hlen := stepR_len r s P e
      have hP0 : P = [] := Classical.byContradiction fun hc => hlen.2 hc h2
      obtain ⟨k1, k2⟩ := h hP0
      subst hP0
      dsimp only at h2
      split at h2
      · simp at h2
      · rename_i hc
        show (hearV r s e).1 = false ∧ (hearV r s e).2.1 = 0
        have hp : passV r s e.1 = s := by unfold passV; rw [if_neg (by rw [k1]; simp)]
        have h2' : hear2 r s e = s := by unfold hear2; rw [if_neg (by rw [k1]; simp)]
        have w1 : w64 (0 + 1) = 1 := w64_in (by omega)
        unfold hearV at hc ⊢
        rw [hp, h2'] at hc ⊢
        unfold hear3 at hc ⊢
        by_cases h5 : s.1 = false ∧ r.1 ≤ e.2.1
        · rw [if_pos h5] at hc
          exfalso
          apply hc
          rw [k2, w1]
          simp
        · rw [if_neg h5]
          exact ⟨k1, k2⟩
  have hl2 : ∀ (l : List Z3) (s : St5) (P : List Z3), (l.foldl (stepR r) (s, P)).2.length ≤ P.length + l.length := by
    intro l
    induction l with
    | nil => intro s P; simp
    | cons e l ih =>
      intro s P
      rw [List.foldl_cons]
      have h3 : (l.foldl (stepR r) (stepR r (s, P) e)).2.length ≤ (stepR r (s, P) e).2.length + l.length := ih (stepR r (s, P) e).1 (stepR r (s, P) e).2
      have h2 := (stepR_len r s P e).1
      simp only [List.length_cons]
      omega
  have hq := hne l st0 [] (fun _ => ⟨rfl, rfl⟩)
  have hq2 := hl2 l st0 []
  generalize l.foldl (stepR r) (st0, []) = p at *
  obtain ⟨⟨b, n, si, h, q⟩, P⟩ := p
  unfold endR fin
  simp only at hq hq2 ⊢
  by_cases hP : P = []
  · have hb := hq hP
    subst hb
    subst hP
    simp
    rfl
  · obtain ⟨pre, z, rfl⟩ := snoc_of hP
    have a1 : w64 (((pre ++ [z]).length : Int) - 1) = (pre.length : Int) := by
      simp at hq2
      rw [w64_in (by simp; omega)]
      simp
    have c1 : (0 : Int) ≤ (pre.length : Int) ∧ (pre.length : Int) < ((pre ++ [z]).length : Int) := by simp; omega
    rw [if_neg hP]
    simp only [Sum.elim]
    cases b with
    | true =>
      simp only [cond_true, a1, bif_dec, c1, and_self, if_true, Int.toNat_natCast, overO_last, bindO_val, setTo_snoc]
      simp
    | false =>
      simp only [cond_false, bif_dec, if_true, Bool.false_eq_true, if_false]
end Gv
