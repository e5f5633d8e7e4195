/- All alerts: the specification's, and that both are the same. -/
import Derived.Test.YtggnifebabjoiaaS7
import Derived.Test.YtggnifebabjoiaaP5c
namespace Gv
open Go
set_option maxRecDepth 100000
abbrev TC (r : R4) (l : List Z3) (i h : Int) : Q := TalOf_0c l.length (encT l) l.length i r.1 r.2.1 r.2.2.1 r.2.2.2 h
def TP (r : R4) (l : List Z3) (i : Int) (s : St5) (P : List Z3) : Q := if P = [] then TC r l i s.2.2.2.1 else TB r l i s P
def endP (r : R4) (p : St5 × List Z3) : YalOf_0 := if p.2 = [] then .inl (r.1, r.2.1, r.2.2.1, r.2.2.2, p.1.2.2.2.1) else .inr (p.2.length, r.1, r.2.1, r.2.2.1, r.2.2.2, p.1.1, p.1.2.1, p.1.2.2.1, p.1.2.2.2.1, p.1.2.2.2.2, p.2.length, encT p.2)
def Emp (s : St5) (P : List Z3) : Prop := P = [] → s = (false, 0, 0, s.2.2.2.1, -1)
theorem stepA_emp (r : R4) (h : Int) (e : Z3) : stepA r ((false, 0, 0, h, -1), []) e = if r.1 ≤ e.2.1 then ((true, 1, e.1, e.1, -1), [(1, e.1, w64 (e.1 + r.2.2.2))]) else ((false, 0, 0, e.1, -1), []) := by
  have w1 : w64 1 = 1 := w64_in (by omega)
  by_cases h5 : r.1 ≤ e.2.1 <;> simp [stepA, hearV, hear3, hear2, passV, h5, w1]
theorem stepA_len (r : R4) (s : St5) (P : List Z3) (e : Z3) : (stepA r (s, P) e).2.length ≤ P.length + 1 ∧ (P ≠ [] → (stepA r (s, P) e).2 ≠ []) := by
  have sl : ∀ (P : List Z3) x, (setTo P x).length = P.length := fun P x => by
    cases P with
    | nil => rfl
    | cons a P =>
      obtain ⟨pre, z, hz⟩ := snoc_of (l := a :: P) (by simp)
      rw [hz, setTo_snoc]
      simp
  unfold stepA
  dsimp only
  constructor
  · split
    · split <;> rw [sl] <;> omega
    · split
      · simp
      · omega
  · intro h
    split
    · split <;> exact setTo_ne h
    · split
      · simp
      · exact h
theorem al_loop (r : R4) (l : List Z3) (hl : l.length ≤ 100) : ∀ i, i ≤ l.length → ∀ (s : St5) (P : List Z3), P.length ≤ i → Emp s P →
    RalOf_0 (TP r l i s P) = exO (XLalOf_0.fn (endP r ((l.drop i).foldl (stepA r) (s, P)))) := by
  refine up_ind _ ?_ ?_
  · intro s P _ hE
    rw [List.drop_length]
    by_cases hP : P = []
    · rw [TP, if_pos hP, List.foldl_nil, endP, if_pos hP]
      refine RalOf_0c_of _ _ _ _ _ _ _ _ _ ?_
      unfold BalOf_0c
      rw [bif_neg (by omega)]
      rfl
    · rw [TP, if_neg hP, List.foldl_nil, endP, if_neg hP]
      refine RalOf_0b_of _ _ _ _ _ _ _ _ _ _ _ _ _ _ _ _ ?_
      unfold BalOf_0b
      rw [bif_neg (by omega)]
      rfl
  · intro i hi ih s P hn hE
    obtain ⟨e, he, hd⟩ := get_drop hi
    rw [hd, List.foldl_cons]
    by_cases hP : P = []
    · have hs := hE hP
      subst hP
      rw [TP, if_pos rfl]
      have es := stepA_emp r s.2.2.2.1 e
      rw [← hs] at es
      refine RalOf_0c_of _ _ _ _ _ _ _ _ _ ?_
      unfold BalOf_0c
      rw [bif_pos (by omega), bif_pos (by omega)]
      simp only [Int.toNat_natCast, encT_0, encT_1, encT_2, he, Option.map_some, intC_int, bindO_val]
      rw [w64_in (by omega)]
      by_cases h5 : r.1 ≤ e.2.1
      · rw [if_pos h5] at es
        rw [bif_pos h5, es]
        have := ih (true, 1, e.1, e.1, -1) [(1, e.1, w64 (e.1 + r.2.2.2))] (by simp) (fun h => by simp at h)
        rw [TP, if_neg (by simp)] at this
        exact this
      · rw [if_neg h5] at es
        rw [bif_neg h5, es]
        have := ih (false, 0, 0, e.1, -1) [] (by simp) (fun _ => rfl)
        rw [TP, if_pos rfl] at this
        exact this
    · obtain ⟨pre, z, rfl⟩ := snoc_of hP
      rw [TP, if_neg hP]
      have hk : pre.length < 1000 := by simp at hn; omega
      have hlen := stepA_len r s (pre ++ [z]) e
      have := ih (stepA r (s, pre ++ [z]) e).1 (stepA r (s, pre ++ [z]) e).2 (by omega) (fun h => absurd h (hlen.2 hP))
      rw [TP, if_neg (hlen.2 hP)] at this
      refine RalOf_0b_of _ _ _ _ _ _ _ _ _ _ _ _ _ _ _ _ ?_
      rw [alb_step _ _ _ _ r l s pre z e i hi he hk, w64_in (by omega)]
      exact this
def alL (r : R4) (l : List Z3) : List Z3 := (l.foldl (stepA r) (st0, [])).2
theorem al_start (r u : R4) (l : List Z3) (hl : l.length ≤ 100) : RalOf_0 (TalOf_0a l.length (encT l) l.length u.1 u.2.1 u.2.2.1 u.2.2.2 r.1 r.2.1 r.2.2.1 r.2.2.2) = exO (XLalOf_0.fn (endP r (l.foldl (stepA r) (st0, [])))) := by
  refine RalOf_0a_of _ _ _ _ _ _ _ _ _ _ _ ?_
  unfold BalOf_0a
  cases l with
  | nil => rfl
  | cons e l =>
    have h0 : (encT (e :: l))[0]? = some (PV.int .i64 e.1) := encT_0 (e :: l) 0
    have h1 : (encT (e :: l))[1]? = some (PV.int .i64 e.2.1) := encT_1 (e :: l) 0
    have h2 : (encT (e :: l))[2]? = some (PV.int .i64 e.2.2) := encT_2 (e :: l) 0
    rw [bif_pos (by simp only [List.length_cons]; omega), bif_pos (by simp only [List.length_cons]; omega)]
    simp only [h0, h1, h2, intC_int, bindO_val]
    rw [List.foldl_cons]
    have es : stepA r (st0, []) e = _ := stepA_emp r (-1) e
    by_cases h5 : r.1 ≤ e.2.1
    · rw [if_pos h5] at es
      rw [bif_pos h5, es]
      have := al_loop r (e :: l) hl 1 (by simp) (true, 1, e.1, e.1, -1) [(1, e.1, w64 (e.1 + r.2.2.2))] (by simp) (fun h => by simp at h)
      rw [TP, if_neg (by simp)] at this
      exact this
    · rw [if_neg h5] at es
      rw [bif_neg h5, es]
      have := al_loop r (e :: l) hl 1 (by simp) (false, 0, 0, e.1, -1) [] (by simp) (fun _ => rfl)
      rw [TP, if_pos rfl] at this
      exact this
theorem alOf_is (r : R4) (l : List Z3) (hl : l.length ≤ 100) : FalOf [encR4 r, .list l.length (encT l)] = some (if both (ruleE r) (evsE l) = 0 then (((alL r l).length, encT (alL r l)), 0) else ((0, []), both (ruleE r) (evsE l))) := by
  refine FalOf_of _ _ _ _ _ _ ?_
  have hr := cRule_is r
  have hst : LalOf_0 _ = _ := lpO_of IalOf_0 XIalOf_0 (al_start r r l hl)
  obtain ⟨ra, cl, ho, ti⟩ := r
  simp only [encR4] at hr
  unfold talOf
  simp only [hr, evsE_is l (by omega), fE2_is, bindO_val, bif_ne]
  by_cases he : both (ruleE (ra, cl, ho, ti)) (evsE l) = 0
  · rw [if_pos he, if_pos he]
    have hst' : LalOf_0 (TalOf_0a l.length (encT l) l.length ra cl ho ti ra cl ho ti) = _ := hst
    rw [hst']
    unfold alL endP
    by_cases hP : (l.foldl (stepA (ra, cl, ho, ti)) (st0, [])).2 = []
    · rw [if_pos hP, hP]
      rfl
    · rw [if_neg hP]
      simp
  · rw [if_neg he, if_neg he]
def fin (r : R4) (p : St5 × List Z3) : List Z3 := if p.1.1 = true then setTo p.2 (w64 (p.1.2.2.2.1 + r.2.2.2)) else p.2
end Gv
