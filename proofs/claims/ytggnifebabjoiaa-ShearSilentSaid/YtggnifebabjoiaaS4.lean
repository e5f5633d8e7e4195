/- The state at a tick; the program's and the specification's. -/
import Derived.Test.YtggnifebabjoiaaS3
namespace Gv
open Go
set_option maxRecDepth 100000
def stepV (r : R4) (t : Int) (s : St5) (e : Z3) : St5 := if e.1 ≤ t then hearV r s e else s
theorem sAt_step (F : FnT) (N : QO) (E : EO) (L0 : Q → Option YsAt_0) (r : R4) (t : Int) (l : List Z3) (s : St5) (e : Z3) (i : Nat) (hi : i < l.length) (he : l[i]? = some e) :
    BsAt_0b F N E L0 t l.length (encT l) l.length i r.1 r.2.1 r.2.2.1 r.2.2.2 s.1 s.2.1 s.2.2.1 s.2.2.2.1 s.2.2.2.2 =
    N (TsAt_0b t l.length (encT l) l.length (w64 (i + 1)) r.1 r.2.1 r.2.2.1 r.2.2.2 (stepV r t s e).1 (stepV r t s e).2.1 (stepV r t s e).2.2.1 (stepV r t s e).2.2.2.1 (stepV r t s e).2.2.2.2) := by
  unfold BsAt_0b
  rw [bif_pos (by omega), bif_pos (by omega)]
  simp only [Int.toNat_natCast, encT_0, encT_1, encT_2, he, Option.map_some, intC_int, bindO_val]
  obtain ⟨b, n, si, h, q⟩ := s
  obtain ⟨ra, cl, ho, ti⟩ := r
  obtain ⟨at_, lo, hi⟩ := e
  unfold stepV
  by_cases ht : at_ ≤ t
  · unfold hearV hear3 hear2 listenV passV
    cases b with
    | true =>
      by_cases h0 : w64 (at_ - h) > ti
      · by_cases h5 : lo ≥ ra <;> simp [-Int.sub_self, bif_eq, ht, h0, h5]
      · by_cases h1 : hi ≥ cl
        · simp [-Int.sub_self, bif_eq, ht, h0, h1]
        · by_cases h2 : q = -1
          · by_cases h3 : w64 (at_ - at_) ≥ ho <;> by_cases h5 : lo ≥ ra <;> simp [-Int.sub_self, bif_eq, ht, h0, h1, h2, h3, h5]
          · by_cases h4 : w64 (at_ - q) ≥ ho <;> by_cases h5 : lo ≥ ra <;> simp [-Int.sub_self, bif_eq, ht, h0, h1, h2, h4, h5]
    | false =>
      by_cases h5 : lo ≥ ra <;> simp [-Int.sub_self, bif_eq, ht, h5]
  · simp [ht]
theorem sAt_loop (r : R4) (t : Int) (l : List Z3) (hl : l.length < 1000) : ∀ i, i ≤ l.length → ∀ s : St5,
    RsAt_0 (TsAt_0b t l.length (encT l) l.length i r.1 r.2.1 r.2.2.1 r.2.2.2 s.1 s.2.1 s.2.2.1 s.2.2.2.1 s.2.2.2.2) =
    exO (XsAt_0a (t, r.1, r.2.1, r.2.2.1, r.2.2.2, (l.drop i).foldl (stepV r t) s)) := by
  refine up_ind _ ?_ ?_
  · intro s
    refine RsAt_0b_of _ _ _ _ _ _ _ _ _ _ _ _ _ _ ?_
    unfold BsAt_0b
    rw [bif_neg (by omega), List.drop_length]
    rfl
  · intro i hi ih s
    obtain ⟨e, he, hd⟩ := get_drop hi
    refine RsAt_0b_of _ _ _ _ _ _ _ _ _ _ _ _ _ _ ?_
    rw [sAt_step _ _ _ _ r t l s e i hi he, hd, w64_in (by omega)]
    exact ih _
def st0 : St5 := (false, 0, 0, -1, -1)
theorem sAt_start (r : R4) (t : Int) (l : List Z3) (hl : l.length < 1000) (u : R4) :
    RsAt_0 (TsAt_0a t l.length (encT l) l.length u.1 u.2.1 u.2.2.1 u.2.2.2 r.1 r.2.1 r.2.2.1 r.2.2.2) = exO (XsAt_0a (t, r.1, r.2.1, r.2.2.1, r.2.2.2, l.foldl (stepV r t) st0)) := by
  refine RsAt_0a_of _ _ _ _ _ _ _ _ _ _ _ _ ?_
  unfold BsAt_0a
  cases l with
  | nil => rfl
  | cons e l =>
    have ih := sAt_loop r t (e :: l) hl 1 (by simp) (stepV r t st0 e)
    have h0 : (encT (e :: l))[0]? = some (PV.int .i64 e.1) := encT_0 (e :: l) 0
    have h1 : (encT (e :: l))[1]? = some (PV.int .i64 e.2.1) := encT_1 (e :: l) 0
    have h2 : (encT (e :: l))[2]? = some (PV.int .i64 e.2.2) := encT_2 (e :: l) 0
    rw [bif_pos (by simp only [List.length_cons]; omega), bif_pos (by simp only [List.length_cons]; omega)]
    simp only [h0, h1, h2, intC_int, bindO_val]
    rw [List.foldl_cons]
    obtain ⟨ra, cl, ho, ti⟩ := r
    obtain ⟨at_, lo, hi⟩ := e
    have e1 : w64 1 = 1 := w64_in (by omega)
    by_cases ht : at_ ≤ t
    · by_cases h5 : ra ≤ lo
      · have es : stepV (ra, cl, ho, ti) t st0 (at_, lo, hi) = (true, 1, at_, at_, -1) := by
          simp [stepV, ht, hearV, hear3, hear2, passV, st0, h5, e1]
        rw [es] at ih ⊢
        rw [bif_pos ht, bif_pos (show lo ≥ ra from h5)]
        exact ih
      · have es : stepV (ra, cl, ho, ti) t st0 (at_, lo, hi) = (false, 0, 0, at_, -1) := by
          simp [stepV, ht, hearV, hear3, hear2, passV, st0, h5]
        rw [es] at ih ⊢
        rw [bif_pos ht, bif_neg (show ¬ lo ≥ ra from h5)]
        exact ih
    · have es : stepV (ra, cl, ho, ti) t st0 (at_, lo, hi) = st0 := by simp [stepV, ht]
      rw [es] at ih ⊢
      rw [bif_neg ht]
      exact ih
def evF : List Z3 → Int → Nat → Option (Int × Int)
  | [], _, _ => none
  | e :: l, b, i => if eventE e ≠ 0 then some ((i : Int), eventE e) else if e.1 ≤ b then some ((i : Int), 9) else evF l e.1 (i + 1)
def evsV (l : List Z3) : Int × Int := if 40 < l.length then (0, 8) else (evF l (-1) 0).getD (0, 0)
theorem cE_loop (l : List Z3) (hl : l.length < 1000) : ∀ i, i ≤ l.length → ∀ b : Int,
    ∃ c : Int, RcE_1210000000 (TcE_1210000000a l.length (encT l) l.length i b) = exO (XLcE_1210000000.fn (match evF (l.drop i) b i with | some p => .inl (p.1, p.2, c) | none => .inr c)) := by
  refine up_ind _ ?_ ?_
  · intro b
    refine ⟨b, RcE_1210000000a_of _ _ _ _ _ ?_⟩
    unfold BcE_1210000000a
    rw [bif_neg (by omega), List.drop_length]
    rfl
  · intro i hi ih b
    obtain ⟨e, he, hd⟩ := get_drop hi
    obtain ⟨c, hc⟩ := ih e.1
    have go : ∀ c : Int, BcE_1210000000a (Fn env) RcE_1210000000 exO LcE_1210000000 l.length (encT l) l.length i b = (if both (eventE e) (if e.1 ≤ b then 9 else 0) = 0 then RcE_1210000000 (TcE_1210000000a l.length (encT l) l.length ((i + 1 : Nat) : Int) e.1) else exO (XcE_1210000000a ((i : Int), both (eventE e) (if e.1 ≤ b then 9 else 0), e.1))) := by
      intro c
      unfold BcE_1210000000a
      rw [bif_pos (by omega), bif_pos (by omega)]
      have hev : FevE [.agg [.int .i64 e.1, .int .i64 e.2.1, .int .i64 e.2.2]] = some (eventE e) := evE_is e
      simp only [Int.toNat_natCast, encT_0, encT_1, encT_2, he, Option.map_some, intC_int, bindO_val, hev, eIf_is, fE2_is, bif_dec, bif_ne]
      rw [w64_in (by omega)]
      by_cases h1 : e.1 ≤ b
      · simp only [h1, if_true]; rfl
      · simp only [h1, if_false, Bool.false_eq_true]; rfl
    rw [hd]
    simp only [evF]
    by_cases h1 : eventE e = 0
    · by_cases h2 : e.1 ≤ b
      · refine ⟨e.1, RcE_1210000000a_of _ _ _ _ _ ?_⟩
        rw [go 0]
        simp only [h1, h2, both, ne_eq, not_true_eq_false, if_true, if_false]
        rfl
      · refine ⟨c, RcE_1210000000a_of _ _ _ _ _ ?_⟩
        rw [go 0]
        simp only [h1, h2, both, ne_eq, not_true_eq_false, if_true, if_false]
        exact hc
    · refine ⟨e.1, RcE_1210000000a_of _ _ _ _ _ ?_⟩
      rw [go 0]
      simp only [h1, both, ne_eq, not_false_eq_true, if_true, if_false]
      rfl
theorem cE_is (l : List Z3) (hl : l.length < 1000) : FcE [.list l.length (encT l)] = some (evsV l) := by
  refine FcE_of _ _ ?_
  unfold tcE evsV
  by_cases hc : 40 < l.length
  · rw [bif_pos (by omega), if_pos hc]
  · rw [bif_neg (by omega), if_neg hc]
    obtain ⟨c, h⟩ := cE_loop l hl 0 (by omega) (-1)
    have h' : LcE_1210000000 (TcE_1210000000a l.length (encT l) l.length 0 (-1)) = _ := lpO_of IcE_1210000000 XIcE_1210000000 h
    rw [List.drop_zero] at h'
    rw [h']
    cases evF l (-1) 0 <;> rfl
def evsE (l : List Z3) : Int := (evsV l).2
theorem evsE_is (l : List Z3) (hl : l.length < 1000) : FevsE [.list l.length (encT l)] = some (evsE l) := by
  refine FevsE_of _ _ ?_
  unfold tevsE
  simp only [cE_is l hl, bindO_val]
  rfl
def sAtE (r : R4) (l : List Z3) (t : Int) : Int := first3 (ruleE r) (evsE l) (rangeE t 0 1000000000000)
def atV (r : R4) (l : List Z3) (t : Int) : St5 := passV r (l.foldl (stepV r t) st0) t
theorem sAt_is (r : R4) (l : List Z3) (t : Int) (hl : l.length < 1000) : FsAt [encR4 r, .list l.length (encT l), .int .i64 t] = some (if sAtE r l t = 0 then flat6 (atV r l t) 0 else zero6 (sAtE r l t)) := by
  refine FsAt_of _ _ _ _ _ _ _ ?_
  have hr := cRule_is r
  have hst := LsAt_0a_of (sAt_start r t l hl r)
  obtain ⟨ra, cl, ho, ti⟩ := r
  simp only [encR4] at hr
  unfold tsAt
  simp only [hr, evsE_is l hl, rE_is, fE3_is, bindO_val, bif_ne]
  show (if sAtE (ra, cl, ho, ti) l t = 0 then _ else _) = _
  by_cases he : sAtE (ra, cl, ho, ti) l t = 0
  · rw [if_pos he, if_pos he]
    unfold sAtE at he
    rw [hst]
    simp only [bindO_val]
    unfold atV
    generalize l.foldl (stepV (ra, cl, ho, ti) t) st0 = s
    obtain ⟨b, n, si, h, q⟩ := s
    unfold passV
    cases b with
    | true => by_cases h0 : w64 (t - h) > ti <;> simp [h0]
    | false => simp
  · rw [if_neg he, if_neg he]
    rfl
end Gv
