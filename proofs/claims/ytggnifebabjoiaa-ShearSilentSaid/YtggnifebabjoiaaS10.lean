/- Events that are all later: alerts are later by as much. -/
import Derived.Test.YtggnifebabjoiaaS8
namespace Gv
open Go
set_option maxRecDepth 100000
theorem asc_snoc : ∀ {pre : List Z3} {z : Z3} {b : Int}, Asc (pre ++ [z]) b → (∀ e ∈ pre, e.1 < z.1) ∧ eventE z = 0 ∧ b < z.1
  | [], z, b, h => ⟨by simp, h.2.1, h.1⟩
  | e :: pre, z, b, h => by
    obtain ⟨h1, h2, h3⟩ := h
    obtain ⟨k1, k2, k3⟩ := asc_snoc h3
    refine ⟨fun x hx => ?_, k2, by omega⟩
    rcases List.mem_cons.1 hx with rfl | hx
    · exact k3
    · exact k1 x hx
theorem fold_le (r : R4) (t : Int) : ∀ (l : List Z3) (s : St5), (∀ e ∈ l, e.1 ≤ t) → l.foldl (stepV r t) s = l.foldl (hearV r) s
  | [], _, _ => rfl
  | e :: l, s, h => by
    rw [List.foldl_cons, List.foldl_cons, show stepV r t s e = hearV r s e from if_pos (h e (by simp))]
    exact fold_le r t l _ fun x hx => h x (by simp [hx])
theorem at_last {r : R4} {pre : List Z3} {z : Z3} (ha : Asc (pre ++ [z]) (-1)) {t : Int} (h1 : z.1 ≤ t) (hb : t ≤ 4611686018427387904) :
    atV r (pre ++ [z]) t = (if ((pre ++ [z]).foldl (hearV r) st0).1 = true ∧ r.2.2.2 < t - z.1 then (false, ((pre ++ [z]).foldl (hearV r) st0).2.1, 0, z.1, -1) else (pre ++ [z]).foldl (hearV r) st0) ∧ ((pre ++ [z]).foldl (hearV r) st0).2.2.2.1 = z.1 := by
  obtain ⟨k1, k2, k3⟩ := asc_snoc ha
  have hz := eventE_ok k2
  have hh : ((pre ++ [z]).foldl (hearV r) st0).2.2.2.1 = z.1 := by
    rw [List.foldl_append]
    exact hearV_at _ _ _
  refine ⟨?_, hh⟩
  unfold atV
  rw [fold_le r t _ _ (fun e he => by
    rcases List.mem_append.1 he with he | he
    · have := k1 e he; omega
    · have : e = z := by simpa using he
      rw [this]; exact h1)]
  unfold passV
  rw [hh, w64_in (by omega)]
def sh (d : Int) (e : Z3) : Z3 := (e.1 + d, e.2)
def sh2 (d : Int) (z : Z3) : Z3 := (z.1, z.2.1 + d, z.2.2 + d)
def Sh (d : Int) (s s' : St5) : Prop := s'.1 = s.1 ∧ s'.2.1 = s.2.1 ∧ (s.1 = true → s'.2.2.1 = s.2.2.1 + d ∧ s'.2.2.2.1 = s.2.2.2.1 + d ∧ 0 ≤ s.2.2.2.1 ∧ s.2.2.2.1 ≤ 1000000000) ∧
  (s.2.2.2.2 = -1 ∧ s'.2.2.2.2 = -1 ∨ 0 ≤ s.2.2.2.2 ∧ s.2.2.2.2 ≤ 1000000000 ∧ s'.2.2.2.2 = s.2.2.2.2 + d) ∧ (s.1 = false → s.2.2.2.2 = -1)
theorem setTo_map (d : Int) (P : List Z3) (x : Int) : setTo (P.map (sh2 d)) (x + d) = (setTo P x).map (sh2 d) := by
  cases P with
  | nil => rfl
  | cons a P =>
    obtain ⟨pre, z, hz⟩ := snoc_of (l := a :: P) (by simp)
    rw [hz, setTo_snoc, List.map_append, List.map_append, List.map_cons, List.map_nil, setTo_snoc]
    simp [sh2]
theorem stepA_sh {r : R4} {s s' : St5} {P : List Z3} {e : Z3} {d : Int} (hr : ruleE r = 0) (hd : 0 ≤ d ∧ d ≤ 1000000) (h : Sh d s s') (he : 0 ≤ e.1 ∧ e.1 ≤ 1000000000) :
    Sh d (hearV r s e) (hearV r s' (sh d e)) ∧ (stepA r (s', P.map (sh2 d)) (sh d e)).2 = (stepA r (s, P) e).2.map (sh2 d) := by
  have hr := ruleE_ok hr
  obtain ⟨b, n, si, h0, q⟩ := s
  obtain ⟨b', n', si', h0', q'⟩ := s'
  obtain ⟨ra, cl, ho, ti⟩ := r
  obtain ⟨at_, lo, hi⟩ := e
  obtain ⟨e1, e2, e3, e4, e5⟩ := h
  simp only at hr he e1 e2 e3 e4 e5
  subst e1
  subst e2
  have v1 : w64 (at_ + d + ti) = w64 (at_ + ti) + d := by rw [w64_in (by omega), w64_in (by omega)]; omega
  have v2 : w64 (at_ + d - 1) = w64 (at_ - 1) + d := by rw [w64_in (by omega), w64_in (by omega)]; omega
  have v3 : w64 (at_ + d - (at_ + d)) = w64 (at_ - at_) := by rw [w64_in (by omega), w64_in (by omega)]; omega
  have mp : ∀ (m t : Int), P.map (sh2 d) ++ [(m, at_ + d, w64 (at_ + ti) + d)] = (P ++ [(m, at_, w64 (at_ + ti))]).map (sh2 d) := fun m t => by simp [sh2]
  have mp0 := fun m => mp m 0
  cases b' with
  | true =>
    obtain ⟨f1, f2, f3, f4⟩ := e3 rfl
    subst f1
    subst f2
    have v4 : w64 (at_ + d - (h0 + d)) = w64 (at_ - h0) := by rw [w64_in (by omega), w64_in (by omega)]; omega
    by_cases g0 : ti < w64 (at_ - h0)
    · by_cases g5 : ra ≤ lo
      · simp [-Int.sub_self, -List.map_append, Sh, stepA, sh, hearV, hear3, hear2, passV, v1, v4, g0, g5, mp0, he]
      · simp [-Int.sub_self, -List.map_append, Sh, stepA, sh, hearV, hear3, hear2, passV, v1, v4, g0, g5]
    · by_cases g1 : cl ≤ hi
      · simp [-Int.sub_self, -List.map_append, Sh, stepA, sh, hearV, hear3, hear2, listenV, passV, v1, v4, g0, g1, setTo_map, he]
      · rcases e4 with ⟨q1, q2⟩ | ⟨q1, q2, q3⟩
        · subst q1
          subst q2
          by_cases g3 : ho ≤ w64 (at_ - at_)
          · by_cases g5 : ra ≤ lo
            · simp [-Int.sub_self, -List.map_append, Sh, stepA, sh, hearV, hear3, hear2, listenV, passV, v1, v2, v3, v4, g0, g1, g3, g5, setTo_map, he]
            · simp [-Int.sub_self, -List.map_append, Sh, stepA, sh, hearV, hear3, hear2, listenV, passV, v1, v2, v3, v4, g0, g1, g3, g5, setTo_map]
          · simp [-Int.sub_self, -List.map_append, Sh, stepA, sh, hearV, hear3, hear2, listenV, passV, v1, v2, v3, v4, g0, g1, g3, setTo_map, he]
        · subst q3
          have v5 : w64 (at_ + d - (q + d)) = w64 (at_ - q) := by rw [w64_in (by omega), w64_in (by omega)]; omega
          have z1 : ¬ q = -1 := by omega
          have z2 : ¬ q + d = -1 := by omega
          by_cases g3 : ho ≤ w64 (at_ - q)
          · by_cases g5 : ra ≤ lo
            · simp [-Int.sub_self, -List.map_append, Sh, stepA, sh, hearV, hear3, hear2, listenV, passV, v1, v2, v5, v4, g0, g1, g3, g5, z1, z2, setTo_map, he]
            · simp [-Int.sub_self, -List.map_append, Sh, stepA, sh, hearV, hear3, hear2, listenV, passV, v1, v2, v5, v4, g0, g1, g3, g5, z1, z2, setTo_map]
          · simp [-Int.sub_self, -List.map_append, Sh, stepA, sh, hearV, hear3, hear2, listenV, passV, v1, v2, v5, v4, g0, g1, g3, z1, z2, setTo_map, he, q1, q2]
  | false =>
    have q1 := e5 rfl
    subst q1
    have q2 : q' = -1 := by omega
    subst q2
    by_cases g5 : ra ≤ lo
    · simp [-Int.sub_self, -List.map_append, Sh, stepA, sh, hearV, hear3, hear2, passV, v1, g5, mp0, he]
    · simp [-Int.sub_self, -List.map_append, Sh, stepA, sh, hearV, hear3, hear2, passV, g5]
theorem al_sh {r : R4} {d : Int} (hr : ruleE r = 0) (hd : 0 ≤ d ∧ d ≤ 1000000) : ∀ (l : List Z3) (s s' : St5) (P : List Z3), Sh d s s' → (∀ e ∈ l, 0 ≤ e.1 ∧ e.1 ≤ 1000000000) →
    ((l.map (sh d)).foldl (stepA r) (s', P.map (sh2 d))).2 = (l.foldl (stepA r) (s, P)).2.map (sh2 d)
  | [], _, _, _, _, _ => rfl
  | e :: l, s, s', P, h, hl => by
    obtain ⟨h1, h2⟩ := stepA_sh (P := P) hr hd h (hl e (by simp))
    rw [List.map_cons, List.foldl_cons, List.foldl_cons]
    have e1 : stepA r (s', P.map (sh2 d)) (sh d e) = (hearV r s' (sh d e), (stepA r (s, P) e).2.map (sh2 d)) := by rw [← h2]; rfl
    have e2 : stepA r (s, P) e = (hearV r s e, (stepA r (s, P) e).2) := rfl
    rw [e1, e2]
    exact al_sh hr hd l _ _ _ h1 fun x hx => hl x (by simp [hx])
theorem alL_sh {r : R4} {d : Int} (hr : ruleE r = 0) (hd : 0 ≤ d ∧ d ≤ 1000000) {l : List Z3} (hl : ∀ e ∈ l, 0 ≤ e.1 ∧ e.1 ≤ 1000000000) : alL r (l.map (sh d)) = (alL r l).map (sh2 d) :=
  al_sh hr hd l st0 st0 [] ⟨rfl, rfl, fun h => by simp [st0] at h, .inl ⟨rfl, rfl⟩, fun _ => rfl⟩ hl
theorem asc_sh {d : Int} (hd : 0 ≤ d ∧ d ≤ 1000000) : ∀ {l : List Z3} {b c : Int}, Asc l b → c ≤ b + d → (∀ e ∈ l, e.1 ≤ 1000000000) → Asc (l.map (sh d)) c
  | [], _, _, _, _, _ => trivial
  | e :: l, b, c, h, hc, hl => by
    obtain ⟨h1, h2, h3⟩ := h
    have he := eventE_ok h2
    have hm := hl e (by simp)
    refine ⟨by simp only [sh]; omega, ?_, asc_sh hd h3 (by simp only [sh]; omega) fun x hx => hl x (by simp [hx])⟩
    unfold eventE sh
    obtain ⟨p1, p2⟩ := both_nil h2
    rw [rangeE_in (by omega), both_zero rfl]
    exact p2
theorem evF_none : ∀ {l : List Z3} {b : Int} {i : Nat}, Asc l b → evF l b i = none
  | [], _, _, _ => rfl
  | e :: l, b, i, h => by
    obtain ⟨h1, h2, h3⟩ := h
    simp only [evF]
    rw [if_neg (by simpa using h2), if_neg (by omega)]
    exact evF_none h3
theorem evsE_asc {l : List Z3} (h : Asc l (-1)) (hl : l.length ≤ 40) : evsE l = 0 := by
  unfold evsE evsV
  rw [if_neg (by omega), evF_none h]
  rfl
end Gv
