/- All alerts: the program's. -/
import Derived.Test.YtggnifebabjoiaaS5
import Derived.Test.YtggnifebabjoiaaP3b
namespace Gv
open Go
set_option maxRecDepth 100000
def setTo : List Z3 → Int → List Z3
  | [], _ => []
  | [z], x => [(z.1, z.2.1, x)]
  | z :: w :: l, x => z :: setTo (w :: l) x
theorem setTo_snoc : ∀ (pre : List Z3) (z : Z3) (x : Int), setTo (pre ++ [z]) x = pre ++ [(z.1, z.2.1, x)]
  | [], _, _ => rfl
  | [_], _, _ => rfl
  | a :: b :: pre, z, x => by
    have := setTo_snoc (b :: pre) z x
    simp only [List.cons_append, setTo] at *
    rw [this]
theorem snoc_of {l : List Z3} (h : l ≠ []) : ∃ pre z, l = pre ++ [z] := ⟨l.dropLast, l.getLast h, (List.dropLast_concat_getLast h).symm⟩
theorem setTo_ne {l : List Z3} {x : Int} (h : l ≠ []) : setTo l x ≠ [] := by
  obtain ⟨pre, z, rfl⟩ := snoc_of h
  rw [setTo_snoc]
  simp
theorem over_last (pre : List Z3) (z : Z3) (x : Int) : over (encT (pre ++ [z])) (pre.length * 3 + 2) [.int .i64 x] = encT (pre ++ [(z.1, z.2.1, x)]) := by
  unfold over
  have e : encT (pre ++ [z]) = (encT pre ++ [PV.int .i64 z.1, .int .i64 z.2.1]) ++ [.int .i64 z.2.2] := by simp [encT, enc3]
  have hl : (encT pre ++ [PV.int .i64 z.1, .int .i64 z.2.1]).length = pre.length * 3 + 2 := by simp [encT_len]
  rw [e, List.take_left' hl, List.drop_of_length_le (by rw [List.length_append, hl]; simp)]
  simp [encT, enc3]
theorem overO_last (pre : List Z3) (z : Z3) (x : Int) : overO (encT (pre ++ [z])) (pre.length * 3 + 2) [.int .i64 x] = some (encT (pre ++ [(z.1, z.2.1, x)])) := by
  rw [overO_of (by rw [encT_len]; simp; omega), over_last]
def stepA (r : R4) (p : St5 × List Z3) (e : Z3) : St5 × List Z3 :=
  (hearV r p.1 e, if (passV r p.1 e.1).1 = true then (if (hearV r p.1 e).1 = true then setTo p.2 (w64 (e.1 + r.2.2.2)) else setTo p.2 (w64 (e.1 - 1)))
    else (if (hearV r p.1 e).1 = true then p.2 ++ [((hearV r p.1 e).2.1, e.1, w64 (e.1 + r.2.2.2))] else p.2))
abbrev TB (r : R4) (l : List Z3) (i : Int) (s : St5) (P : List Z3) : Q := TalOf_0b P.length l.length (encT l) l.length i r.1 r.2.1 r.2.2.1 r.2.2.2 s.1 s.2.1 s.2.2.1 s.2.2.2.1 s.2.2.2.2 P.length (encT P)
theorem alb_step (F : FnT) (N : QO) (E : EO) (L0 : Q → Option YalOf_0) (r : R4) (l : List Z3) (s : St5) (pre : List Z3) (z e : Z3) (i : Nat) (hi : i < l.length) (he : l[i]? = some e) (hk : pre.length < 1000) :
    BalOf_0b F N E L0 (pre ++ [z]).length l.length (encT l) l.length i r.1 r.2.1 r.2.2.1 r.2.2.2 s.1 s.2.1 s.2.2.1 s.2.2.2.1 s.2.2.2.2 (pre ++ [z]).length (encT (pre ++ [z])) =
    N (TB r l (w64 (i + 1)) (stepA r (s, pre ++ [z]) e).1 (stepA r (s, pre ++ [z]) e).2) := by
  unfold BalOf_0b
  rw [bif_pos (by omega), bif_pos (by omega)]
  simp only [Int.toNat_natCast, encT_0, encT_1, encT_2, he, Option.map_some, intC_int, bindO_val]
  obtain ⟨b, n, si, h, q⟩ := s
  obtain ⟨ra, cl, ho, ti⟩ := r
  obtain ⟨at_, lo, hi⟩ := e
  have hlen : (pre ++ [z]).length = pre.length + 1 := by simp
  have a1 : w64 (((pre ++ [z]).length : Int) - 1) = (pre.length : Int) := by rw [w64_in (by omega)]; omega
  have a2 : w64 ((((pre ++ [z]).length : Int) + 1) - 1) = ((pre ++ [z]).length : Int) := by rw [w64_in (by omega)]; omega
  have c1 : (0 : Int) ≤ (pre.length : Int) ∧ (pre.length : Int) < ((pre ++ [z]).length : Int) := by omega
  have c2 : (0 : Int) ≤ ((pre ++ [z]).length : Int) ∧ ((pre ++ [z]).length : Int) < ((pre ++ [z]).length : Int) + 1 := by omega
  have c0 : (pre ++ [z]).length = (pre ++ [z]).length ∧ (pre ++ [z]).length + 1 ≤ big := ⟨rfl, by unfold big; omega⟩
  have o1 : ∀ x, overO (encT (pre ++ [z])) (pre.length * 3 + 2) [.int .i64 x] = some (encT (pre ++ [(z.1, z.2.1, x)])) := overO_last pre z
  have o2 : ∀ m t u x : Int, overO (encT (pre ++ [z]) ++ [.int .i64 m, .int .i64 t, .int .i64 u]) ((pre ++ [z]).length * 3 + 2) [.int .i64 x] = some (encT (pre ++ [z] ++ [(m, t, x)])) := fun m t u x => by
    rw [encT_snoc _ (m, t, u)]
    exact overO_last (pre ++ [z]) (m, t, u) x
  have sl : ∀ x, (pre ++ [(z.1, z.2.1, x)]).length = (pre ++ [z]).length := fun x => by simp
  have sl2 : ∀ w : Z3, (pre ++ [z] ++ [w]).length = (pre ++ [z]).length + 1 := fun w => by simp
  have st : ∀ x, setTo (pre ++ [z]) x = pre ++ [(z.1, z.2.1, x)] := setTo_snoc pre z
  generalize hP : pre ++ [z] = P at *
  have fin : ∀ (s' : St5) (P' : List Z3) (T : Option (Ext × S)), stepA (ra, cl, ho, ti) ((b, n, si, h, q), P) (at_, lo, hi) = (s', P') → T = N (TB (ra, cl, ho, ti) l (w64 (i + 1)) s' P') → T = N (TB (ra, cl, ho, ti) l (w64 (i + 1)) (stepA (ra, cl, ho, ti) ((b, n, si, h, q), P) (at_, lo, hi)).1 (stepA (ra, cl, ho, ti) ((b, n, si, h, q), P) (at_, lo, hi)).2) := fun s' P' T h1 h2 => by rw [h1]; exact h2
  cases b with
  | true =>
    by_cases h0 : w64 (at_ - h) > ti
    · by_cases h5 : lo ≥ ra
      · refine fin (true, w64 (n + 1), at_, at_, -1) (P ++ [(w64 (n + 1), at_, w64 (at_ + ti))]) _ (by simp [stepA, hearV, hear3, hear2, passV, h0, h5]) ?_
        simp only [cond_true, bif_dec, h0, h5, if_true, c0, a2, c2, and_self, Int.toNat_natCast, o2, bindO_val, TB, sl2]
      · refine fin (false, n, 0, at_, -1) P _ (by simp [stepA, hearV, hear3, hear2, passV, h0, h5]) ?_
        simp only [cond_true, bif_dec, h0, h5, if_true, if_false, TB]
    · by_cases h1 : hi ≥ cl
      · refine fin (true, n, si, at_, -1) (pre ++ [(z.1, z.2.1, w64 (at_ + ti))]) _ (by simp [stepA, hearV, hear3, hear2, listenV, passV, h0, h1, st]) ?_
        simp only [cond_true, bif_dec, h0, h1, if_true, if_false, a1, c1, and_self, Int.toNat_natCast, o1, bindO_val, TB, sl]
      · by_cases h2 : q = -1
        · by_cases h3 : w64 (at_ - at_) ≥ ho
          · by_cases h5 : lo ≥ ra
            · refine fin (true, w64 (n + 1), at_, at_, -1) (pre ++ [(z.1, z.2.1, w64 (at_ + ti))]) _ (by simp [-Int.sub_self, stepA, hearV, hear3, hear2, listenV, passV, h0, h1, h2, h3, h5, st]) ?_
              simp only [cond_true, bif_dec, bif_eq, h0, h1, h2, h3, h5, if_true, if_false, a1, c1, and_self, Int.toNat_natCast, o1, bindO_val, TB, sl]
            · refine fin (false, n, 0, at_, -1) (pre ++ [(z.1, z.2.1, w64 (at_ - 1))]) _ (by simp [-Int.sub_self, stepA, hearV, hear3, hear2, listenV, passV, h0, h1, h2, h3, h5, st]) ?_
              simp only [cond_true, bif_dec, bif_eq, h0, h1, h2, h3, h5, if_true, if_false, a1, c1, and_self, Int.toNat_natCast, o1, bindO_val, TB, sl]
          · refine fin (true, n, si, at_, at_) (pre ++ [(z.1, z.2.1, w64 (at_ + ti))]) _ (by simp [-Int.sub_self, stepA, hearV, hear3, hear2, listenV, passV, h0, h1, h2, h3, st]) ?_
            simp only [cond_true, bif_dec, bif_eq, h0, h1, h2, h3, if_true, if_false, a1, c1, and_self, Int.toNat_natCast, o1, bindO_val, TB, sl]
        · by_cases h3 : w64 (at_ - q) ≥ ho
          · by_cases h5 : lo ≥ ra
            · refine fin (true, w64 (n + 1), at_, at_, -1) (pre ++ [(z.1, z.2.1, w64 (at_ + ti))]) _ (by simp [stepA, hearV, hear3, hear2, listenV, passV, h0, h1, h2, h3, h5, st]) ?_
              simp only [cond_true, bif_dec, bif_eq, h0, h1, h2, h3, h5, if_true, if_false, a1, c1, and_self, Int.toNat_natCast, o1, bindO_val, TB, sl]
            · refine fin (false, n, 0, at_, -1) (pre ++ [(z.1, z.2.1, w64 (at_ - 1))]) _ (by simp [stepA, hearV, hear3, hear2, listenV, passV, h0, h1, h2, h3, h5, st]) ?_
              simp only [cond_true, bif_dec, bif_eq, h0, h1, h2, h3, h5, if_true, if_false, a1, c1, and_self, Int.toNat_natCast, o1, bindO_val, TB, sl]
          · refine fin (true, n, si, at_, q) (pre ++ [(z.1, z.2.1, w64 (at_ + ti))]) _ (by simp [stepA, hearV, hear3, hear2, listenV, passV, h0, h1, h2, h3, st]) ?_
            simp only [cond_true, bif_dec, bif_eq, h0, h1, h2, h3, if_true, if_false, a1, c1, and_self, Int.toNat_natCast, o1, bindO_val, TB, sl]
  | false =>
    by_cases h5 : lo ≥ ra
    · refine fin (true, w64 (n + 1), at_, at_, q) (P ++ [(w64 (n + 1), at_, w64 (at_ + ti))]) _ (by simp [stepA, hearV, hear3, hear2, passV, h5]) ?_
      simp only [cond_true, cond_false, bif_dec, h5, if_true, c0, a2, c2, and_self, Int.toNat_natCast, o2, bindO_val, TB, sl2]
    · refine fin (false, n, si, at_, q) P _ (by simp [stepA, hearV, hear3, hear2, passV, h5]) ?_
      simp only [cond_true, cond_false, bif_dec, h5, if_true, if_false, TB]
end Gv
