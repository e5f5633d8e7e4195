import Derived.Test.YtggnifebabjoiaaS14
import Derived.Test.YtggnifebabjoiaaS12

/- The greatest pair of gates: the program's scan; the possible loss. -/
namespace Gv
open Go
set_option maxRecDepth 100000
theorem rowP_mem (l : List Z3) (len : Int) (i : Nat) : ∀ m k, ∀ p ∈ rowP l len i m k, p.1 = i ∧ k ≤ p.2 ∧ p.2 < k + m
  | 0, _, p, hp => by simp [rowP] at hp
  | m + 1, k, p, hp => by
    simp only [rowP] at hp
    split at hp
    · rcases List.mem_cons.1 hp with rfl | hp
      · exact ⟨rfl, Nat.le_refl _, by dsimp only; omega⟩
      · have := rowP_mem l len i m (k + 1) p hp; omega
    · have := rowP_mem l len i m (k + 1) p hp; omega
theorem prsP_mem (l : List Z3) (len : Int) : ∀ m i, i + m ≤ l.length → ∀ p ∈ prsP l len m i, p.1 < l.length ∧ p.2 < l.length ∧ p.1 < p.2
  | 0, _, _, p, hp => by simp [prsP] at hp
  | m + 1, i, hm, p, hp => by
    simp only [prsP] at hp
    rcases List.mem_append.1 hp with hp | hp
    · have := rowP_mem l len i _ _ p hp; omega
    · exact prsP_mem l len m (i + 1) (by omega) p hp
def gainV (a b : Z3) : ZZ := oppV (lossV a b)
theorem chg_is {e f : Z3} (h1 : gateE e = 0) (h2 : gateE f = 0) : Fchg [.agg [.int .i64 e.1, .int .i64 e.2.1, .int .i64 e.2.2], .agg [.int .i64 f.1, .int .i64 f.2.1, .int .i64 f.2.2]] = some (gainV e f) := by
  have b1 := gateE_ok h1
  have b2 := gateE_ok h2
  refine Fchg_of _ _ _ _ _ _ ?_
  unfold tchg gainV oppV lossV
  rw [w64_in (by omega), w64_in (by omega)]
  dsimp only
  rw [Int.neg_sub, Int.neg_sub]
theorem loss_is {e f : Z3} (h1 : gateE e = 0) (h2 : gateE f = 0) : Floss [.agg [.int .i64 e.1, .int .i64 e.2.1, .int .i64 e.2.2], .agg [.int .i64 f.1, .int .i64 f.2.1, .int .i64 f.2.2]] = some (lossV e f) := by
  have b1 := gateE_ok h1
  have b2 := gateE_ok h2
  refine Floss_of _ _ _ _ _ _ ?_
  unfold tloss
  have hc := chg_is h1 h2
  have e1 : (gainV e f).1 = f.2.1 - e.2.2 := by unfold gainV oppV lossV; dsimp only; omega
  have e2 : (gainV e f).2 = f.2.2 - e.2.1 := by unfold gainV oppV lossV; dsimp only; omega
  simp only [hc, bindO_val, times_is, e1, e2]
  rw [w64_in (by omega), w64_in (by omega)]
  unfold mn mx lossV
  congr 1
  refine Prod.ext ?_ ?_
  · dsimp only; split <;> omega
  · dsimp only; split <;> omega
theorem lowr_is (a b : Int) : Flowr [.agg [.int .i64 a, .int .i64 b]] = some a := Flowr_of _ _ rfl
theorem uppr_is (a b : Int) : Fuppr [.agg [.int .i64 a, .int .i64 b]] = some b := Fuppr_of _ _ rfl
def keyV (up : Bool) (r : ZZ) : Int := if up = true then r.2 else r.1
def gS (l : List Z3) (gain up : Bool) (s : Bst) (p : Nat × Nat) : Bst :=
  if s.1 = false ∨ keyV up s.2.2.2 < keyV up (chV gain (gtA l p.1) (gtA l p.2)) then (true, (p.1 : Int), (p.2 : Int), (chV gain (gtA l p.1) (gtA l p.2)).1, (chV gain (gtA l p.1) (gtA l p.2)).2) else s
def fndE (b : Bool) : Int := if b = true then 0 else 12
def gV (l : List Z3) (len : Int) (gain up : Bool) : Bst := (prsP l len l.length 0).foldl (gS l gain up) (false, 0, 0, 0, 0)
def strE (l : List Z3) (len : Int) : Int := both (gtsE l) (rangeE len 0 50000)
theorem encP_0 (P : List (Nat × Nat)) (i : Nat) : (encP P)[i * 2 + 0]? = P[i]?.map fun p => PV.int .i64 (p.1 : Int) := by
  unfold encP
  rw [Nat.add_zero, encG_0, List.getElem?_map]
  cases P[i]? <;> rfl
theorem encP_1 (P : List (Nat × Nat)) (i : Nat) : (encP P)[i * 2 + 1]? = P[i]?.map fun p => PV.int .i64 (p.2 : Int) := by
  unfold encP
  rw [encG_1, List.getElem?_map]
  cases P[i]? <;> rfl
theorem gLo_loop (l : List Z3) (b : Int) (ha : AscG l b) (hl : l.length ≤ 20) (P : List (Nat × Nat)) (hn : P.length ≤ 400) (hP : ∀ p ∈ P, p.1 < l.length ∧ p.2 < l.length ∧ p.1 < p.2) : ∀ i, i ≤ P.length → ∀ s : Bst,
    RgLo_3000060 (TgLo_3000060a P.length (encP P) i l.length (encT l) s.2.1 s.2.2.1 s.2.2.2.1 s.2.2.2.2 (fndE s.1)) =
      exO (XgLo_3000060a (l.length, encT l, ((P.drop i).foldl (gS l false false) s).2.1, ((P.drop i).foldl (gS l false false) s).2.2.1, ((P.drop i).foldl (gS l false false) s).2.2.2.1, ((P.drop i).foldl (gS l false false) s).2.2.2.2, fndE ((P.drop i).foldl (gS l false false) s).1)) := by
  refine up_ind _ ?_ ?_
  · intro s
    refine RgLo_3000060a_of _ _ _ _ _ _ _ _ _ _ ?_
    unfold BgLo_3000060a
    rw [bif_neg (by omega), List.drop_length]
    rfl
  · intro i hi ih s
    obtain ⟨p, he, hd⟩ := get_drop hi
    obtain ⟨h1, h2, _⟩ := hP p (List.mem_of_getElem? he)
    have e1 := List.getElem?_eq_getElem h1
    have e2 := List.getElem?_eq_getElem h2
    have w1 : w64 ((i : Int) + 1) = ((i + 1 : Nat) : Int) := by rw [w64_in (by omega)]; omega
    have g1 := gtA_of e1
    have g2 := gtA_of e2
    have hr := loss_is (asc_low ha e1).2 (asc_low ha e2).2
    have hv : chV false l[p.1] l[p.2] = lossV (l[p.1]) (l[p.2]) := rfl
    rw [hd, List.foldl_cons]
    have hs : gS l false false s p = if s.1 = false ∨ keyV false s.2.2.2 < keyV false (lossV (l[p.1]) (l[p.2])) then (true, (p.1 : Int), (p.2 : Int), (lossV (l[p.1]) (l[p.2])).1, (lossV (l[p.1]) (l[p.2])).2) else s := by
      unfold gS
      rw [g1, g2, hv]
    rw [hs]
    refine RgLo_3000060a_of _ _ _ _ _ _ _ _ _ _ ?_
    unfold BgLo_3000060a
    rw [bif_pos (by omega), bif_pos (by omega)]
    simp only [Int.toNat_natCast, encP_0, encP_1, he, Option.map_some, intC_int, bindO_val]
    rw [bif_pos (by omega)]
    simp only [Int.toNat_natCast, encT_0, encT_1, encT_2, e1, e2, Option.map_some, intC_int, bindO_val]
    rw [bif_pos (by omega)]
    simp only [bindO_val, hr, w1, lowr_is, bif_ne]
    obtain ⟨fnd, x, y, lo, hi'⟩ := s
    cases fnd with
    | true =>
      dsimp only
      rw [if_pos (show fndE true = 0 from rfl), bif_dec]
      by_cases hh : (lossV (l[p.1]) (l[p.2])).1 > lo
      · rw [if_pos hh, if_pos (show true = false ∨ keyV false (lo, hi') < keyV false (lossV (l[p.1]) (l[p.2])) from .inr hh)]
        exact ih (true, (p.1 : Int), (p.2 : Int), (lossV (l[p.1]) (l[p.2])).1, (lossV (l[p.1]) (l[p.2])).2)
      · rw [if_neg hh, if_neg (show ¬ (true = false ∨ keyV false (lo, hi') < keyV false (lossV (l[p.1]) (l[p.2]))) from fun h => h.elim (fun h => by cases h) hh)]
        exact ih (true, x, y, lo, hi')
    | false =>
      dsimp only
      rw [if_neg (show ¬ fndE false = 0 by decide), if_pos (show false = false ∨ _ from .inl rfl)]
      exact ih (true, (p.1 : Int), (p.2 : Int), (lossV (l[p.1]) (l[p.2])).1, (lossV (l[p.1]) (l[p.2])).2)
theorem gLo_is (l : List Z3) (len : Int) (hl : l.length < 1000) : FgLo [.list l.length (encT l), .int .i64 len, .fn 88 [], .fn 90 []] =
    some (if strE l len = 0 then ((gV l len false false).2.1, (gV l len false false).2.2.1, (gV l len false false).2.2.2.1, (gV l len false false).2.2.2.2, fndE (gV l len false false).1) else (0, 0, 0, 0, strE l len)) := by
  refine FgLo_of _ _ _ ?_
  unfold tgLo
  simp only [pE_is l hl, lenE_is, fE2_is, bindO_val, bif_ne]
  show (if strE l len = 0 then _ else _) = _
  by_cases h : strE l len = 0
  · rw [if_pos h, if_pos h]
    obtain ⟨h1, h2⟩ := both_nil h
    obtain ⟨k1, ha⟩ := gtsE_ok h1
    have hn := prsP_len l len l.length 0
    have hn2 : l.length * l.length ≤ 20 * 20 := Nat.mul_le_mul k1 k1
    have hlp := gLo_loop l (-1) ha k1 (prsP l len l.length 0) (by omega) (prsP_mem l len l.length 0 (by omega)) 0 (by omega) (false, 0, 0, 0, 0)
    rw [List.drop_zero] at hlp
    have h' : LgLo_3000060 (TgLo_3000060a (prsP l len l.length 0).length (encP (prsP l len l.length 0)) 0 l.length (encT l) 0 0 0 0 12) = _ := LgLo_3000060a_of hlp
    simp only [pw1_is l (-1) len ha k1, bindO_val, h']
    rfl
  · rw [if_neg h, if_neg h]
    rfl
theorem gCh_loop (l : List Z3) (b : Int) (ha : AscG l b) (hl : l.length ≤ 20) (P : List (Nat × Nat)) (hn : P.length ≤ 400) (hP : ∀ p ∈ P, p.1 < l.length ∧ p.2 < l.length ∧ p.1 < p.2) : ∀ i, i ≤ P.length → ∀ s : Bst,
    RgCh_3000060 (TgCh_3000060a P.length (encP P) i l.length (encT l) s.2.1 s.2.2.1 s.2.2.2.1 s.2.2.2.2 (fndE s.1)) =
      exO (XgCh_3000060a (l.length, encT l, ((P.drop i).foldl (gS l true false) s).2.1, ((P.drop i).foldl (gS l true false) s).2.2.1, ((P.drop i).foldl (gS l true false) s).2.2.2.1, ((P.drop i).foldl (gS l true false) s).2.2.2.2, fndE ((P.drop i).foldl (gS l true false) s).1)) := by
  refine up_ind _ ?_ ?_
  · intro s
    refine RgCh_3000060a_of _ _ _ _ _ _ _ _ _ _ ?_
    unfold BgCh_3000060a
    rw [bif_neg (by omega), List.drop_length]
    rfl
  · intro i hi ih s
    obtain ⟨p, he, hd⟩ := get_drop hi
    obtain ⟨h1, h2, _⟩ := hP p (List.mem_of_getElem? he)
    have e1 := List.getElem?_eq_getElem h1
    have e2 := List.getElem?_eq_getElem h2
    have w1 : w64 ((i : Int) + 1) = ((i + 1 : Nat) : Int) := by rw [w64_in (by omega)]; omega
    have g1 := gtA_of e1
    have g2 := gtA_of e2
    have hr := chg_is (asc_low ha e1).2 (asc_low ha e2).2
    have hv : chV true l[p.1] l[p.2] = gainV (l[p.1]) (l[p.2]) := rfl
    rw [hd, List.foldl_cons]
    have hs : gS l true false s p = if s.1 = false ∨ keyV false s.2.2.2 < keyV false (gainV (l[p.1]) (l[p.2])) then (true, (p.1 : Int), (p.2 : Int), (gainV (l[p.1]) (l[p.2])).1, (gainV (l[p.1]) (l[p.2])).2) else s := by
      unfold gS
      rw [g1, g2, hv]
    rw [hs]
    refine RgCh_3000060a_of _ _ _ _ _ _ _ _ _ _ ?_
    unfold BgCh_3000060a
    rw [bif_pos (by omega), bif_pos (by omega)]
    simp only [Int.toNat_natCast, encP_0, encP_1, he, Option.map_some, intC_int, bindO_val]
    rw [bif_pos (by omega)]
    simp only [Int.toNat_natCast, encT_0, encT_1, encT_2, e1, e2, Option.map_some, intC_int, bindO_val]
    rw [bif_pos (by omega)]
    simp only [bindO_val, hr, w1, lowr_is, bif_ne]
    obtain ⟨fnd, x, y, lo, hi'⟩ := s
    cases fnd with
    | true =>
      dsimp only
      rw [if_pos (show fndE true = 0 from rfl), bif_dec]
      by_cases hh : (gainV (l[p.1]) (l[p.2])).1 > lo
      · rw [if_pos hh, if_pos (show true = false ∨ keyV false (lo, hi') < keyV false (gainV (l[p.1]) (l[p.2])) from .inr hh)]
        exact ih (true, (p.1 : Int), (p.2 : Int), (gainV (l[p.1]) (l[p.2])).1, (gainV (l[p.1]) (l[p.2])).2)
      · rw [if_neg hh, if_neg (show ¬ (true = false ∨ keyV false (lo, hi') < keyV false (gainV (l[p.1]) (l[p.2]))) from fun h => h.elim (fun h => by cases h) hh)]
        exact ih (true, x, y, lo, hi')
    | false =>
      dsimp only
      rw [if_neg (show ¬ fndE false = 0 by decide), if_pos (show false = false ∨ _ from .inl rfl)]
      exact ih (true, (p.1 : Int), (p.2 : Int), (gainV (l[p.1]) (l[p.2])).1, (gainV (l[p.1]) (l[p.2])).2)
theorem gCh_is (l : List Z3) (len : Int) (hl : l.length < 1000) : FgCh [.list l.length (encT l), .int .i64 len, .fn 91 [], .fn 90 []] =
    some (if strE l len = 0 then ((gV l len true false).2.1, (gV l len true false).2.2.1, (gV l len true false).2.2.2.1, (gV l len true false).2.2.2.2, fndE (gV l len true false).1) else (0, 0, 0, 0, strE l len)) := by
  refine FgCh_of _ _ _ ?_
  unfold tgCh
  simp only [pE_is l hl, lenE_is, fE2_is, bindO_val, bif_ne]
  show (if strE l len = 0 then _ else _) = _
  by_cases h : strE l len = 0
  · rw [if_pos h, if_pos h]
    obtain ⟨h1, h2⟩ := both_nil h
    obtain ⟨k1, ha⟩ := gtsE_ok h1
    have hn := prsP_len l len l.length 0
    have hn2 : l.length * l.length ≤ 20 * 20 := Nat.mul_le_mul k1 k1
    have hlp := gCh_loop l (-1) ha k1 (prsP l len l.length 0) (by omega) (prsP_mem l len l.length 0 (by omega)) 0 (by omega) (false, 0, 0, 0, 0)
    rw [List.drop_zero] at hlp
    have h' : LgCh_3000060 (TgCh_3000060a (prsP l len l.length 0).length (encP (prsP l len l.length 0)) 0 l.length (encT l) 0 0 0 0 12) = _ := LgCh_3000060a_of hlp
    simp only [pw1_is l (-1) len ha k1, bindO_val, h']
    rfl
  · rw [if_neg h, if_neg h]
    rfl
theorem gHi_loop (l : List Z3) (b : Int) (ha : AscG l b) (hl : l.length ≤ 20) (P : List (Nat × Nat)) (hn : P.length ≤ 400) (hP : ∀ p ∈ P, p.1 < l.length ∧ p.2 < l.length ∧ p.1 < p.2) : ∀ i, i ≤ P.length → ∀ s : Bst,
    RgHi_3000060 (TgHi_3000060a P.length (encP P) i l.length (encT l) s.2.1 s.2.2.1 s.2.2.2.1 s.2.2.2.2 (fndE s.1)) =
      exO (XgHi_3000060a (l.length, encT l, ((P.drop i).foldl (gS l false true) s).2.1, ((P.drop i).foldl (gS l false true) s).2.2.1, ((P.drop i).foldl (gS l false true) s).2.2.2.1, ((P.drop i).foldl (gS l false true) s).2.2.2.2, fndE ((P.drop i).foldl (gS l false true) s).1)) := by
  refine up_ind _ ?_ ?_
  · intro s
    refine RgHi_3000060a_of _ _ _ _ _ _ _ _ _ _ ?_
    unfold BgHi_3000060a
    rw [bif_neg (by omega), List.drop_length]
    rfl
  · intro i hi ih s
    obtain ⟨p, he, hd⟩ := get_drop hi
    obtain ⟨h1, h2, _⟩ := hP p (List.mem_of_getElem? he)
    have e1 := List.getElem?_eq_getElem h1
    have e2 := List.getElem?_eq_getElem h2
    have w1 : w64 ((i : Int) + 1) = ((i + 1 : Nat) : Int) := by rw [w64_in (by omega)]; omega
    have g1 := gtA_of e1
    have g2 := gtA_of e2
    have hr := loss_is (asc_low ha e1).2 (asc_low ha e2).2
    have hv : chV false l[p.1] l[p.2] = lossV (l[p.1]) (l[p.2]) := rfl
    rw [hd, List.foldl_cons]
    have hs : gS l false true s p = if s.1 = false ∨ keyV true s.2.2.2 < keyV true (lossV (l[p.1]) (l[p.2])) then (true, (p.1 : Int), (p.2 : Int), (lossV (l[p.1]) (l[p.2])).1, (lossV (l[p.1]) (l[p.2])).2) else s := by
      unfold gS
      rw [g1, g2, hv]
    rw [hs]
    refine RgHi_3000060a_of _ _ _ _ _ _ _ _ _ _ ?_
    unfold BgHi_3000060a
    rw [bif_pos (by omega), bif_pos (by omega)]
    simp only [Int.toNat_natCast, encP_0, encP_1, he, Option.map_some, intC_int, bindO_val]
    rw [bif_pos (by omega)]
    simp only [Int.toNat_natCast, encT_0, encT_1, encT_2, e1, e2, Option.map_some, intC_int, bindO_val]
    rw [bif_pos (by omega)]
    simp only [bindO_val, hr, w1, uppr_is, bif_ne]
    obtain ⟨fnd, x, y, lo, hi'⟩ := s
    cases fnd with
    | true =>
      dsimp only
      rw [if_pos (show fndE true = 0 from rfl), bif_dec]
      by_cases hh : (lossV (l[p.1]) (l[p.2])).2 > hi'
      · rw [if_pos hh, if_pos (show true = false ∨ keyV true (lo, hi') < keyV true (lossV (l[p.1]) (l[p.2])) from .inr hh)]
        exact ih (true, (p.1 : Int), (p.2 : Int), (lossV (l[p.1]) (l[p.2])).1, (lossV (l[p.1]) (l[p.2])).2)
      · rw [if_neg hh, if_neg (show ¬ (true = false ∨ keyV true (lo, hi') < keyV true (lossV (l[p.1]) (l[p.2]))) from fun h => h.elim (fun h => by cases h) hh)]
        exact ih (true, x, y, lo, hi')
    | false =>
      dsimp only
      rw [if_neg (show ¬ fndE false = 0 by decide), if_pos (show false = false ∨ _ from .inl rfl)]
      exact ih (true, (p.1 : Int), (p.2 : Int), (lossV (l[p.1]) (l[p.2])).1, (lossV (l[p.1]) (l[p.2])).2)
theorem gHi_is (l : List Z3) (len : Int) (hl : l.length < 1000) : FgHi [.list l.length (encT l), .int .i64 len, .fn 88 [], .fn 92 []] =
    some (if strE l len = 0 then ((gV l len false true).2.1, (gV l len false true).2.2.1, (gV l len false true).2.2.2.1, (gV l len false true).2.2.2.2, fndE (gV l len false true).1) else (0, 0, 0, 0, strE l len)) := by
  refine FgHi_of _ _ _ ?_
  unfold tgHi
  simp only [pE_is l hl, lenE_is, fE2_is, bindO_val, bif_ne]
  show (if strE l len = 0 then _ else _) = _
  by_cases h : strE l len = 0
  · rw [if_pos h, if_pos h]
    obtain ⟨h1, h2⟩ := both_nil h
    obtain ⟨k1, ha⟩ := gtsE_ok h1
    have hn := prsP_len l len l.length 0
    have hn2 : l.length * l.length ≤ 20 * 20 := Nat.mul_le_mul k1 k1
    have hlp := gHi_loop l (-1) ha k1 (prsP l len l.length 0) (by omega) (prsP_mem l len l.length 0 (by omega)) 0 (by omega) (false, 0, 0, 0, 0)
    rw [List.drop_zero] at hlp
    have h' : LgHi_3000060 (TgHi_3000060a (prsP l len l.length 0).length (encP (prsP l len l.length 0)) 0 l.length (encT l) 0 0 0 0 12) = _ := LgHi_3000060a_of hlp
    simp only [pw1_is l (-1) len ha k1, bindO_val, h']
    rfl
  · rw [if_neg h, if_neg h]
    rfl
theorem sLoss_is (l : List Z3) (len : Int) (hl : l.length < 1000) : FsLoss [.list l.length (encT l), .int .i64 len] =
    some (if strE l len = 0 then ((gV l len false false).2.1, (gV l len false false).2.2.1, (gV l len false false).2.2.2.1, (gV l len false false).2.2.2.2, fndE (gV l len false false).1) else (0, 0, 0, 0, strE l len)) := by
  refine FsLoss_of _ _ _ ?_
  unfold tsLoss
  simp only [gLo_is l len hl, bindO_val]
theorem sGain_is (l : List Z3) (len : Int) (hl : l.length < 1000) : FsGain [.list l.length (encT l), .int .i64 len] =
    some (if strE l len = 0 then ((gV l len true false).2.1, (gV l len true false).2.2.1, (gV l len true false).2.2.2.1, (gV l len true false).2.2.2.2, fndE (gV l len true false).1) else (0, 0, 0, 0, strE l len)) := by
  refine FsGain_of _ _ _ ?_
  unfold tsGain
  simp only [gCh_is l len hl, bindO_val]
theorem pLoss_is (l : List Z3) (len : Int) (hl : l.length < 1000) : FpLoss [.list l.length (encT l), .int .i64 len] =
    some (if strE l len = 0 then ((gV l len false true).2.2.2.2, fndE (gV l len false true).1) else (0, strE l len)) := by
  refine FpLoss_of _ _ _ ?_
  unfold tpLoss
  simp only [gHi_is l len hl, bindO_val]
  by_cases h : strE l len = 0
  · simp only [if_pos h]
  · simp only [if_neg h]
end Gv

/- The possible loss and the ramps. -/
namespace Gv
open Go
set_option maxRecDepth 100000
end Gv

/- The ramps. -/
namespace Gv
open Go
set_option maxRecDepth 100000
def addR : List ZZ → Int → List ZZ
  | [], a => [(a - 1, a)]
  | [z], a => if z.2 = a - 1 then [(z.1, a)] else [z, (a - 1, a)]
  | z :: w :: l, a => z :: addR (w :: l) a
theorem addR_snoc : ∀ (pre : List ZZ) (z : ZZ) (a : Int), addR (pre ++ [z]) a = if z.2 = a - 1 then pre ++ [(z.1, a)] else pre ++ [z] ++ [(a - 1, a)]
  | [], z, a => by simp only [List.nil_append, addR]; split <;> rfl
  | [y], z, a => by
    show y :: addR [z] a = _
    simp only [addR]
    split <;> rfl
  | y :: w :: l, z, a => by
    show y :: addR (w :: l ++ [z]) a = _
    rw [addR_snoc (w :: l) z a]
    split <;> rfl
def rmF (l : List Z3) (lim : Int) : Nat → Nat → List ZZ → List ZZ
  | 0, _, out => out
  | m + 1, i, out => rmF l lim m (i + 1) (if (lossV (gtA l (i - 1)) (gtA l i)).1 < lim then out else addR out i)
def rmV (l : List Z3) (lim : Int) : List ZZ := rmF l lim (l.length - 1) 1 []
theorem rmF_len (l : List Z3) (lim : Int) : ∀ (m i : Nat) (out : List ZZ), (rmF l lim m i out).length ≤ out.length + m
  | 0, _, out => by simp [rmF]
  | m + 1, i, out => by
    have hadd : ∀ (o : List ZZ) (a : Int), (addR o a).length ≤ o.length + 1 := by
      intro o a
      by_cases ho : o = []
      · subst ho; simp [addR]
      · obtain ⟨pre, z, rfl⟩ := snocG ho
        rw [addR_snoc]
        split <;> simp
    simp only [rmF]
    have h1 := rmF_len l lim m (i + 1) (if (lossV (gtA l (i - 1)) (gtA l i)).1 < lim then out else addR out i)
    have h2 := hadd out i
    split at h1
    · rename_i hc; rw [if_pos hc]; omega
    · rename_i hc; rw [if_neg hc]; omega
end Gv

/- The program's ramps, and its loss between two gates. -/
namespace Gv
open Go
set_option maxRecDepth 100000
def endRp (out : List ZZ) : Yramps_0 := if out = [] then .inl () else .inr (out.length, out.length, encG out)
theorem ramps_loop (l : List Z3) (b lim : Int) (ha : AscG l b) (hl : l.length ≤ 20) : ∀ (m i : Nat) (out : List ZZ), i + m = l.length → 1 ≤ i → out.length ≤ i →
    Rramps_0 (if out = [] then Tramps_0a l.length (encT l) lim i else Tramps_0b l.length (encT l) lim out.length i out.length (encG out)) = exO (XLramps_0.fn (endRp (rmF l lim m i out)))
  | 0, i, out, h1, h2, h3 => by
    simp only [rmF]
    by_cases ho : out = []
    · rw [if_pos ho, endRp, if_pos ho]
      refine Rramps_0a_of _ _ _ _ ?_
      unfold Bramps_0a
      rw [bif_neg (by omega)]
      rfl
    · rw [if_neg ho, endRp, if_neg ho]
      refine Rramps_0b_of _ _ _ _ _ _ _ ?_
      unfold Bramps_0b
      rw [bif_neg (by omega)]
      rfl
  | m + 1, i, out, h1, h2, h3 => by
    have w1 : w64 ((i : Int) + 1) = ((i + 1 : Nat) : Int) := by rw [w64_in (by omega)]; omega
    have w2 : w64 ((i : Int) - 1) = ((i - 1 : Nat) : Int) := by rw [w64_in (by omega)]; omega
    have wi : ((i - 1 : Nat) : Int) = (i : Int) - 1 := by omega
    have e1 := List.getElem?_eq_getElem (show i - 1 < l.length by omega)
    have e2 := List.getElem?_eq_getElem (show i < l.length by omega)
    have g1 := gtA_of e1
    have g2 := gtA_of e2
    have hlo := loss_is (asc_low ha e1).2 (asc_low ha e2).2
    have ih := ramps_loop l b lim ha hl m (i + 1)
    simp only [rmF, g1, g2]
    have cA : (0 : Int) ≤ ((i - 1 : Nat) : Int) ∧ ((i - 1 : Nat) : Int) < (l.length : Int) := by omega
    have cB : (0 : Int) ≤ (i : Int) ∧ (i : Int) < (l.length : Int) := by omega
    by_cases ho : out = []
    · subst ho
      rw [if_pos rfl]
      refine Rramps_0a_of _ _ _ _ ?_
      unfold Bramps_0a
      rw [bif_pos (by omega)]
      simp only [w1, w2]
      rw [bif_pos cA]
      simp only [Int.toNat_natCast, encT_0, encT_1, encT_2, e1, e2, Option.map_some, intC_int, bindO_val]
      rw [bif_pos cB]
      simp only [hlo, lowr_is, bindO_val]
      by_cases hc : (lossV l[i - 1] l[i]).1 < lim
      · rw [bif_neg (by omega), if_pos hc]
        have := ih [] (by omega) (by omega) (by simp)
        rw [if_pos rfl] at this
        exact this
      · rw [bif_pos (by omega), if_neg hc]
        have := ih [((i : Int) - 1, (i : Int))] (by omega) (by omega) (by simp)
        rw [if_neg (by simp)] at this
        rw [wi]
        exact this
    · obtain ⟨pre, z, rfl⟩ := snocG ho
      rw [if_neg ho]
      have hlen : (pre ++ [z]).length = pre.length + 1 := by simp
      have a1 : w64 (((pre ++ [z]).length : Int) - 1) = (pre.length : Int) := by rw [w64_in (by omega)]; omega
      have c1 : (0 : Int) ≤ (pre.length : Int) ∧ (pre.length : Int) < ((pre ++ [z]).length : Int) := by omega
      have c2 : (pre.length : Int) ≥ 0 := by omega
      have c0 : True ∧ (pre ++ [z]).length + 1 ≤ big := ⟨trivial, by unfold big; omega⟩
      have hg : (encG (pre ++ [z]))[pre.length * 2 + 1]? = some (.int .i64 z.2) := by rw [encG_1]; simp
      refine Rramps_0b_of _ _ _ _ _ _ _ ?_
      unfold Bramps_0b
      rw [bif_pos (by omega)]
      simp only [w1, w2]
      rw [bif_pos cA]
      simp only [Int.toNat_natCast, encT_0, encT_1, encT_2, e1, e2, Option.map_some, intC_int, bindO_val]
      rw [bif_pos cB]
      simp only [hlo, lowr_is, bindO_val]
      by_cases hc : (lossV l[i - 1] l[i]).1 < lim
      · rw [bif_neg (by omega), if_pos hc]
        have := ih (pre ++ [z]) (by omega) (by omega) (by omega)
        rw [if_neg ho] at this
        exact this
      · rw [bif_pos (by omega), if_neg hc, addR_snoc]
        simp only [bif_dec, a1, c2, c1, and_self, if_true, Int.toNat_natCast, hg, intC_int, bindO_val, bif_eq, wi]
        by_cases hz : z.2 = (i : Int) - 1
        · simp only [hz, if_true]
          rw [overO_lastG]
          simp only [bindO_val]
          have := ih (pre ++ [(z.1, (i : Int))]) (by omega) (by omega) (by simp at h3 ⊢; omega)
          rw [if_neg (by simp)] at this
          have e : (pre ++ [(z.1, (i : Int))]).length = (pre ++ [z]).length := by simp
          rw [e] at this
          exact this
        · simp only [hz, if_false, c0, and_self, if_true, encG_snoc2]
          have := ih (pre ++ [z] ++ [((i : Int) - 1, (i : Int))]) (by omega) (by omega) (by simp at h3 ⊢; omega)
          rw [if_neg (by simp)] at this
          have e : (pre ++ [z] ++ [((i : Int) - 1, (i : Int))]).length = (pre ++ [z]).length + 1 := by simp
          rw [e] at this
          exact this
def rmpE (l : List Z3) (lim : Int) : Int := both (gtsE l) (rangeE lim 1 20000)
theorem ramps_is (l : List Z3) (lim : Int) (hl : l.length < 1000) : Framps [.list l.length (encT l), .int .i64 lim] =
    some (if rmpE l lim = 0 then (((rmV l lim).length, encG (rmV l lim)), 0) else ((0, []), rmpE l lim)) := by
  refine Framps_of _ _ _ ?_
  unfold tramps
  simp only [pE_is l hl, rE_is, fE2_is, bindO_val, bif_ne]
  show (if rmpE l lim = 0 then _ else _) = _
  by_cases h : rmpE l lim = 0
  · rw [if_pos h, if_pos h]
    obtain ⟨h1, h2⟩ := both_nil h
    obtain ⟨k1, ha⟩ := gtsE_ok h1
    by_cases h0 : l.length = 0
    · have e : l = [] := List.length_eq_zero_iff.1 h0
      subst e
      have hlp : Rramps_0 (Tramps_0a 0 (encT []) lim 1) = exO (XLramps_0.fn (.inl ())) := by
        refine Rramps_0a_of _ _ _ _ ?_
        unfold Bramps_0a
        rw [bif_neg (by omega)]
        rfl
      have h' : Lramps_0 (Tramps_0a ([] : List Z3).length (encT []) lim 1) = _ := lpO_of Iramps_0 XIramps_0 hlp
      rw [h']
      rfl
    · have hlp := ramps_loop l (-1) lim ha k1 (l.length - 1) 1 [] (by omega) (by omega) (by simp)
      rw [if_pos rfl] at hlp
      have h' : Lramps_0 (Tramps_0a l.length (encT l) lim 1) = _ := lpO_of Iramps_0 XIramps_0 hlp
      rw [h']
      show bindO (some (endRp (rmV l lim))) _ = _
      unfold endRp
      by_cases ho : rmV l lim = []
      · rw [if_pos ho, ho]
        rfl
      · rw [if_neg ho]
        simp
  · rw [if_neg h, if_neg h]
    rfl
theorem rRamE_is (lim : Int) : FrRamE [.int .i64 lim] = some (rangeE lim 1 20000) := by
  refine FrRamE_of _ ?_
  unfold trRamE
  simp only [bWi_is, bindO_val, bif_dec, rangeE_iff]
  split <;> rfl
end Gv
