/- The law about certified losses. -/
import Derived.Test.YtggnifebabjoiaaA0
import Derived.Test.YtggnifebabjoiaaL5a
import Derived.Test.YtggnifebabjoiaaP15b
namespace Gv
open Go
set_option maxRecDepth 100000
set_option maxHeartbeats 4000000
theorem gS_two (l : List Z3) (gain up : Bool) : ∀ (P : List (Nat × Nat)) (s : Bst), s.1 = true ∨ P ≠ [] → (P.foldl (gS l gain up) s).1 = true
  | [], s, h => by
    rcases h with h | h
    · exact h
    · exact absurd rfl h
  | p :: P, s, _ => by
    rw [List.foldl_cons]
    refine gS_two l gain up P _ (.inl ?_)
    unfold gS
    split
    · rfl
    · rename_i h
      cases hs : s.1 with
      | true => rfl
      | false => exact absurd (.inl hs) h
theorem gV_two (l : List Z3) (len : Int) : (∀ gain up, gV l len gain up = (false, 0, 0, 0, 0)) ∨ ∀ gain up, (gV l len gain up).1 = true := by
  by_cases h : prsP l len l.length 0 = []
  · refine .inl fun gain up => ?_
    unfold gV
    rw [h]
    rfl
  · exact .inr fun gain up => gS_two l gain up _ _ (.inr h)
theorem certifiedLaw (l : List Z3) (ps : List Int) (len lim : Int) : Flaw5 [.list l.length (encT l), .list ps.length (encI ps), .agg [.int .i64 len, .int .i64 lim]] = some true := by
  refine Flaw5_of _ _ _ _ _ _ ?_
  unfold tlaw5
  have e1 : Fn env 13 (RSh.one CK.bool) [] = some true := awake_is
  have e2 : Fn env 20 (RSh.one CK.bool) [.list l.length (encT l)] = some (decide (l.length ≤ 22)) := few_is l
  rw [e1, bindO_val, cond_true, e2, bindO_val]
  by_cases hl : l.length ≤ 22
  · have e3 : Fn env 37 (RSh.one (CK.int .i64)) [.list l.length (encT l)] = some (gtsE l) := rPE_is l (by omega)
    have e4 : Fn env 34 (RSh.one (CK.int .i64)) [.int .i64 len] = some (rangeE len 0 50000) := rAtE_is len
    have e5 : Fn env 31 (RSh.one (CK.int .i64)) [.int .i64 lim] = some (rangeE lim 1 20000) := rRamE_is lim
    rw [decide_eq_true hl, cond_true, e3, bindO_val, bif_ne]
    by_cases hg : gtsE l = 0
    · obtain ⟨k1, ha⟩ := gtsE_ok hg
      rw [if_pos hg, e4, bindO_val, bif_ne]
      by_cases hr : rangeE len 0 50000 = 0
      · rw [if_pos hr, e5, bindO_val, bif_ne]
        have hs : strE l len = 0 := by unfold strE; rw [hg, hr]; rfl
        by_cases hm : rangeE lim 1 20000 = 0
        · rw [if_pos hm]
          by_cases hp : ps.length ≤ 30
          · rw [bif_neg (by omega)]
            have hrm : rmpE l lim = 0 := by unfold rmpE; rw [hg, hm]; rfl
            have hS := sLoss_is l len (by omega)
            have hP := pLoss_is l len (by omega)
            rw [if_pos hs] at hS hP
            by_cases h0 : l.length = 0
            · have : l = [] := List.length_eq_zero_iff.1 h0
              subst this
              have hS : Fn env 24 (RSh.tup [(Prod.mk true [(CK.int .i64), (CK.int .i64), (CK.int .i64), (CK.int .i64)]), (Prod.mk false [(CK.int .i64)])]) [.list 0 [], .int .i64 len] = some (0, 0, 0, 0, 12) := hS
              have hP : Fn env 26 (RSh.tup [(Prod.mk false [(CK.int .i64)]), (Prod.mk false [(CK.int .i64)])]) [.list 0 [], .int .i64 len] = some (0, 12) := hP
              rw [bif_pos rfl, hS, bindO_val, bif_pos rfl, hP, bindO_val]
              rfl
            · have p0 : ∀ A B : Option Bool, (bif decide (l.length = 0) then A else B) = B := fun A B => bif_neg h0
              have p1 : ∀ A B : Option Bool, (bif decide ((encT l).length = l.length * 3) then A else B) = A := fun A B => bif_pos (encT_len l)
              have p2 : ∀ A B : Option Bool, (bif decide ((0 = 0) ∧ ((0 + l.length) ≤ big)) then A else B) = A := fun A B => bif_pos ⟨rfl, by unfold big; omega⟩
              have p3 : ∀ A B : Option Bool, (bif decide (0 + l.length = 0 + l.length) then A else B) = A := fun A B => bif_pos rfl
              have p4 : ∀ A B : Option Bool, (bif decide (([] ++ encT l).all plain = true) then A else B) = A := fun A B => bif_pos (by simp [encT, enc3, plain])
              simp only [↓p0, ↓p1, ↓p2, ↓p3, ↓p4, Nat.zero_add, List.nil_append, hS, hP, bindO_val]
              rcases gV_two l len with hz | hz
              · simp only [hz]
                rfl
              · obtain ⟨i, k, hn, hv, _⟩ := gV_some (hz false false)
                have hnw := fun x hx => narrow_more hn hv (x := x) hx
                have hwd := wide_less ha (hz false false)
                have hpm := possible_most (hz false false)
                have hop : gV (l.map oppG) len true false = gV l len false false := opp_same l len false
                have hft := hz false true
                rw [hv] at hwd hnw hop
                rw [hv]
                obtain ⟨n1, n2, n3⟩ := hn
                have hi : i < l.length := by omega
                have hin := trV_in ha ps
                have htr := truth_in (len := len) ⟨n1, n2, n3⟩ hin
                have hposs := hpm.2 i k ⟨n1, n2, n3⟩
                have hall : ∀ i k, Near l len i k → trV l ps i - trV l ps k ≤ (gV l len false true).2.2.2.2 := fun i k h => Int.le_trans (truth_in h hin).2 (hpm.2 i k h)
                have hg1 := gateE_ok (gate_at ha hi)
                have hg2 := gateE_ok (gate_at ha n2)
                have q1 := hin i hi
                have q2 := hin k n2
                obtain ⟨hnw1, hnw2⟩ := hnw (trV l ps i) q1
                have hna := narrow_asc ha hi q1
                simp only [valP, chV, Bool.false_eq_true, if_false] at hwd hnw2 hop ⊢
                generalize hlo : (lossV (gtA l i) (gtA l k)).1 = lo at *
                generalize hhi : (lossV (gtA l i) (gtA l k)).2 = hi' at *
                generalize hnn : (gV l len false true).2.2.2.2 = n at *
                have he := List.getElem?_eq_getElem hi
                have he' := List.getElem?_eq_getElem n2
                have ge := gtA_of he
                have ge' := gtA_of he'
                generalize l[i] = e at he ge
                generalize l[k] = e' at he' ge'
                have a0 := Llaw5_0b_of (l5_0a ha k1 ps len lim n i k lo hi' (by omega))
                have hset := overO_set hi (trV l ps i) (trV l ps i)
                generalize hnar : l.set i ((gtA l i).1, trV l ps i, trV l ps i) = nar at *
                have hlen : nar.length = l.length := by rw [← hnar, List.length_set]
                have a2 : Llaw5_2 (Tlaw5_2a l.length (encT l) len lim n l.length (encI (trL l ps l.length)) l.length l.length l.length (0 : Int) i k lo hi' l.length (encT nar) l.length (encT (l.map wideG)) l.length (encT (l.map oppG)) l.length) = some (α := Ylaw5_2) (Sum.inl (l.length, encT l, len, lim, l.length, encI (trL l ps l.length), l.length, l.length, l.length, i, k, lo, hi', l.length, encT nar, l.length, encT (l.map wideG), l.length, encT (l.map oppG), l.length)) :=
                  Llaw5_2a_of (l5_2 ha k1 ps lim i k lo hi' hall l.length l.length l.length l.length l.length l.length l.length (encT nar) (encT (l.map wideG)) (encT (l.map oppG)) l.length 0 (by omega))
                have hs1 : strE nar len = 0 := by unfold strE; rw [gtsE_asc hna (by omega), hr]; rfl
                have hs2 : strE (l.map wideG) len = 0 := by unfold strE; rw [gtsE_asc (ascG_map (f := wideG) (fun _ => rfl) wide_gate ha) (by simp; omega), hr]; rfl
                have hs3 : strE (l.map oppG) len = 0 := by unfold strE; rw [gtsE_asc (ascG_map (f := oppG) (fun _ => rfl) opp_gate ha) (by simp; omega), hr]; rfl
                have b1 := sLoss_is nar len (by omega)
                have b2 := sLoss_is (l.map wideG) len (by simp; omega)
                have b3 := sGain_is (l.map oppG) len (by simp; omega)
                rw [if_pos hs1, hlen] at b1
                rw [if_pos hs2, List.length_map] at b2
                rw [if_pos hs3, List.length_map, hop] at b3
                have b4 := ramps_is l lim (by omega)
                rw [if_pos hrm] at b4
                have hlm : 1 ≤ lim ∧ lim ≤ 20000 := by
                  rw [rangeE_iff] at hm
                  by_cases h : 1 ≤ lim ∧ lim ≤ 20000
                  · exact h
                  · rw [if_neg h] at hm
                    cases hm
                have a6 : Llaw5_6 (Tlaw5_6a l.length (encT l) lim l.length (encI (trL l ps l.length)) (rmV l lim).length (encG (rmV l lim)) (0 : Int) l.length) = some (Sum.inr l.length) :=
                  Llaw5_6b_of (l5_6 ha k1 ps hlm l.length (rmV l lim).length 0 (by omega))
                have hrl := (rmV_ok l lim).2
                rw [ge] at hg1
                rw [ge'] at hg2
                rw [ge, ge'] at n3
                have w1 : w64 ((k : Int) - 1) = (k : Int) - 1 := w64_in (by omega)
                have w2 : w64 (e'.1 - e.1) = e'.1 - e.1 := w64_in (by omega)
                rw [ge] at q1
                rw [ge'] at q2
                have w3 : w64 (trV l ps i - trV l ps k) = trV l ps i - trV l ps k := w64_in (by omega)
                have c1 : (0 : Int) ≤ (i : Int) ∧ (i : Int) ≤ (k : Int) - 1 := by omega
                have c2 : ¬ (k : Int) ≥ (l.length : Int) := by omega
                have c3 : (0 : Int) ≤ (k : Int) ∧ (k : Int) < (l.length : Int) := by omega
                have c4 : (0 : Int) ≤ (i : Int) ∧ (i : Int) < (l.length : Int) := by omega
                have c5 : ¬ e'.1 - e.1 > len := by omega
                have c6 : ¬ trV l ps i - trV l ps k < lo := by omega
                have c7 : ¬ trV l ps i - trV l ps k > hi' := by omega
                have c8 : ¬ n < hi' := by omega
                have c9 : ¬ (gV nar len false false).2.2.2.1 < lo := by omega
                have c10 : ¬ (gV (l.map wideG) len false false).2.2.2.1 > lo := by omega
                have c11 : ¬ ((rmV l lim).length : Int) > (l.length : Int) := by omega
                simp only [klaw5, hft, hnw1, hwd.1, fndE, if_true, bif_ne, bWi_is, w1, w2, w3, bindO_val, c1, decide_true, cond_true, bif_dec, c2, c3, c4, c5, c6, c7, c8, if_false, and_self, Int.toNat_natCast, Nat.mul_one, encT_0', he, he', Option.map_some, intC_int, a0, Sum.elim, encI_get, trL_get l ps hi, trL_get l ps n2, hset, a2, b1, b2, b3, c9, c10, c11, beq_self_eq_true, Bool.and_self, Bool.not_true, cond_false, b4, a6]
                rw [if_neg h0, if_pos (encT_len l), if_pos ⟨trivial, by unfold big; omega⟩]
                simp only [Nat.zero_add, List.nil_append, b4, bindO_val, if_true, c11, if_false, a6]
          · rw [bif_pos (by omega)]
        · rw [if_neg hm]
      · rw [if_neg hr]
    · rw [if_neg hg]
  · rw [decide_eq_false hl]
    rfl
end Gv
