/- The law of the cheapest assignment. -/
import Derived.Test.YtpbpkbckgifhdaaGreatA0
import Derived.Test.YtpbpkbckgifhdaaGreatN4
import Derived.Test.YtpbpkbckgifhdaaGreatZL3
namespace Gv
open Go
set_option maxRecDepth 100000
theorem mod_is (k : Int) {n : Nat} (h0 : 0 < n) (hn : n ≤ 1000) : ∃ j : Nat, j < n ∧ FbMod [.int .i64 k, .int .i64 (n : Int)] = some (j : Int) := by
 have h1 := Int.tmod_lt_of_pos k (b := (n : Int)) (by omega)
 have h2 := Int.lt_tmod_of_pos k (b := (n : Int)) (by omega)
 by_cases h : Int.tmod k (n : Int) < 0
 ·refine ⟨(Int.tmod k (n : Int) + n).toNat, by omega, FbMod_of _ _ ?_⟩
  unfold tbMod
  rw [bif_pos (by omega), bif_pos h, w64_in (by omega)]
  congr 1
  omega
 ·refine ⟨(Int.tmod k (n : Int)).toNat, by omega, FbMod_of _ _ ?_⟩
  unfold tbMod
  rw [bif_pos (by omega), bif_neg h]
  congr 1
  omega
theorem cer_has (G : List (List Nat)) (j : Nat) : ∀ (m i : Nat), ((cerF G m i).contains (j : Int)) = (decide (i ≤ j ∧ j < i + m) && G.all (sameC G j))
 | 0, i => by
  have : decide (i ≤ j ∧ j < i + 0) = false := decide_eq_false (by omega)
  rw [this]
  rfl
 | m + 1, i => by
  have ih := cer_has G j m (i + 1)
  unfold cerF
  by_cases e : j = i
  ·subst e
   have h1 : decide (j ≤ j ∧ j < j + (m + 1)) = true := decide_eq_true (by omega)
   have h2 : decide (j + 1 ≤ j ∧ j < j + 1 + m) = false := decide_eq_false (by omega)
   rw [h2, Bool.false_and] at ih
   rw [h1, Bool.true_and]
   by_cases hs : G.all (sameC G j) = true
   ·rw [if_pos hs, hs]
    simp
   ·rw [if_neg hs, ih, (Bool.not_eq_true _).mp hs]
  ·have h1 : decide (i ≤ j ∧ j < i + (m + 1)) = decide (i + 1 ≤ j ∧ j < i + 1 + m) := by
    rw [decide_eq_decide]
    omega
   rw [h1, ← ih]
   split
   ·rw [List.contains_cons]
    have : ((j : Int) == (i : Int)) = false := by
     rw [beq_eq_false_iff_ne]
     omega
    rw [this, Bool.false_or]
   ·rfl
def moreC (Z : Nat → Nat → Int) (d : List Nat) (r : Nat) (b : List Nat) : Bool := decide (costW Z d < costW Z b) || decide (b.getD r 0 = d.getD r 0)
section
variable {L : List (List Int)} (hz : (matV L).2 = 0) (h5 : L.length ≤ 5) {d : List Nat} {k : Int} (hb : bestIn (costW (Zm L)) (asgs L.length) = some (d, k))
include h5 hb in
theorem cer_all (r : Nat) : (cheapL (costW (Zm L)) (asgs L.length)).all (sameC (cheapL (costW (Zm L)) (asgs L.length)) r) = (asgs L.length).all (moreC (Zm L) d r) := by
 obtain ⟨x, xs, hx, hbx⟩ := cheap_ne (costW (Zm L)) (l := asgs L.length) (ext_ne h5)
 rw [hb] at hbx
 have e := Option.some.inj hbx
 have e1 : d = x := congrArg Prod.fst e
 have e2 : k = minL (costW (Zm L)) (asgs L.length) := congrArg Prod.snd e
 obtain ⟨m1, m2⟩ := bestIn_min hb
 have hG0 : (cheapL (costW (Zm L)) (asgs L.length)).getD 0 [] = d := by rw [hx, e1]; rfl
 have hs : sameC (cheapL (costW (Zm L)) (asgs L.length)) r = fun b => decide (b.getD r 0 = d.getD r 0) := by
  funext b
  unfold sameC
  rw [hG0]
 rw [hs]
 unfold cheapL
 rw [List.all_filter]
 rw [Bool.eq_iff_iff, List.all_eq_true, List.all_eq_true]
 refine ⟨fun h b hbm => ?_, fun h b hbm => ?_⟩
 ·have hb1 := h b hbm
  have hb2 := m2 b hbm
  unfold moreC
  simp only [Bool.or_eq_true, Bool.not_eq_true', decide_eq_true_eq, decide_eq_false_iff_not] at hb1 ⊢
  rcases hb1 with h | h
  ·left
   omega
  ·exact .inr h
 ·have hb1 := h b hbm
  unfold moreC at hb1
  simp only [Bool.or_eq_true, Bool.not_eq_true', decide_eq_true_eq, decide_eq_false_iff_not] at hb1 ⊢
  rcases hb1 with h | h
  ·left
   omega
  ·exact .inr h
include hz h5 hb in
theorem law3_2 (n5 : Nat) (c6 : List PV) (r : Nat) (hrl : r < L.length) : ∀ (m t : Nat) (s : Bool), t + m = (asgs L.length).length →
  Rlaw3_2 (Tlaw3_2a L.length (encM L) d.length (encN d) (costW (Zm L) d) n5 c6 (asgs L.length).length ((asgs L.length).map rowP) (r : Int) s (t : Int)) = exO (Xlaw3_2a (L.length, encM L, d.length, encN d, costW (Zm L) d, n5, c6, (asgs L.length).length, (asgs L.length).map rowP, (r : Int), s && ((asgs L.length).drop t).all (moreC (Zm L) d r)))
 | 0, t, s, h => by
  refine Rlaw3_2a_of _ _ _ _ _ _ _ _ _ _ _ _ ?_
  unfold Blaw3_2a
  rw [bif_neg (by omega), List.drop_of_length_le (by omega), List.all_nil, Bool.and_true]
  rfl
 | m + 1, t, s, h => by
  have ht : t < (asgs L.length).length := by omega
  have hlen : (asgs L.length).length ≤ 120 := ext_len h5
  obtain ⟨hr, hx⟩ := mat_rows hz
  have hd := bestIn_mem hb
  have hm : (asgs L.length).getD t [] ∈ asgs L.length := getD_memN ht
  have hml := (asgs_row h5 hm).1
  have hdl := (asgs_row h5 hd).1
  have hc : Fn env 18 (RSh.one (CK.int .i64)) [.list L.length (encM L), .list ((asgs L.length).getD t []).length (encN ((asgs L.length).getD t []))] = _ := (cost_both h5 hr hm).1
  have ew : w64 ((t : Int) + 1) = ((t + 1 : Nat) : Int) := by rw [w64_in (by omega)]; omega
  have g1 := intN_get (b := (asgs L.length).getD t []) (i := r) (by omega)
  have g2 := intN_get (b := d) (i := r) (by omega)
  have ih := fun s => law3_2 n5 c6 r hrl m (t + 1) s (by omega)
  have hs : Blaw3_2a (Fn env) Rlaw3_2 exO Llaw3_0 Llaw3_2 Llaw3_z67 Llaw3_z52 Llaw3_z41 L.length (encM L) d.length (encN d) (costW (Zm L) d) n5 c6 (asgs L.length).length ((asgs L.length).map rowP) (r : Int) s (t : Int) = Rlaw3_2 (Tlaw3_2a L.length (encM L) d.length (encN d) (costW (Zm L) d) n5 c6 (asgs L.length).length ((asgs L.length).map rowP) (r : Int) (s && moreC (Zm L) d r ((asgs L.length).getD t [])) ((t + 1 : Nat) : Int)) := by
   unfold Blaw3_2a
   rw [bif_pos (by omega)]
   cases s with
   | false =>
    rw [cond_false, Bool.false_and, ew]
   | true =>
    rw [cond_true, Bool.true_and, bif_pos (by omega), Int.toNat_natCast, Nat.mul_one, listP_get ht, bindO_val]
    dsimp only
    rw [hc, bindO_val]
    by_cases hgt : costW (Zm L) ((asgs L.length).getD t []) > costW (Zm L) d
    ·have e : moreC (Zm L) d r ((asgs L.length).getD t []) = true := by
      unfold moreC
      rw [decide_eq_true hgt, Bool.true_or]
     rw [bif_pos hgt, e, ew]
    ·have e : moreC (Zm L) d r ((asgs L.length).getD t []) = decide (((asgs L.length).getD t []).getD r 0 = d.getD r 0) := by
      unfold moreC
      rw [decide_eq_false hgt, Bool.false_or]
     rw [bif_neg hgt, bif_pos (by omega), bindO_val]
     dsimp only
     rw [bif_pos (by omega), Int.toNat_natCast, Nat.mul_one, g1, bindO_val, bif_pos (by omega), g2, bindO_val, bif_eq, e, ew]
     by_cases he : ((asgs L.length).getD t []).getD r 0 = d.getD r 0
     ·rw [if_pos (by rw [he]), decide_eq_true he]
     ·rw [if_neg (by omega), decide_eq_false he]
  rw [ih] at hs
  rw [drop_getN ht, List.all_cons, ← Bool.and_assoc]
  exact Rlaw3_2a_of _ _ _ _ _ _ _ _ _ _ _ _ hs
include hz h5 hb in
theorem law3_0 : ∀ (m r : Nat), r + m = L.length →
  Rlaw3_0 (Tlaw3_0a L.length (encM L) d.length (encN d) (costW (Zm L) d) (cerF (cheapL (costW (Zm L)) (asgs L.length)) L.length 0).length (encI (cerF (cheapL (costW (Zm L)) (asgs L.length)) L.length 0)) (asgs L.length).length ((asgs L.length).map rowP) (r : Int)) = exO (Xlaw3_0a ())
 | 0, r, h => by
  refine Rlaw3_0a_of _ _ _ _ _ _ _ _ _ _ ?_
  unfold Blaw3_0a
  rw [bif_neg (by omega)]
  rfl
 | m + 1, r, h => by
  have ih := law3_0 m (r + 1) (by omega)
  have hrl : r < L.length := by omega
  have hcl := cerF_len (cheapL (costW (Zm L)) (asgs L.length)) L.length 0
  have h2 : Llaw3_2 (Tlaw3_2a L.length (encM L) d.length (encN d) (costW (Zm L) d) (cerF (cheapL (costW (Zm L)) (asgs L.length)) L.length 0).length (encI (cerF (cheapL (costW (Zm L)) (asgs L.length)) L.length 0)) (asgs L.length).length ((asgs L.length).map rowP) (r : Int) true 0) = _ := Llaw3_2a_of (law3_2 hz h5 hb _ _ r hrl (asgs L.length).length 0 true (by omega))
  have hh : Fn env 19 (RSh.one CK.bool) [.list (cerF (cheapL (costW (Zm L)) (asgs L.length)) L.length 0).length (encI (cerF (cheapL (costW (Zm L)) (asgs L.length)) L.length 0)), .int .i64 (r : Int)] = _ := bHas_is (cerF (cheapL (costW (Zm L)) (asgs L.length)) L.length 0) (by omega) (r : Int)
  rw [cer_has, cer_all h5 hb r, decide_eq_true (show 0 ≤ r ∧ r < 0 + L.length by omega), Bool.true_and] at hh
  rw [List.drop_zero, Bool.true_and] at h2
  refine Rlaw3_0a_of _ _ _ _ _ _ _ _ _ _ ?_
  unfold Blaw3_0a
  rw [bif_pos (by omega), h2, bindO_val]
  dsimp only
  rw [hh, bindO_val, w64_in (by omega)]
  cases hc : (asgs L.length).all (moreC (Zm L) d r) with
  | true =>
   rw [cond_true, cond_true]
   exact ih
  | false =>
   rw [cond_false, cond_false]
   exact ih
end
theorem z67 (L : List (List Int)) (k : Int) : Llaw3_z67 (Tlaw3_z67a L.length (encM L) k) = some (Sum.inl ()) ∨ (Llaw3_z67 (Tlaw3_z67a L.length (encM L) k) = some (Sum.inr (L.length, encM L, k)) ∧ (matV L).2 = 0 ∧ L.length ≤ 5) := by
 have h1 : Fn env 7 (RSh.one CK.bool) [.list L.length (encM L)] = _ := small_is L
 have h2 : Fn env 8 (RSh.one (CK.int .i64)) [.list L.length (encM L)] = _ := rMatE_is L
 by_cases hs : SmallP L
 ·rw [decide_eq_true hs] at h1
  by_cases hz : (matV L).2 = 0
  ·right
   refine ⟨Llaw3_z67b_of (Rlaw3_z67a_of _ _ _ ?_), hz, hs.2.2.resolve_left fun h => h hz⟩
   unfold Blaw3_z67a
   rw [h1, bindO_val, cond_true, h2, bindO_val, bif_ne, if_pos hz]
   rfl
  ·left
   refine Llaw3_z67a_of (Rlaw3_z67a_of _ _ _ ?_)
   unfold Blaw3_z67a
   rw [h1, bindO_val, cond_true, h2, bindO_val, bif_ne, if_neg hz]
   rfl
 ·rw [decide_eq_false hs] at h1
  left
  refine Llaw3_z67a_of (Rlaw3_z67a_of _ _ _ ?_)
  unfold Blaw3_z67a
  rw [h1, bindO_val, cond_false]
  rfl
theorem cheapestLaw (L : List (List Int)) (k : Int) : Flaw3 [.list L.length (encM L), .int .i64 k] = some true := by
 refine Flaw3_of _ _ _ ?_
 unfold tlaw3
 have hw : Fn env 6 (RSh.one CK.bool) [] = some true := awake_is
 rw [hw, bindO_val, cond_true]
 rcases z67 L k with h | ⟨h, hz, h5⟩
 ·rw [h, bindO_val, Sum.elim_inl]
 ·obtain ⟨⟨d, v⟩, hb⟩ := bestIn_some (costW (Zm L)) (l := asgs L.length) (ext_ne h5)
  obtain ⟨hr, hx⟩ := mat_rows hz
  obtain ⟨hd, hmin⟩ := best_min hz h5 hb
  have hdl := (asgs_row h5 hd).1
  have c1 : Fn env 10 (RSh.one CK.list) [.list L.length (encM L)] = _ := copM_is L (by omega) fun r h => by have := hr r h; omega
  have c2 : Fn env 9 (RSh.tup [(Prod.mk true [CK.list, CK.list, CK.list]), (Prod.mk false [(CK.int .i64)])]) [.list L.length (encM L)] = _ := potO_is hz h5 hb
  have c3 : Fn env 11 (RSh.tup [(Prod.mk false [CK.list]), (Prod.mk false [(CK.int .i64)]), (Prod.mk false [(CK.int .i64)])]) [.list L.length (encM L)] = _ := cheO_is hz h5 hb
  have c4 : Fn env 12 (RSh.tup [(Prod.mk false [CK.list]), (Prod.mk false [(CK.int .i64)])]) [.list L.length (encM L)] = _ := cerI_is hz h5
  have c5 := copP_is (asI d) (pre L.length (newR (Zm L) d (potC L d))) (pre L.length (potC L d)) (by rw [asI_len]; omega) (by rw [pre_len]; omega) (by rw [pre_len]; omega)
  have c6 := cAsg_is L (by omega) (fun r h => by have := hr r h; omega) (asI d) (pre L.length (newR (Zm L) d (potC L d))) (pre L.length (potC L d))
  rw [if_pos hz, cas_ok hz h5 hb] at c6
  unfold encP at c5 c6
  rw [asI_len, ← encN_is, pre_len, pre_len] at c5 c6
  have c5 : Fn env 14 (RSh.agg [CK.list, CK.list, CK.list]) [.agg [.list d.length (encN d), .list L.length (encI (pre L.length (newR (Zm L) d (potC L d)))), .list L.length (encI (pre L.length (potC L d)))]] = _ := c5
  have c6 : Fn env 13 (RSh.tup [(Prod.mk false [(CK.int .i64)]), (Prod.mk false [(CK.int .i64)])]) [.list L.length (encM L), .agg [.list d.length (encN d), .list L.length (encI (pre L.length (newR (Zm L) d (potC L d)))), .list L.length (encI (pre L.length (potC L d)))]] = _ := c6
  have c7 : Fn env 15 (RSh.one CK.bool) [.list (asI d).length (encI (asI d)), .list (asI d).length (encI (asI d))] = _ := bInts_same (asI d) (by rw [asI_len]; omega)
  rw [asI_len, ← encN_is] at c7
  have l52 : Llaw3_z52 (Tlaw3_z52a L.length (encM L) k 0 d.length (encN d) (costW (Zm L) d) 0 (cerF (cheapL (costW (Zm L)) (asgs L.length)) L.length 0).length (encI (cerF (cheapL (costW (Zm L)) (asgs L.length)) L.length 0)) 0 0 0 d.length (encN d) L.length (encI (pre L.length (newR (Zm L) d (potC L d)))) L.length (encI (pre L.length (potC L d)))) = some (Sum.inr (L.length, encM L, k, d.length, encN d, costW (Zm L) d, (cerF (cheapL (costW (Zm L)) (asgs L.length)) L.length 0).length, encI (cerF (cheapL (costW (Zm L)) (asgs L.length)) L.length 0))) := Llaw3_z52b_of (Rlaw3_z52a_of _ _ _ _ _ _ _ _ _ _ _ _ _ _ _ _ _ _ _ (by
   unfold Blaw3_z52a
   rw [bif_ne, if_pos rfl, bif_ne, if_pos rfl, bif_ne, if_pos rfl, bif_ne, if_pos rfl, bif_ne, if_pos rfl, c7, bindO_val, cond_true, bif_ne, if_pos (by omega)]
   rfl))
  have c8 := f99 L.length h5
  have hlen : (asgs L.length).length ≤ 120 := ext_len h5
  have hpos : 0 < (asgs L.length).length := Nat.pos_of_ne_zero fun h => ext_ne h5 (List.length_eq_zero_iff.1 h)
  obtain ⟨j, hj, c9⟩ := mod_is k hpos (by omega)
  have c9 : Fn env 17 (RSh.one (CK.int .i64)) [.int .i64 k, .int .i64 ((asgs L.length).length : Int)] = some (j : Int) := c9
  have hm : (asgs L.length).getD j [] ∈ asgs L.length := getD_memN hj
  have d1 : Fn env 18 (RSh.one (CK.int .i64)) [.list L.length (encM L), .list d.length (encN d)] = _ := (cost_both h5 hr hd).1
  have d2 : Fn env 18 (RSh.one (CK.int .i64)) [.list L.length (encM L), .list ((asgs L.length).getD j []).length (encN ((asgs L.length).getD j []))] = _ := (cost_both h5 hr hm).1
  obtain ⟨m1, m2⟩ := bestIn_min hb
  have hle := m2 _ hm
  have l41 : Llaw3_z41 (Tlaw3_z41a L.length (encM L) d.length (encN d) (costW (Zm L) d) (cerF (cheapL (costW (Zm L)) (asgs L.length)) L.length 0).length (encI (cerF (cheapL (costW (Zm L)) (asgs L.length)) L.length 0)) (asgs L.length).length ((asgs L.length).map rowP) ((asgs L.length).getD j []).length (encN ((asgs L.length).getD j []))) = some (Sum.inr (L.length, encM L, d.length, encN d, costW (Zm L) d, (cerF (cheapL (costW (Zm L)) (asgs L.length)) L.length 0).length, encI (cerF (cheapL (costW (Zm L)) (asgs L.length)) L.length 0), (asgs L.length).length, (asgs L.length).map rowP)) := Llaw3_z41b_of (Rlaw3_z41a_of _ _ _ _ _ _ _ _ _ _ _ (by
   unfold Blaw3_z41a
   rw [d1, bindO_val, bif_ne, if_pos rfl, d2, bindO_val, bif_neg (by omega)]
   rfl))
  have l0 : Llaw3_0 (Tlaw3_0a L.length (encM L) d.length (encN d) (costW (Zm L) d) (cerF (cheapL (costW (Zm L)) (asgs L.length)) L.length 0).length (encI (cerF (cheapL (costW (Zm L)) (asgs L.length)) L.length 0)) (asgs L.length).length ((asgs L.length).map rowP) 0) = _ := Llaw3_0a_of (law3_0 hz h5 hb L.length 0 (by omega))
  rw [h, bindO_val, Sum.elim_inr]
  dsimp only
  rw [c1, bindO_val]
  dsimp only
  rw [c2, bindO_val, bindO_val]
  dsimp only
  rw [c3, bindO_val, bindO_val]
  dsimp only
  rw [c4, bindO_val, bindO_val]
  dsimp only
  rw [c5, bindO_val]
  dsimp only
  rw [c6, bindO_val]
  dsimp only
  rw [l52, bindO_val, Sum.elim_inr]
  dsimp only
  rw [c8, bindO_val]
  dsimp only
  rw [c9, bindO_val, bif_pos (by omega), Int.toNat_natCast, Nat.mul_one, listP_get hj, bindO_val]
  dsimp only
  rw [l41, bindO_val, Sum.elim_inr]
  dsimp only
  rw [l0, bindO_val, Sum.elim_inl]
end Gv
