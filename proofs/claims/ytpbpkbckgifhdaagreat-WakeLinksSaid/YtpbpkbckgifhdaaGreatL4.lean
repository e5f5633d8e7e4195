/- The law of links. -/
import Derived.Test.YtpbpkbckgifhdaaGreatA0
import Derived.Test.YtpbpkbckgifhdaaGreatM2
import Derived.Test.YtpbpkbckgifhdaaGreatZL4
namespace Gv
open Go
set_option maxRecDepth 100000
def badE (a b : List Z3) (miss : Int) : Int := first3 (scaV a) (scaV b) (rangeE miss 0 10000000)
theorem badE_zero {a b : List Z3} {miss : Int} (h : badE a b miss = 0) : scaV a = 0 ∧ scaV b = 0 ∧ 0 ≤ miss ∧ miss ≤ 10000000 := by
 unfold badE first3 at h
 by_cases ha : scaV a = 0
 ·by_cases hb : scaV b = 0
  ·rw [if_neg (by simp [ha]), if_neg (by simp [hb])] at h
   exact ⟨ha, hb, rangeE_ok h⟩
  ·rw [if_neg (by simp [ha]), if_pos hb] at h
   exact absurd h hb
 ·rw [if_pos ha] at h
  exact absurd h ha
theorem z48 (a b : List Z3) (miss : Int) : Llaw4_z48 (Tlaw4_z48a a.length (encT a) b.length (encT b) miss) = some (Sum.inl ()) ∨ (Llaw4_z48 (Tlaw4_z48a a.length (encT a) b.length (encT b) miss) = some (Sum.inr (a.length, encT a, b.length, encT b, miss)) ∧ a.length ≤ 5 ∧ b.length ≤ 5 ∧ (badE a b miss = 0 → a.length + b.length ≤ 5)) := by
 have h1 : Fn env 20 (RSh.one CK.bool) [.list a.length (encT a)] = _ := brief_is a
 have h2 : Fn env 20 (RSh.one CK.bool) [.list b.length (encT b)] = _ := brief_is b
 have h3 : Fn env 21 (RSh.one (CK.int .i64)) [.list a.length (encT a), .list b.length (encT b), .int .i64 miss] = some (badE a b miss) := rLkE_is a b miss
 by_cases ha : a.length ≤ 5
 ·rw [decide_eq_true ha] at h1
  by_cases hb : b.length ≤ 5
  ·rw [decide_eq_true hb] at h2
   have eN : w64 ((a.length : Int) + (b.length : Int)) = ((a.length + b.length : Nat) : Int) := by rw [w64_in (by omega)]; omega
   by_cases hs : 5 < a.length + b.length
   ·by_cases hz : badE a b miss = 0
    ·left
     refine Llaw4_z48a_of (Rlaw4_z48a_of _ _ _ _ _ ?_)
     unfold Blaw4_z48a
     rw [h1, bindO_val, cond_true, h2, bindO_val, cond_true, eN, bif_pos (by omega), h3, bindO_val, bif_eq, if_pos hz]
     rfl
    ·right
     refine ⟨Llaw4_z48b_of (Rlaw4_z48a_of _ _ _ _ _ ?_), ha, hb, fun h => absurd h hz⟩
     unfold Blaw4_z48a
     rw [h1, bindO_val, cond_true, h2, bindO_val, cond_true, eN, bif_pos (by omega), h3, bindO_val, bif_eq, if_neg hz]
     rfl
   ·right
    refine ⟨Llaw4_z48b_of (Rlaw4_z48a_of _ _ _ _ _ ?_), ha, hb, fun _ => by omega⟩
    unfold Blaw4_z48a
    rw [h1, bindO_val, cond_true, h2, bindO_val, cond_true, eN, bif_neg (by omega)]
    rfl
  ·rw [decide_eq_false hb] at h2
   left
   refine Llaw4_z48a_of (Rlaw4_z48a_of _ _ _ _ _ ?_)
   unfold Blaw4_z48a
   rw [h1, bindO_val, cond_true, h2, bindO_val, cond_false]
   rfl
 ·rw [decide_eq_false ha] at h1
  left
  refine Llaw4_z48a_of (Rlaw4_z48a_of _ _ _ _ _ ?_)
  unfold Blaw4_z48a
  rw [h1, bindO_val, cond_false]
  rfl
theorem z4_0 (M : List (List Int)) (hM : M.length ≤ 1000) (hr : ∀ r ∈ M, r.length ≤ 1000) (n0 : Nat) (c1 : List PV) (n2 : Nat) (c3 : List PV) (i4 : Int) (n7 : Nat) (c8 : List PV) (i9 : Int) : ∀ (m k : Nat), k + m = M.length →
  Rlaw4_0 (Tlaw4_0a n0 c1 n2 c3 i4 M.length (encM M) n7 c8 i9 M.length (encM M) (k : Int)) = exO (Xlaw4_0b (n0, c1, n2, c3, i4, n7, c8, i9))
 | 0, k, h => by
  refine Rlaw4_0a_of _ _ _ _ _ _ _ _ _ _ _ _ _ ?_
  unfold Blaw4_0a
  rw [bif_neg (by omega)]
  rfl
 | m + 1, k, h => by
  have ih := z4_0 M hM hr n0 c1 n2 c3 i4 n7 c8 i9 m (k + 1) (by omega)
  have hk : k < M.length := by omega
  have h1 : Fn env 15 (RSh.one CK.bool) [.list (M.getD k []).length (encI (M.getD k [])), .list (M.getD k []).length (encI (M.getD k []))] = _ := bInts_same (M.getD k []) (hr _ (getD_memA hk))
  refine Rlaw4_0a_of _ _ _ _ _ _ _ _ _ _ _ _ _ ?_
  unfold Blaw4_0a
  rw [bif_pos (by omega), bif_pos (by omega), Int.toNat_natCast, Nat.mul_one, listM_get hk, bindO_val, bif_pos (by omega), bindO_val]
  dsimp only
  rw [h1, bindO_val, cond_true, w64_in (by omega)]
  exact ih
theorem linksLaw (a b : List Z3) (miss : Int) : Flaw4 [.list a.length (encT a), .list b.length (encT b), .int .i64 miss] = some true := by
 refine Flaw4_of _ _ _ _ _ ?_
 unfold tlaw4
 have hw : Fn env 6 (RSh.one CK.bool) [] = some true := awake_is
 rw [hw, bindO_val, cond_true]
 rcases z48 a b miss with h | ⟨h, ha, hb, h5⟩
 ·rw [h, bindO_val, Sum.elim_inl]
 ·have c1 : Fn env 23 (RSh.one CK.list) [.list a.length (encT a)] = _ := copV_is a (by omega)
  have c2 : Fn env 23 (RSh.one CK.list) [.list b.length (encT b)] = _ := copV_is b (by omega)
  have c3 : Fn env 21 (RSh.one (CK.int .i64)) [.list a.length (encT a), .list b.length (encT b), .int .i64 miss] = some (badE a b miss) := rLkE_is a b miss
  rw [h, bindO_val, Sum.elim_inr]
  dsimp only
  rw [c1, bindO_val]
  dsimp only
  rw [c2, bindO_val]
  dsimp only
  by_cases hz : badE a b miss = 0
  ·obtain ⟨z1, z2, hm⟩ := badE_zero hz
   have hN := h5 hz
   have c4 : Fn env 22 (RSh.tup [(Prod.mk false [CK.list]), (Prod.mk false [(CK.int .i64)])]) [.list a.length (encT a), .list b.length (encT b), .int .i64 miss] = _ := linC_ok z1 z2 hm (by omega)
   have c5 : Fn env 24 (RSh.tup [(Prod.mk false [CK.list]), (Prod.mk false [(CK.int .i64)])]) [.list a.length (encT a), .list b.length (encT b), .int .i64 miss] = _ := linO_is z1 z2 hm hN
   have c6 : Fn env 25 (RSh.one CK.list) [.list a.length (encT a), .list b.length (encT b), .int .i64 miss] = _ := rCts_is a b miss (by omega)
   have c7 : Fn env 26 (RSh.one CK.list) [.list a.length (encT a), .list b.length (encT b), .int .i64 miss] = _ := rLks_is a b miss hN
   have hL := matL_len (a.length + b.length) (lz a b miss)
   have l0 := z4_0 (matL (a.length + b.length) (lz a b miss)) (by omega) (fun r hr => by rw [matL_row r hr]; omega) a.length (encT a) b.length (encT b) miss a.length (encI (lnk a b miss)) 0 (matL (a.length + b.length) (lz a b miss)).length 0 (by omega)
   have l0 : Llaw4_0 (Tlaw4_0a a.length (encT a) b.length (encT b) miss (matL (a.length + b.length) (lz a b miss)).length (encM (matL (a.length + b.length) (lz a b miss))) a.length (encI (lnk a b miss)) 0 (matL (a.length + b.length) (lz a b miss)).length (encM (matL (a.length + b.length) (lz a b miss))) 0) = _ := Llaw4_0b_of l0
   rw [hL] at l0
   have l26 : Llaw4_z26 (Tlaw4_z26a a.length (encT a) b.length (encT b) miss (a.length + b.length) (encM (matL (a.length + b.length) (lz a b miss))) 0 a.length (encI (lnk a b miss)) 0 (a.length + b.length) (encM (matL (a.length + b.length) (lz a b miss)))) = some (Sum.inr (a.length, encT a, b.length, encT b, miss, a.length + b.length, encM (matL (a.length + b.length) (lz a b miss)), a.length, encI (lnk a b miss), 0, a.length + b.length, encM (matL (a.length + b.length) (lz a b miss)))) := Llaw4_z26b_of (Rlaw4_z26a_of _ _ _ _ _ _ _ _ _ _ _ _ _ (by
    unfold Blaw4_z26a
    rw [bif_ne, if_pos rfl, bif_ne, if_pos rfl]
    rfl))
   have c8 : Fn env 15 (RSh.one CK.bool) [.list (lnk a b miss).length (encI (lnk a b miss)), .list (lnk a b miss).length (encI (lnk a b miss))] = _ := bInts_same (lnk a b miss) (by rw [lnk_len a b miss hN]; omega)
   rw [lnk_len a b miss hN] at c8
   rw [c4, bindO_val, bindO_val, bindO_val]
   dsimp only
   rw [c5, bindO_val, c3, bindO_val, bif_ne, if_pos hz, c6, bindO_val]
   dsimp only
   rw [l26, bindO_val, Sum.elim_inr]
   dsimp only
   rw [l0, bindO_val, Sum.elim_inr]
   dsimp only
   rw [bif_eq, if_pos rfl, c7, bindO_val]
   dsimp only
   rw [c8, bindO_val, cond_true]
  ·have c4 : Fn env 22 (RSh.tup [(Prod.mk false [CK.list]), (Prod.mk false [(CK.int .i64)])]) [.list a.length (encT a), .list b.length (encT b), .int .i64 miss] = some ((0, []), badE a b miss) := linC_bad hz
   have c5 : Fn env 24 (RSh.tup [(Prod.mk false [CK.list]), (Prod.mk false [(CK.int .i64)])]) [.list a.length (encT a), .list b.length (encT b), .int .i64 miss] = some ((0, []), badE a b miss) := linO_bad hz
   rw [c4, bindO_val, bindO_val, bindO_val]
   dsimp only
   rw [c5, bindO_val, c3, bindO_val, bif_ne, if_neg hz]
   dsimp only
   rw [bif_eq, if_pos rfl, bif_eq, if_pos rfl]
   rfl
end Gv
