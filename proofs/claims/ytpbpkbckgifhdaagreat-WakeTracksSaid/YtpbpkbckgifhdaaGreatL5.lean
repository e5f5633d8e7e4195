/- The law of all tracks. -/
import Derived.Test.YtpbpkbckgifhdaaGreatA0
import Derived.Test.YtpbpkbckgifhdaaGreatM4
import Derived.Test.YtpbpkbckgifhdaaGreatZL5
namespace Gv
open Go
set_option maxRecDepth 100000
theorem allT_len (Ls : List (List Int)) (S : List (List Z3)) (hl : ∀ t, (S.getD t []).length ≤ 5) : ∀ (m t : Nat), (allT Ls S m t).length ≤ 5 * m
 | 0, _ => by simp [allT]
 | m + 1, t => by
  have := allT_len Ls S hl m (t + 1)
  have h1 := rowT_len Ls t (S.getD t []).length 0
  have h2 := hl t
  unfold allT
  rw [List.length_append]
  omega
theorem rowT_short (Ls : List (List Int)) (t : Nat) : ∀ (m k : Nat), ∀ tr ∈ rowT Ls t m k, tr.length ≤ Ls.length + 1
 | 0, _, _, h => by cases h
 | m + 1, k, tr, h => by
  unfold rowT at h
  split at h
  ·rcases List.mem_cons.1 h with rfl | h
   ·have := trackR_len Ls (Ls.length - t) t (k : Int)
    unfold trackV
    rw [List.length_cons]
    omega
   ·exact rowT_short Ls t m (k + 1) tr h
  ·exact rowT_short Ls t m (k + 1) tr h
theorem allT_short (Ls : List (List Int)) (S : List (List Z3)) : ∀ (m t : Nat), ∀ tr ∈ allT Ls S m t, tr.length ≤ Ls.length + 1
 | 0, _, _, h => by cases h
 | m + 1, t, tr, h => by
  unfold allT at h
  rcases List.mem_append.1 h with h | h
  ·exact rowT_short Ls t _ 0 tr h
  ·exact allT_short Ls S m (t + 1) tr h
theorem tracksLaw (S : List (List Z3)) (miss : Int) : Flaw5 [.list S.length (encS S), .int .i64 miss] = some true := by
 refine Flaw5_of _ _ _ ?_
 unfold tlaw5
 have hw : Fn env 6 (RSh.one CK.bool) [] = some true := awake_is
 rw [hw, bindO_val, cond_true]
 rcases scann_is S with h1 | ⟨h1, hp, h8, hl⟩
 ·have h1 : Fn env 27 (RSh.one CK.bool) [.list S.length (encS S)] = _ := h1
  rw [h1, bindO_val, cond_false]
 ·have h1 : Fn env 27 (RSh.one CK.bool) [.list S.length (encS S)] = _ := h1
  have c1 : Fn env 29 (RSh.one CK.list) [.list S.length (encS S)] = _ := copS_is (S := S) (by omega) (fun t => Nat.le_trans (hl t) (by omega))
  have c2 : Fn env 30 (RSh.one (CK.int .i64)) [.list S.length (encS S), .int .i64 miss] = _ := rScsE_is S miss
  rw [h1, bindO_val, cond_true, c1, bindO_val]
  dsimp only
  by_cases hz : both (scsV S) (rangeE miss 0 10000000) = 0
  ·obtain ⟨b1, b2⟩ := both_nil hz
   have hpp := hp b1
   have c3 : Fn env 28 (RSh.tup [(Prod.mk false [CK.list]), (Prod.mk false [(CK.int .i64)])]) [.list S.length (encS S), .int .i64 miss] = _ := traO_is S miss b1 (rangeE_ok b2) hpp hl
   have c4 : Fn env 32 (RSh.one CK.list) [.list S.length (encS S), .int .i64 miss] = _ := rTrk_is S miss (by omega) hpp hl
   have hT : (tracksV S miss).length ≤ 5 * S.length := allT_len (linksL S miss) S hl S.length 0
   have hll := linksL_len S miss
   have c5 : Fn env 31 (RSh.one CK.bool) [.list (tracksV S miss).length (encTT (tracksV S miss)), .list (tracksV S miss).length (encTT (tracksV S miss))] = _ := rSTr_same (tracksV S miss) (by omega) (fun p => by
    by_cases e : p < (tracksV S miss).length
    ·have := allT_short (linksL S miss) S S.length 0 _ (getD_memA (d := []) e)
     unfold tracksV at this ⊢
     omega
    ·rw [List.getD_eq_getElem?_getD, List.getElem?_eq_none (by omega)]
     exact Nat.zero_le _)
   rw [c3, bindO_val, c2, bindO_val, bif_ne, if_pos hz, bif_eq, if_pos rfl, c4, bindO_val]
   dsimp only
   rw [c5, bindO_val, cond_true]
  ·have c3 : Fn env 28 (RSh.tup [(Prod.mk false [CK.list]), (Prod.mk false [(CK.int .i64)])]) [.list S.length (encS S), .int .i64 miss] = _ := traO_bad S miss (by omega) hz
   rw [c3, bindO_val, c2, bindO_val, bif_ne, if_neg hz, bif_eq, if_pos rfl]
   rfl
end Gv
