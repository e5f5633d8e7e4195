/- The law of tracks. -/
import Derived.Test.YtpbpkbckgifhdaaA0
import Derived.Test.YtpbpkbckgifhdaaK36
namespace Gv
open Go
set_option maxRecDepth 100000
theorem followedLaw (S : List (List Z3)) (miss : Int) : Flaw6 [.list S.length (encS S), .int .i64 miss] = some true := by
 refine Flaw6_of _ _ _ ?_
 unfold tlaw6
 have ha : Fn env 12 (RSh.one CK.bool) [] = some true := awake_is
 rw [ha, bindO_val, cond_true]
 rcases z109 S miss with h | ⟨h, hz, hm, hp⟩
 ·rw [h, bindO_val, Sum.elim_inl]
 ·have hS := (scs_len hz).1
  have hl : ∀ t, (S.getD t []).length ≤ 3 := fun t => (scs_at hz t).1
  have c1 : Fn env 40 (RSh.one CK.list) [.list S.length (encS S)] = _ := copS_is (S := S) (by omega) (fun t => Nat.le_trans (hl t) (by omega))
  have c2 : Fn env 39 (RSh.tup [(Prod.mk false [CK.list]), (Prod.mk false [(CK.int .i64)])]) [.list S.length (encS S), .int .i64 miss] = _ := traO_is S miss hz hm hp (fun t => Nat.le_trans (hl t) (by omega))
  have c3 : Llaw6_0 (Tlaw6_0a S.length (encS S) miss (tracksV S miss).length (encTT (tracksV S miss)) 0 0) = _ := Llaw6_0a_of (law6_0 (S := S) (by omega) (fun t => Nat.le_trans (hl t) (by omega)) miss (tracksV S miss).length (encTT (tracksV S miss)) S.length 0 0 (by omega) (by omega))
  have c4 := ent_2a (tracks_ok S miss hp) hz hm hp ((0 + vorN (S.drop 0) : Nat) : Int)
  rw [h, bindO_val, Sum.elim_inr]
  dsimp only
  rw [c1, bindO_val]
  dsimp only
  rw [c2, bindO_val, bif_ne, if_pos rfl, c3, bindO_val]
  dsimp only
  rw [c4, bindO_val, Sum.elim_inl, bif_eq, if_pos]
  have e := all_len S miss hp
  rw [allP_len] at e
  rw [Nat.zero_add, List.drop_zero, ← e]
  rfl
end Gv
