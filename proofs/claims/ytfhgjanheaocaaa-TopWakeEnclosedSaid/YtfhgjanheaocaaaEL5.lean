/- The law of a vortex that is seen again and again: the whole. -/
import Derived.Test.YtfhgjanheaocaaaEX
import Derived.Test.YtfhgjanheaocaaaEL4
namespace Gv
open Go
set_option maxRecDepth 100000
theorem badF_idx {d : B6} : ∀ (l : List Z3) (w : B6) (i k : Nat), badF d w l i = some k → i ≤ k ∧ k < i + l.length
  | [], _, _, _, h => by
    unfold badF at h
    cases h
  | z :: l, w, i, k, h => by
    unfold badF at h
    split at h
    · have := badF_idx l _ _ _ h
      rw [List.length_cons]
      omega
    · cases h
      rw [List.length_cons]
      omega
theorem path_err {b d : B6} {l : List Z3} (hb : boxE b = 0) (hd : driE d = 0) (h0 : l.length ≠ 0) (h1 : l.length ≤ 16) (h : (pathE b d l).2 ≠ 0) : (pathE b d l).2 = 17 ∧ 0 ≤ (pathE b d l).1 ∧ (pathE b d l).1 ≤ (l.length : Int) - 1 := by
  unfold pathE at h ⊢
  rw [if_neg (by simp [both, hb, hd]), if_neg h0, if_neg (by omega)] at h ⊢
  unfold pathV at h ⊢
  split at h
  · rename_i k hk
    have := badF_idx l b 0 k hk
    refine ⟨rfl, ?_, ?_⟩
    · show (0 : Int) ≤ (k : Int)
      omega
    · show (k : Int) ≤ _
      omega
  · exact absurd rfl h
section
variable (x d : B6) (l : List Z3) (r e : Int) (c : C7)
theorem t103 : Llaw4_1000103 (Tlaw4_1000103a x.1 x.2.1 x.2.2.1 x.2.2.2.1 x.2.2.2.2.1 x.2.2.2.2.2 l.length (encT l) d.1 d.2.1 d.2.2.1 d.2.2.2.1 d.2.2.2.2.1 d.2.2.2.2.2 r e c.1 c.2.1 c.2.2.1 c.2.2.2.1 c.2.2.2.2.1 c.2.2.2.2.2.1 c.2.2.2.2.2.2) = some (Sum.inl ()) ∨ (Llaw4_1000103 (Tlaw4_1000103a x.1 x.2.1 x.2.2.1 x.2.2.2.1 x.2.2.2.2.1 x.2.2.2.2.2 l.length (encT l) d.1 d.2.1 d.2.2.1 d.2.2.2.1 d.2.2.2.2.1 d.2.2.2.2.2 r e c.1 c.2.1 c.2.2.1 c.2.2.2.1 c.2.2.2.2.1 c.2.2.2.2.2.1 c.2.2.2.2.2.2) = some (Sum.inr (x.1, x.2.1, x.2.2.1, x.2.2.2.1, x.2.2.2.2.1, x.2.2.2.2.2, l.length, encT l, d.1, d.2.1, d.2.2.1, d.2.2.2.1, d.2.2.2.2.1, d.2.2.2.2.2, r, e, c.1, c.2.1, c.2.2.1, c.2.2.2.1, c.2.2.2.2.1, c.2.2.2.2.2.1, c.2.2.2.2.2.2)) ∧ boxE x = 0 ∧ driE d = 0 ∧ corV c = 0 ∧ (0 ≤ r ∧ r ≤ 20) ∧ (1 ≤ e ∧ e ≤ 8) ∧ l.length ≤ 16 ∧ c.2.2.2.2.2.2 ≤ 16 ∧ l.length ≠ 0) := by
  have f1 : Fn env 13 (RSh.one (CK.int .i64)) [.agg [.int .i64 x.1, .int .i64 x.2.1, .int .i64 x.2.2.1, .int .i64 x.2.2.2.1, .int .i64 x.2.2.2.2.1, .int .i64 x.2.2.2.2.2], .agg [.int .i64 d.1, .int .i64 d.2.1, .int .i64 d.2.2.1, .int .i64 d.2.2.2.1, .int .i64 d.2.2.2.2.1, .int .i64 d.2.2.2.2.2]] = _ := rMovE_is x d
  have f2 : Fn env 14 (RSh.one (CK.int .i64)) [.agg [.int .i64 c.1, .int .i64 c.2.1, .int .i64 c.2.2.1, .int .i64 c.2.2.2.1, .int .i64 c.2.2.2.2.1, .int .i64 c.2.2.2.2.2.1, .int .i64 c.2.2.2.2.2.2]] = _ := rCorE_is c
  have f3 : Fn env 9 (RSh.one CK.bool) [.int .i64 r, .int .i64 0, .int .i64 20] = _ := bWi_is r 0 20
  have f4 : Fn env 9 (RSh.one CK.bool) [.int .i64 e, .int .i64 1, .int .i64 8] = _ := bWi_is e 1 8
  by_cases h1 : both (boxE x) (driE d) = 0
  · by_cases h2 : corV c = 0
    · by_cases h3 : c.2.2.2.2.2.2 > 16
      · left
        refine Llaw4_1000103a_of (Rlaw4_1000103a_of _ _ _ _ _ _ _ _ _ _ _ _ _ _ _ _ _ _ _ _ _ _ _ ?_)
        unfold Blaw4_1000103a
        rw [f1, bindO_val, bif_ne, if_pos h1, f2, bindO_val, bif_ne, if_pos h2, bif_pos h3]
        rfl
      · by_cases h4 : (l.length : Int) = 0
        · left
          refine Llaw4_1000103a_of (Rlaw4_1000103a_of _ _ _ _ _ _ _ _ _ _ _ _ _ _ _ _ _ _ _ _ _ _ _ ?_)
          unfold Blaw4_1000103a
          rw [f1, bindO_val, bif_ne, if_pos h1, f2, bindO_val, bif_ne, if_pos h2, bif_neg h3, bif_eq, if_pos h4]
          rfl
        · by_cases h5 : (l.length : Int) > 16
          · left
            refine Llaw4_1000103a_of (Rlaw4_1000103a_of _ _ _ _ _ _ _ _ _ _ _ _ _ _ _ _ _ _ _ _ _ _ _ ?_)
            unfold Blaw4_1000103a
            rw [f1, bindO_val, bif_ne, if_pos h1, f2, bindO_val, bif_ne, if_pos h2, bif_neg h3, bif_eq, if_neg h4, bif_pos h5]
            rfl
          · by_cases h6 : 0 ≤ r ∧ r ≤ 20
            · by_cases h7 : 1 ≤ e ∧ e ≤ 8
              · right
                have hb := both_nil h1
                refine ⟨Llaw4_1000103b_of (Rlaw4_1000103a_of _ _ _ _ _ _ _ _ _ _ _ _ _ _ _ _ _ _ _ _ _ _ _ ?_), hb.1, hb.2, h2, h6, h7, by omega, by omega, by omega⟩
                unfold Blaw4_1000103a
                rw [f1, bindO_val, bif_ne, if_pos h1, f2, bindO_val, bif_ne, if_pos h2, bif_neg h3, bif_eq, if_neg h4, bif_neg h5, f3, bindO_val, decide_eq_true h6, cond_true, f4, bindO_val, decide_eq_true h7, cond_true]
                rfl
              · left
                refine Llaw4_1000103a_of (Rlaw4_1000103a_of _ _ _ _ _ _ _ _ _ _ _ _ _ _ _ _ _ _ _ _ _ _ _ ?_)
                unfold Blaw4_1000103a
                rw [f1, bindO_val, bif_ne, if_pos h1, f2, bindO_val, bif_ne, if_pos h2, bif_neg h3, bif_eq, if_neg h4, bif_neg h5, f3, bindO_val, decide_eq_true h6, cond_true, f4, bindO_val, decide_eq_false h7, cond_false]
                rfl
            · left
              refine Llaw4_1000103a_of (Rlaw4_1000103a_of _ _ _ _ _ _ _ _ _ _ _ _ _ _ _ _ _ _ _ _ _ _ _ ?_)
              unfold Blaw4_1000103a
              rw [f1, bindO_val, bif_ne, if_pos h1, f2, bindO_val, bif_ne, if_pos h2, bif_neg h3, bif_eq, if_neg h4, bif_neg h5, f3, bindO_val, decide_eq_false h6, cond_false]
              rfl
    · left
      refine Llaw4_1000103a_of (Rlaw4_1000103a_of _ _ _ _ _ _ _ _ _ _ _ _ _ _ _ _ _ _ _ _ _ _ _ ?_)
      unfold Blaw4_1000103a
      rw [f1, bindO_val, bif_ne, if_pos h1, f2, bindO_val, bif_ne, if_neg h2]
      rfl
  · left
    refine Llaw4_1000103a_of (Rlaw4_1000103a_of _ _ _ _ _ _ _ _ _ _ _ _ _ _ _ _ _ _ _ _ _ _ _ ?_)
    unfold Blaw4_1000103a
    rw [f1, bindO_val, bif_ne, if_neg h1]
    rfl
theorem enclosedLaw : Flaw4 [.agg [.int .i64 x.1, .int .i64 x.2.1, .int .i64 x.2.2.1, .int .i64 x.2.2.2.1, .int .i64 x.2.2.2.2.1, .int .i64 x.2.2.2.2.2, .list l.length (encT l)], .agg [.int .i64 d.1, .int .i64 d.2.1, .int .i64 d.2.2.1, .int .i64 d.2.2.2.1, .int .i64 d.2.2.2.2.1, .int .i64 d.2.2.2.2.2], .agg [.int .i64 r, .int .i64 e, .int .i64 c.1, .int .i64 c.2.1, .int .i64 c.2.2.1, .int .i64 c.2.2.2.1, .int .i64 c.2.2.2.2.1, .int .i64 c.2.2.2.2.2.1, .int .i64 c.2.2.2.2.2.2]] = some true := by
  refine Flaw4_of _ _ _ _ _ _ _ _ _ _ _ _ _ _ _ _ _ _ _ _ _ _ _ ?_
  unfold tlaw4
  have hs : Fn env 12 (RSh.one CK.bool) [] = _ := shown_is
  rw [hs, bindO_val, cond_true]
  rcases t103 x d l r e c with h | ⟨h, hx, hd, hc, hr, he, hl, hto, h0⟩
  · rw [h, bindO_val, Sum.elim_inl]
  · have f16 : Fn env 16 (RSh.one CK.list) [.list l.length (encT l)] = _ := copV_is l (by omega)
    have f15 : Fn env 15 (RSh.tup [(Prod.mk false [(CK.int .i64)]), (Prod.mk false [(CK.int .i64)])]) [.agg [.int .i64 x.1, .int .i64 x.2.1, .int .i64 x.2.2.1, .int .i64 x.2.2.2.1, .int .i64 x.2.2.2.2.1, .int .i64 x.2.2.2.2.2], .agg [.int .i64 d.1, .int .i64 d.2.1, .int .i64 d.2.2.1, .int .i64 d.2.2.2.1, .int .i64 d.2.2.2.2.1, .int .i64 d.2.2.2.2.2], .list l.length (encT l)] = _ := cPath_is x d l
    rw [h, bindO_val, Sum.elim_inr]
    dsimp only
    rw [f16, bindO_val]
    dsimp only
    rw [f15, bindO_val]
    by_cases hp : (pathE x d l).2 = 0
    · rw [bif_ne, if_pos hp]
      have hn := path_none hx hd h0 hp
      have ht := t0 x d l r e c hx hd hc hr he hl hto hn l.length 0 x (by omega) (by omega) (.inl ⟨rfl, rfl⟩)
      rcases ht with ⟨y, hy⟩ | hy
      · have hy := Llaw4_0a_of hy
        rw [Int.natCast_zero] at hy
        rw [hy, bindO_val, Sum.elim_inl]
      · have hy := Llaw4_0b_of hy
        rw [Int.natCast_zero] at hy
        rw [hy, bindO_val, Sum.elim_inr]
    · obtain ⟨p1, p2, p3⟩ := path_err hx hd h0 hl hp
      have ew : w64 ((l.length : Int) - 1) = (l.length : Int) - 1 := w64_in (by omega)
      have f9 : Fn env 9 (RSh.one CK.bool) [.int .i64 (pathE x d l).1, .int .i64 0, .int .i64 ((l.length : Int) - 1)] = _ := bWi_is (pathE x d l).1 0 ((l.length : Int) - 1)
      rw [bif_ne, if_neg hp, bif_eq, if_pos p1, ew, f9, bindO_val, decide_eq_true ⟨p2, p3⟩, cond_true]
end
end Gv
