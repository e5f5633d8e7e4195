/- The law of matrices. -/
import Derived.Test.YtpbpkbckgifhdaaA0
import Derived.Test.YtpbpkbckgifhdaaK14
import Derived.Test.YtpbpkbckgifhdaaBL4
namespace Gv
open Go
set_option maxRecDepth 100000
theorem m17 (n0 : Nat) (c1 : List PV) (i2 i3 : Int) (n4 : Nat) (c5 : List PV) (i6 i7 : Int) (n8 : Nat) (c9 : List PV) (i10 : Int) : Llaw4_1000017 (Tlaw4_1000017a n0 c1 i2 i3 n4 c5 i6 i7 n8 c9 i10 i2 i3) = some (Sum.inr (n0, c1, n4, c5, i6, i7, n8, c9, i10, i3)) := by
  refine Llaw4_1000017b_of (Rlaw4_1000017a_of _ _ _ _ _ _ _ _ _ _ _ _ _ ?_)
  unfold Blaw4_1000017a
  rw [bne_self_eq_false, cond_false, bne_self_eq_false, cond_false]
  rfl
theorem matricesLaw (L : List (List Int)) : Flaw4 [.list L.length (encM L)] = some true := by
  refine Flaw4_of _ _ ?_
  unfold tlaw4
  have ha : Fn env 12 (RSh.one CK.bool) [] = some true := awake_is
  have hs : Fn env 25 _ [.list L.length (encM L)] = _ := small_is L
  simp only [ha, bindO_val, cond_true]
  rw [hs]
  simp only [bindO_val]
  by_cases h : SmallP L
  · simp only [h, decide_true, cond_true]
    have hr : ∀ r ∈ L, r.length ≤ 1000 := fun r hr => by have := h.2.1 r hr; omega
    have c1 : Fn env 27 _ [.list L.length (encM L)] = _ := copM_is L (by have := h.1; omega) hr
    have c2 : Fn env 26 _ [.list L.length (encM L)] = _ := cMat_is L hr
    have c3 : Fn env 30 _ [.list L.length (encM L)] = _ := rCMat_is L
    rw [c1]
    simp only [bindO_val]
    rw [c2]
    simp only [bindO_val]
    by_cases hz : (matV L).2 = 0
    · have h5 : L.length ≤ 5 := h.2.2.resolve_left fun k => k hz
      obtain ⟨b, bs, hb, hbest⟩ := cheap_ne (costW (Zm L)) (l := asgs L.length) (ext_ne h5)
      have hbm := cheap_mem (c := costW (Zm L)) (l := asgs L.length) (b := b) (by rw [hb]; simp)
      have hbl := (asgs_row h5 hbm.1).1
      have c4 : Fn env 28 _ [.list L.length (encM L)] = _ := cheO_is hz h5 hbest
      have c5 : Fn env 29 _ [.list L.length (encM L)] = _ := cerI_is hz h5
      have c6 : Fn env 31 _ [.list L.length (encM L)] = _ := rChe_is L h5 (fun r hr => ((matV_ok hz).2.2.2 r hr).1) (f99 L.length h5)
      have c7 : Fn env 33 _ [.list L.length (encM L)] = _ := rCer_is hz h5 (f99 L.length h5)
      have c8 : Fn env 32 (RSh.one CK.bool) [.list b.length (encN b), .list b.length (encN b)] = some true := by
        have := bInts_same (asI b) (by rw [asI_len]; omega)
        rw [asI_len, ← encN_is] at this
        exact this
      have c9 : Fn env 32 (RSh.one CK.bool) [.list (cerF (cheapL (costW (Zm L)) (asgs L.length)) L.length 0).length (encI (cerF (cheapL (costW (Zm L)) (asgs L.length)) L.length 0)), .list (cerF (cheapL (costW (Zm L)) (asgs L.length)) L.length 0).length (encI (cerF (cheapL (costW (Zm L)) (asgs L.length)) L.length 0))] = some true := bInts_same _ (by have := cerF_len (cheapL (costW (Zm L)) (asgs L.length)) L.length 0; omega)
      rw [c4]
      simp only [bindO_val]
      rw [c5]
      simp only [bindO_val]
      rw [c3]
      simp only [bindO_val]
      rw [m17]
      simp only [bindO_val, Sum.elim_inr, hz, bne_self_eq_false, cond_false, beq_self_eq_true, cond_true]
      rw [c6]
      simp only [bindO_val]
      have hl0 : listC ((cheapL (costW (Zm L)) (asgs L.length)).map rowP)[0]? = some (b.length, encN b) := by rw [hb]; rfl
      rw [bif_pos (by rw [hb]; simp), hl0]
      simp only [bindO_val]
      rw [c8]
      simp only [bindO_val, cond_true, hbm.2, beq_self_eq_true]
      rw [c7]
      simp only [bindO_val]
      rw [c9]
      rfl
    · have c4 : Fn env 28 _ [.list L.length (encM L)] = _ := cheO_bad hr hz
      have c5 : Fn env 29 _ [.list L.length (encM L)] = _ := cerI_bad hr hz
      rw [c4]
      simp only [bindO_val]
      rw [c5]
      simp only [bindO_val]
      rw [c3]
      simp only [bindO_val]
      rw [m17]
      have e : ((matV L).2 != 0) = true := by rw [bne_iff_ne]; exact hz
      simp only [bindO_val, Sum.elim_inr, e, cond_true, beq_self_eq_true]
      rfl
  · simp only [h, decide_false, cond_false]
end Gv
