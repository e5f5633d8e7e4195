/- The sum of a stream that is continued by a piece: the program's. -/
import Derived.Test.YtojmddikkmiohaaS32
import Derived.Test.YtojmddikkmiohaaP23
namespace Gv
open Go
set_option maxRecDepth 100000

def EG (l : List ZZ) : Nat × List PV := (l.length, encG l)
theorem added_loop (k : List ZZ) (a t : List ZZ) (c cc : Int) (f : Nat → ZZ) (ha : a.length ≤ 1000) : ∀ i, i ≤ a.length → 1 ≤ i →
    Rpulse_Added_3000075 (Tpulse_Added_3000075b k.length (encG k) a.length (en3 f a.length) i a.length (encG a) t.length (encG t) c i (encG (tabZ (fun j => addZ (a.getD j (0, 0)) (f j)) i)) cc i) =
      exO (Xpulse_Added_3000075b (k.length, encG k, a.length, encG a, t.length, encG t, c, a.length, encG (tabZ (fun j => addZ (a.getD j (0, 0)) (f j)) a.length), cc, a.length)) := by
  refine up_ind _ ?_ ?_
  · intro _
    refine Rpulse_Added_3000075b_of _ _ _ _ _ _ _ _ _ _ _ _ _ _ ?_
    unfold Bpulse_Added_3000075b
    rw [bif_neg (by omega)]
    rfl
  · intro i hi ih h1
    refine Rpulse_Added_3000075b_of _ _ _ _ _ _ _ _ _ _ _ _ _ _ ?_
    unfold Bpulse_Added_3000075b
    have g0 := en3_get f hi (show 0 < 3 by omega)
    have g1 := en3_get f hi (show 1 < 3 by omega)
    have g2 := en3_get f hi (show 2 < 3 by omega)
    obtain ⟨z, hz, _⟩ := get_drop hi
    have hd : a.getD i (0, 0) = z := by rw [List.getD_eq_getElem?_getD, hz]; rfl
    rw [bif_pos (by omega), bif_pos (by omega), show (i : Int).toNat = i by omega, g0, g1, show i * 3 + 1 + 1 = i * 3 + 2 by omega, g2]
    simp only [enc3, List.getElem?_cons_zero, List.getElem?_cons_succ, intC_int, bindO_val]
    rw [bif_pos (by omega), show (i : Int).toNat = i by omega]
    simp only [encG_0, encG_1, hz, Option.map_some, intC_int, bindO_val, plus_is z (f i)]
    rw [bif_pos ⟨trivial, by unfold big; omega⟩, w64_in (by omega)]
    have := ih (by omega)
    rw [tabZ_succ, encG_app, hd] at this
    exact this

theorem added_start (k : List ZZ) (a t : List ZZ) (c cc : Int) (f : Nat → ZZ) (ha : 1 ≤ a.length ∧ a.length ≤ 1000) :
    Rpulse_Added_3000075 (Tpulse_Added_3000075a k.length (encG k) a.length (en3 f a.length) a.length (encG a) t.length (encG t) c cc) =
      exO (Xpulse_Added_3000075b (k.length, encG k, a.length, encG a, t.length, encG t, c, a.length, encG (tabZ (fun j => addZ (a.getD j (0, 0)) (f j)) a.length), cc, a.length)) := by
  refine Rpulse_Added_3000075a_of _ _ _ _ _ _ _ _ _ _ ?_
  unfold Bpulse_Added_3000075a
  have hi : 0 < a.length := by omega
  have g0 := en3_get f hi (show 0 < 3 by omega)
  have g1 := en3_get f hi (show 1 < 3 by omega)
  have g2 := en3_get f hi (show 2 < 3 by omega)
  rw [Nat.zero_mul] at g0 g1 g2
  obtain ⟨z, hz, _⟩ := get_drop hi
  have hd : a.getD 0 (0, 0) = z := by rw [List.getD_eq_getElem?_getD, hz]; rfl
  rw [bif_pos (by omega), bif_pos (by omega), g0, g1, g2]
  simp only [enc3, List.getElem?_cons_zero, List.getElem?_cons_succ, intC_int, bindO_val]
  rw [bif_pos (by omega)]
  have e0 := encG_0 a 0
  have e1 := encG_1 a 0
  simp only [Int.toNat_natCast, e0, e1, hz, Option.map_some, intC_int, bindO_val, plus_is z (f 0)]
  have := added_loop k a t c cc f ha.2 1 (by omega) (by omega)
  rw [tabZ_succ, encG_app, hd] at this
  exact this

/-- What is given: the sum after a piece, or the error. -/
def adE (a t p : List ZZ) (c : Int) : Int := both (smE a t c) (blockE p)
def adR (a t p : List ZZ) (c : Int) : (Nat × List PV) × ((Nat × List PV) × (Int × Int)) :=
  if adE a t p c ≠ 0 then ((0, []), ((0, []), (0, adE a t p c)))
  else if smE (nwL a t p) (nwT a t p) (w64 (c + p.length)) ≠ 0 then ((0, []), ((0, []), (0, 20)))
  else (EG (nwL a t p), (EG (nwT a t p), (w64 (c + p.length), 0)))
theorem added_is (a t p : List ZZ) (c : Int) (ha : a.length ≤ 1000) (ht : t.length ≤ 400) (hp : p.length ≤ 400) :
    Fpulse_Added [.agg [.list a.length (encG a), .list t.length (encG t), .int .i64 c], .list p.length (encG p)] = some (adR a t p c) := by
  refine Fpulse_Added_of _ _ _ _ _ _ _ ?_
  unfold tpulse_Added adR
  simp only [sumError_is a t c (by omega) (by omega), blockError_is p (by omega), firstError2_is, bindO_val, bif_ne]
  rw [show both (smE a t c) (blockE p) = adE a t p c from rfl]
  by_cases h : adE a t p c = 0
  · have hs : smE a t c = 0 := by
      by_cases q : smE a t c = 0
      · exact q
      · unfold adE both at h; rw [if_pos q] at h; exact h
    obtain ⟨⟨a1, a2⟩, _⟩ := sm_ok hs
    rw [if_pos h, if_neg (by omega)]
    have hk : FconcatG [.list 2 [.list t.length (encG t), .list p.length (encG p)]] = some ((t ++ p).length, encG (t ++ p)) := by
      have := concatG_is [t, p] (by simp) (by simp; omega)
      rw [show [t, p].flatten = t ++ p by simp] at this
      exact this
    have hl : (t ++ p).length = t.length + p.length := List.length_append
    have hi := corrsIt_is (t ++ p) a.length t.length (by omega) ha (by omega)
    have hL := Lpulse_Added_3000075b_of (added_start (t ++ p) a t c (w64 (c + p.length)) (fun j => corrF (t ++ p) j t.length) ⟨a1, ha⟩)
    simp only [hk, hi, hL, bindO_val, Sum.elim_inr]
    have ek : (if w64 ((a.length : Int) - 1) < ((t ++ p).length : Int) then w64 ((a.length : Int) - 1) else ((t ++ p).length : Int)) = (kpN a t p : Int) := by
      rw [w64_in (by omega)]
      unfold kpN
      split <;> omega
    have ed : w64 (((t ++ p).length : Int) - (kpN a t p : Int)) = (((t ++ p).length - kpN a t p : Nat) : Int) := by
      rw [w64_in (by unfold kpN; omega)]
      unfold kpN
      omega
    have hq : (t ++ p).length - kpN a t p ≤ (t ++ p).length := Nat.sub_le _ _
    rw [ek, ed, bif_pos (by omega), bif_pos (by rw [encG_len]; omega)]
    have et : (List.drop ((((t ++ p).length - kpN a t p : Nat) : Int).toNat * 2) (encG (t ++ p))).take (((t ++ p).length - (((t ++ p).length - kpN a t p : Nat) : Int).toNat) * 2) = encG (nwT a t p) := by
      rw [Int.toNat_natCast, encG_drop, List.take_of_length_le (by rw [encG_len, List.length_drop]; omega)]
      rfl
    have en : (t ++ p).length - (((t ++ p).length - kpN a t p : Nat) : Int).toNat = (nwT a t p).length := by
      rw [Int.toNat_natCast, nwT_len]
      unfold kpN
      omega
    have hw : (nwL a t p).length = a.length := tabZ_len _ _
    have hwt : (nwT a t p).length ≤ 1000 := by rw [nwT_len]; unfold kpN; omega
    rw [en] at et ⊢
    rw [et]
    have hse := sumError_is (nwL a t p) (nwT a t p) (w64 (c + p.length)) (by omega) (by omega)
    rw [hw] at hse
    simp only [clone_is (nwT a t p) (by omega), bindO_val]
    rw [show tabZ (fun j => addZ (a.getD j (0, 0)) (corrF (t ++ p) j t.length)) a.length = nwL a t p from rfl]
    simp only [hse, bindO_val]
    unfold EG
    rw [hw]
    by_cases h2 : smE (nwL a t p) (nwT a t p) (w64 (c + p.length)) = 0
    · rw [if_pos h2, if_neg (by omega)]
    · rw [if_neg h2, if_pos h2]
  · rw [if_neg h, if_pos h]
end Gv
