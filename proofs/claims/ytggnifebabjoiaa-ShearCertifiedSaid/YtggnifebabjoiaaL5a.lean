/- The loops of the law about certified losses. -/
import Derived.Test.YtggnifebabjoiaaS23
import Derived.Test.YtggnifebabjoiaaP15a
namespace Gv
open Go
set_option maxRecDepth 100000
section
variable {l : List Z3} (ha : AscG l (-1)) (hl : l.length ≤ 20)
include ha hl
theorem l5_0 (ps : List Int) (len lim n f t lo hi : Int) : ∀ (m i : Nat), i + m = l.length → 1 ≤ i →
    Rlaw5_0 (Tlaw5_0b l.length (encT l) ps.length (encI ps) len lim n i (encI (trL l ps i)) l.length l.length l.length i f t lo hi l.length (encT l) l.length (encT (mixT wideG l i)) l.length (encT (mixT oppG l i)) i) =
      exO (Xlaw5_0b (l.length, encT l, len, lim, n, l.length, encI (trL l ps l.length), l.length, l.length, l.length, f, t, lo, hi, l.length, encT l, l.length, encT (l.map wideG), l.length, encT (l.map oppG), l.length))
  | 0, i, h1, h2 => by
    have hi : i = l.length := by omega
    subst hi
    refine Rlaw5_0b_of _ _ _ _ _ _ _ _ _ _ _ _ _ _ _ _ _ _ _ _ _ _ _ _ ?_
    unfold Blaw5_0b
    rw [bif_neg (by omega), mixT_all, mixT_all]
    rfl
  | m + 1, i, h1, h2 => by
    have hi' : i < l.length := by omega
    have he := List.getElem?_eq_getElem hi'
    generalize l[i] = e at he
    have g := gateE_ok (gate_at ha hi')
    have hin := trV_in ha ps i hi'
    have hw := mixT_step (f := wideG) (fun _ => rfl) hi'
    have ho := mixT_step (f := oppG) (fun _ => rfl) hi'
    have ih := l5_0 ps len lim n f t lo hi m (i + 1) (by omega) (by omega)
    have htr : trV l ps i = (gtA l i).2.1 + if i < ps.length then (ps[i]?.getD 0) % ((gtA l i).2.2 - (gtA l i).2.1 + 1) else 0 := rfl
    rw [gtA_of he] at g hin hw ho htr
    have w1 : w64 ((i : Int) + 1) = ((i + 1 : Nat) : Int) := by rw [w64_in (by omega)]; omega
    have w2 : w64 (w64 (e.2.2 - e.2.1) + 1) = e.2.2 - e.2.1 + 1 := by rw [w64_in (n := e.2.2 - e.2.1) (by omega), w64_in (by omega)]
    have w3 : w64 (e.2.1 - 3) = e.2.1 - 3 := w64_in (by omega)
    have w4 : w64 (e.2.2 + 3) = e.2.2 + 3 := w64_in (by omega)
    have w5 : w64 (0 - e.2.2) = -e.2.2 := by rw [w64_in (by omega)]; omega
    have w6 : w64 (0 - e.2.1) = -e.2.1 := by rw [w64_in (by omega)]; omega
    have w7 : w64 (trV l ps i) = trV l ps i := w64_in (by omega)
    have hw : overO (encT (mixT wideG l i)) (i * 3 + 1) [.int .i64 (if e.2.1 - 3 > -(10000 : Int) then e.2.1 - 3 else -10000), .int .i64 (if e.2.2 + 3 < 10000 then e.2.2 + 3 else 10000)] = some (encT (mixT wideG l (i + 1))) := hw
    have ho : overO (encT (mixT oppG l i)) (i * 3 + 1) [.int .i64 (-e.2.2), .int .i64 (-e.2.1)] = some (encT (mixT oppG l (i + 1))) := ho
    have c1 : (0 : Int) ≤ (i : Int) ∧ (i : Int) < (l.length : Int) := by omega
    have c2 : (i : Int) < (l.length : Int) := by omega
    have c0 : True ∧ i + 1 ≤ big := ⟨trivial, by unfold big; omega⟩
    have es : encI (trL l ps i) ++ [.int .i64 (trV l ps i)] = encI (trL l ps (i + 1)) := by rw [encI_snoc, trL_succ]
    refine Rlaw5_0b_of _ _ _ _ _ _ _ _ _ _ _ _ _ _ _ _ _ _ _ _ _ _ _ _ ?_
    unfold Blaw5_0b
    by_cases hp : i < ps.length
    · have hx := List.getElem?_eq_getElem hp
      generalize ps[i] = x at hx
      have hm := bMod_is x (e.2.2 - e.2.1 + 1) (by omega) (by omega)
      have c3 : (i : Int) < (ps.length : Int) := by omega
      have c4 : (0 : Int) ≤ (i : Int) ∧ (i : Int) < (ps.length : Int) := by omega
      rw [if_pos hp, hx] at htr
      have htr : e.2.1 + x % (e.2.2 - e.2.1 + 1) = trV l ps i := htr.symm
      simp only [bif_dec, c0, c1, c2, c3, c4, and_self, if_true, Int.toNat_natCast, Nat.mul_one, encT_1', encT_2, encI_get, he, hx, Option.map_some, intC_int, bindO_val, w1, w2, w3, w4, w5, w6, hm, hw, ho, htr, w7, es]
      exact ih
    · have c3 : ¬ (i : Int) < (ps.length : Int) := by omega
      rw [if_neg hp] at htr
      have htr : e.2.1 + 0 = trV l ps i := htr.symm
      simp only [bif_dec, c0, c1, c2, c3, and_self, if_true, if_false, Int.toNat_natCast, Nat.mul_one, encT_1', encT_2, encI_get, he, Option.map_some, intC_int, bindO_val, w1, w2, w3, w4, w5, w6, hw, ho, htr, w7, es]
      exact ih
theorem l5_0a (ps : List Int) (len lim n f t lo hi : Int) (h0 : 0 < l.length) :
    Rlaw5_0 (Tlaw5_0a l.length (encT l) ps.length (encI ps) len lim n l.length l.length l.length f t lo hi l.length (encT l) l.length (encT l) l.length (encT l)) =
      exO (Xlaw5_0b (l.length, encT l, len, lim, n, l.length, encI (trL l ps l.length), l.length, l.length, l.length, f, t, lo, hi, l.length, encT l, l.length, encT (l.map wideG), l.length, encT (l.map oppG), l.length)) := by
    have he := List.getElem?_eq_getElem h0
    generalize l[0] = e at he
    have g := gateE_ok (gate_at ha h0)
    have hin := trV_in ha ps 0 h0
    have hw := mixT_step (f := wideG) (fun _ => rfl) h0
    have ho := mixT_step (f := oppG) (fun _ => rfl) h0
    have ih := l5_0 ha hl ps len lim n f t lo hi (l.length - 1) 1 (by omega) (by omega)
    have htr : trV l ps 0 = (gtA l 0).2.1 + if 0 < ps.length then (ps[0]?.getD 0) % ((gtA l 0).2.2 - (gtA l 0).2.1 + 1) else 0 := rfl
    rw [gtA_of he] at g hin hw ho htr
    rw [mixT_zero] at hw ho
    have w2 : w64 (w64 (e.2.2 - e.2.1) + 1) = e.2.2 - e.2.1 + 1 := by rw [w64_in (n := e.2.2 - e.2.1) (by omega), w64_in (by omega)]
    have w3 : w64 (e.2.1 - 3) = e.2.1 - 3 := w64_in (by omega)
    have w4 : w64 (e.2.2 + 3) = e.2.2 + 3 := w64_in (by omega)
    have w5 : w64 (0 - e.2.2) = -e.2.2 := by rw [w64_in (by omega)]; omega
    have w6 : w64 (0 - e.2.1) = -e.2.1 := by rw [w64_in (by omega)]; omega
    have w7 : w64 (trV l ps 0) = trV l ps 0 := w64_in (by omega)
    have hw : overO (encT l) 1 [.int .i64 (if e.2.1 - 3 > -(10000 : Int) then e.2.1 - 3 else -10000), .int .i64 (if e.2.2 + 3 < 10000 then e.2.2 + 3 else 10000)] = some (encT (mixT wideG l 1)) := hw
    have ho : overO (encT l) 1 [.int .i64 (-e.2.2), .int .i64 (-e.2.1)] = some (encT (mixT oppG l 1)) := ho
    have g1 : (encT l)[1]? = some (.int .i64 e.2.1) := by
      have := encT_1 l 0
      rw [he] at this
      exact this
    have g2 : (encT l)[2]? = some (.int .i64 e.2.2) := by
      have := encT_2 l 0
      rw [he] at this
      exact this
    have c1 : (0 : Int) ≤ 0 ∧ (0 : Int) < (l.length : Int) := by omega
    have c2 : (0 : Int) < (l.length : Int) := by omega
    have es : [PV.int .i64 (trV l ps 0)] = encI (trL l ps 1) := rfl
    refine Rlaw5_0a_of _ _ _ _ _ _ _ _ _ _ _ _ _ _ _ _ _ _ _ _ ?_
    unfold Blaw5_0a
    by_cases hp : 0 < ps.length
    · have hx := List.getElem?_eq_getElem hp
      generalize ps[0] = x at hx
      have hm := bMod_is x (e.2.2 - e.2.1 + 1) (by omega) (by omega)
      have c3 : (0 : Int) < (ps.length : Int) := by omega
      have c4 : (0 : Int) ≤ 0 ∧ (0 : Int) < (ps.length : Int) := by omega
      rw [if_pos hp, hx] at htr
      have htr : e.2.1 + x % (e.2.2 - e.2.1 + 1) = trV l ps 0 := htr.symm
      simp only [bif_dec, c1, c2, c3, c4, and_self, if_true, g1, g2, encI_get, hx, Option.map_some, intC_int, bindO_val, w2, w3, w4, w5, w6, hm, hw, ho, htr, w7, es]
      exact ih
    · have c3 : ¬ (0 : Int) < (ps.length : Int) := by omega
      rw [if_neg hp] at htr
      have htr : e.2.1 + 0 = trV l ps 0 := htr.symm
      simp only [bif_dec, c1, c2, c3, and_self, if_true, if_false, g1, g2, Option.map_some, intC_int, bindO_val, w2, w3, w4, w5, w6, hw, ho, htr, w7, es]
      exact ih
theorem l5_4 (ps : List Int) {len n : Int} (lim f t lo hi : Int) (hn : ∀ i k, Near l len i k → trV l ps i - trV l ps k ≤ n) (n1 n2 n3 m1 m2 m3 b : Nat) (d1 d2 d3 : List PV) {i : Nat} (hi' : i < l.length) : ∀ (m k : Nat), k + m = l.length → i < k →
    Rlaw5_4 (Tlaw5_4a l.length (encT l) len lim n l.length (encI (trL l ps l.length)) n1 n2 n3 i k f t lo hi m1 d1 m2 d2 m3 d3 b) =
      exO (Xlaw5_4a (l.length, encT l, len, lim, n, l.length, encI (trL l ps l.length), n1, n2, n3, i, f, t, lo, hi, m1, d1, m2, d2, m3, d3, b))
  | 0, k, h1, h2 => by
    refine Rlaw5_4a_of _ _ _ _ _ _ _ _ _ _ _ _ _ _ _ _ _ _ _ _ _ _ _ ?_
    unfold Blaw5_4a
    rw [bif_neg (by omega)]
    rfl
  | m + 1, k, h1, h2 => by
    have hk : k < l.length := by omega
    have he := List.getElem?_eq_getElem hi'
    have he' := List.getElem?_eq_getElem hk
    have w1 : w64 ((k : Int) + 1) = ((k + 1 : Nat) : Int) := by rw [w64_in (by omega)]; omega
    have g := gateE_ok (gate_at ha hi')
    have g' := gateE_ok (gate_at ha hk)
    have q := trV_in ha ps i hi'
    have q' := trV_in ha ps k hk
    have hg := gtA_of he
    have hg' := gtA_of he'
    generalize l[i] = e at he hg
    generalize l[k] = e' at he' hg'
    rw [hg] at g q
    rw [hg'] at g' q'
    have w2 : w64 (e'.1 - e.1) = e'.1 - e.1 := w64_in (by omega)
    have w3 : w64 (trV l ps i - trV l ps k) = trV l ps i - trV l ps k := w64_in (by omega)
    have c1 : (0 : Int) ≤ (i : Int) ∧ (i : Int) < (l.length : Int) := by omega
    have c2 : (0 : Int) ≤ (k : Int) ∧ (k : Int) < (l.length : Int) := by omega
    have c3 : (k : Int) < (l.length : Int) := by omega
    have ih := l5_4 ps lim f t lo hi hn n1 n2 n3 m1 m2 m3 b d1 d2 d3 hi' m (k + 1) (by omega) (by omega)
    refine Rlaw5_4a_of _ _ _ _ _ _ _ _ _ _ _ _ _ _ _ _ _ _ _ _ _ _ _ ?_
    unfold Blaw5_4a
    simp only [bif_dec, c1, c2, c3, and_self, if_true, Int.toNat_natCast, Nat.mul_one, encT_0', encI_get, trL_get l ps hi', trL_get l ps hk, he, he', Option.map_some, intC_int, bindO_val, w1, w2, w3]
    by_cases hc : e'.1 - e.1 ≤ len
    · have := hn i k ⟨h2, hk, by rw [hg, hg']; exact hc⟩
      rw [if_pos hc, if_neg (by omega)]
      exact ih
    · rw [if_neg hc]
      exact ih
theorem l5_2 (ps : List Int) {len n : Int} (lim f t lo hi : Int) (hn : ∀ i k, Near l len i k → trV l ps i - trV l ps k ≤ n) (n1 n2 n3 m1 m2 m3 b : Nat) (d1 d2 d3 : List PV) : ∀ (m i : Nat), i + m = l.length →
    Rlaw5_2 (Tlaw5_2a l.length (encT l) len lim n l.length (encI (trL l ps l.length)) n1 n2 n3 i f t lo hi m1 d1 m2 d2 m3 d3 b) =
      exO (Xlaw5_2a (l.length, encT l, len, lim, l.length, encI (trL l ps l.length), n1, n2, n3, f, t, lo, hi, m1, d1, m2, d2, m3, d3, b))
  | 0, i, h1 => by
    refine Rlaw5_2a_of _ _ _ _ _ _ _ _ _ _ _ _ _ _ _ _ _ _ _ _ _ _ ?_
    unfold Blaw5_2a
    rw [bif_neg (by omega)]
    rfl
  | m + 1, i, h1 => by
    have w1 : w64 ((i : Int) + 1) = ((i + 1 : Nat) : Int) := by rw [w64_in (by omega)]; omega
    have ih := l5_2 ps lim f t lo hi hn n1 n2 n3 m1 m2 m3 b d1 d2 d3 m (i + 1) (by omega)
    have h4 := Llaw5_4a_of (l5_4 ha hl ps lim f t lo hi hn n1 n2 n3 m1 m2 m3 b d1 d2 d3 (show i < l.length by omega) m (i + 1) (by omega) (by omega))
    refine Rlaw5_2a_of _ _ _ _ _ _ _ _ _ _ _ _ _ _ _ _ _ _ _ _ _ _ ?_
    unfold Blaw5_2a
    rw [bif_pos (by omega)]
    simp only [w1, h4, bindO_val, Sum.elim]
    exact ih
theorem l5_6 (ps : List Int) {lim : Int} (hlim : 1 ≤ lim ∧ lim ≤ 20000) (b : Nat) : ∀ (m j : Nat), j + m = (rmV l lim).length →
    Rlaw5_6 (Tlaw5_6a l.length (encT l) lim l.length (encI (trL l ps l.length)) (rmV l lim).length (encG (rmV l lim)) j b) = exO (Xlaw5_6b b)
  | 0, j, h1 => by
    refine Rlaw5_6a_of _ _ _ _ _ _ _ _ _ ?_
    unfold Blaw5_6a
    rw [bif_neg (by omega)]
    rfl
  | m + 1, j, h1 => by
    have hj : j < (rmV l lim).length := by omega
    have hR := rmV_ok l lim
    have w1 : w64 ((j : Int) + 1) = ((j + 1 : Nat) : Int) := by rw [w64_in (by omega)]; omega
    have ih := l5_6 ps hlim b m (j + 1) (by omega)
    have hz := List.getElem?_eq_getElem hj
    have hmem : (rmV l lim)[j] ∈ rmV l lim := List.getElem_mem hj
    have hf := ramp_falls hmem (tr := trV l ps) (trV_in ha ps)
    have hpw : ∀ z, j > 0 → (rmV l lim)[j - 1]? = some z → z.2 < ((rmV l lim)[j]).1 := by
      intro z hj0 hz'
      have := List.pairwise_iff_getElem.1 hR.1.1 (j - 1) j (by omega) hj (by omega)
      rw [List.getElem?_eq_getElem (by omega)] at hz'
      injection hz' with e
      rw [← e]
      exact this
    generalize (rmV l lim)[j] = z at hz hf hpw
    obtain ⟨z1, z2⟩ := z
    simp only at hf hpw
    obtain ⟨a, rfl⟩ : ∃ a : Nat, z1 = a := ⟨z1.toNat, by omega⟩
    obtain ⟨c, rfl⟩ : ∃ c : Nat, z2 = c := ⟨z2.toNat, by omega⟩
    simp only [Int.toNat_natCast] at hf
    obtain ⟨f1, f2, f3, f4⟩ := hf
    have ga := gateE_ok (gate_at ha (show a < l.length by omega))
    have gc := gateE_ok (gate_at ha (show c < l.length by omega))
    have q := trV_in ha ps a (by omega)
    have q' := trV_in ha ps c (by omega)
    have w2 : w64 ((c : Int) - 1) = (c : Int) - 1 := w64_in (by omega)
    have w3 : w64 (trV l ps a - trV l ps c) = trV l ps a - trV l ps c := w64_in (by omega)
    have w4 : w64 ((c : Int) - (a : Int)) = (c : Int) - a := w64_in (by omega)
    have hb : 0 ≤ lim * ((c : Int) - a) ∧ lim * ((c : Int) - a) ≤ 20000 * 20 := by
      constructor
      · exact Int.mul_nonneg (by omega) (by omega)
      · exact Int.le_trans (Int.mul_le_mul_of_nonneg_right hlim.2 (by omega)) (Int.mul_le_mul_of_nonneg_left (by omega) (by omega))
    have w5 : w64 (lim * ((c : Int) - a)) = lim * ((c : Int) - a) := w64_in (by omega)
    have w6 : w64 ((j : Int) - 1) = (j : Int) - 1 := w64_in (by omega)
    have c1 : (0 : Int) ≤ (j : Int) ∧ (j : Int) < ((rmV l lim).length : Int) := by omega
    have c2 : (j : Int) < ((rmV l lim).length : Int) := by omega
    have c3 : (0 : Int) ≤ (a : Int) ∧ (a : Int) < (l.length : Int) := by omega
    have c4 : (0 : Int) ≤ (c : Int) ∧ (c : Int) < (l.length : Int) := by omega
    have c5 : ¬ (c : Int) ≥ (l.length : Int) := by omega
    have c6 : ¬ (trV l ps a - trV l ps c < lim * ((c : Int) - a)) := by omega
    have c7 : (0 : Int) ≤ (a : Int) ∧ (a : Int) ≤ (c : Int) - 1 := by omega
    refine Rlaw5_6a_of _ _ _ _ _ _ _ _ _ ?_
    unfold Blaw5_6a
    by_cases hj0 : (j : Int) > 0
    · have hz' := List.getElem?_eq_getElem (show j - 1 < (rmV l lim).length by omega)
      have hp := hpw _ (by omega) hz'
      generalize (rmV l lim)[j - 1] = y at hz' hp
      have c8 : (0 : Int) ≤ (j : Int) - 1 ∧ (j : Int) - 1 < ((rmV l lim).length : Int) := by omega
      have e8 : ((j : Int) - 1).toNat = j - 1 := by omega
      have c9 : ¬ (a : Int) ≤ y.2 := by omega
      simp only [bif_dec, c1, c2, c3, c4, c5, c6, c7, c8, c9, hj0, e8, bWi_is, and_self, if_true, if_false, decide_true, cond_true, Int.toNat_natCast, Nat.mul_one, encG_0, encG_1, Nat.add_zero, encI_get, trL_get l ps (show a < l.length by omega), trL_get l ps (show c < l.length by omega), hz, hz', Option.map_some, intC_int, bindO_val, w1, w2, w3, w4, w5, w6]
      exact ih
    · simp only [bif_dec, c1, c2, c3, c4, c5, c6, c7, hj0, bWi_is, and_self, if_true, if_false, decide_true, cond_true, Int.toNat_natCast, Nat.mul_one, encG_0, encG_1, Nat.add_zero, encI_get, trL_get l ps (show a < l.length by omega), trL_get l ps (show c < l.length by omega), hz, Option.map_some, intC_int, bindO_val, w1, w2, w3, w4, w5, w6]
      exact ih
end
end Gv
