/- The law about telegrams that are changed. -/
import Derived.Test.YtggnifebabjoiaaA0
import Derived.Test.YtggnifebabjoiaaP12
namespace Gv
open Go
set_option maxRecDepth 100000
theorem d17 {a b c d e f g : Int} (h0 : 0 ≤ a ∧ a ≤ 250) (h1 : 0 ≤ b ∧ b ≤ 250) (h2 : 0 ≤ c ∧ c ≤ 250) (h3 : 0 ≤ d ∧ d ≤ 250) (h4 : 0 ≤ e ∧ e ≤ 250) (h5 : 0 ≤ f ∧ f ≤ 250) (h6 : 0 ≤ g ∧ g ≤ 250)
    (h : (a + 2 * b + 3 * c + 4 * d + 5 * e + 6 * f + 7 * g) % 251 ≠ 0) : decV a b c d e f g = (0, 0, 0, 0, 17) := by
  unfold decV
  have ho : outE [a, b, c, d, e, f, g] = 0 := by
    unfold outE
    rw [if_pos]
    simp only [List.mem_cons, List.not_mem_nil, or_false, forall_eq_or_imp, forall_eq]
    exact ⟨h0, h1, h2, h3, h4, h5, h6⟩
  rw [ho, prv_small h0 h1 h2 h3 h4 h5 h6, decide_eq_false h]
  rfl
theorem dOK {r n k v : Int} (ht : telE r n k v = 0) : decV r (n / 251) (n % 251) k (v / 251) (v % 251) (lastW (baseW r n k v)) = (r, n, k, v, 0) := by
  obtain ⟨h0, h1, h2, h3, h4, h5⟩ := parts_ok ht
  have h6 := lastW_rng (baseW r n k v)
  have hh := telE_ok ht
  unfold decV
  have ho : outE [r, n / 251, n % 251, k, v / 251, v % 251, lastW (baseW r n k v)] = 0 := by
    unfold outE
    rw [if_pos]
    simp only [List.mem_cons, List.not_mem_nil, or_false, forall_eq_or_imp, forall_eq]
    exact ⟨h0, h1, h2, h3, h4, h5, h6⟩
  rw [ho, prv_at ht h6, decide_eq_true (lastW_ok _)]
  rw [w64_in (n := n / 251 * 251) (by omega), w64_in (n := n / 251 * 251 + n % 251) (by omega), w64_in (n := v / 251 * 251) (by omega), w64_in (n := v / 251 * 251 + v % 251) (by omega)]
  rw [show n / 251 * 251 + n % 251 = n by omega, show v / 251 * 251 + v % 251 = v by omega, ht]
  rfl
def gw (l : List Int) (m : Nat) : Int := l.getD m 0
def sumS (l : List Int) : Int := gw l 0 + 2 * gw l 1 + 3 * gw l 2 + 4 * gw l 3 + 5 * gw l 4 + 6 * gw l 5 + 7 * gw l 6
theorem lt7 {i : Nat} (h : i < 7) : i = 0 ∨ i = 1 ∨ i = 2 ∨ i = 3 ∨ i = 4 ∨ i = 5 ∨ i = 6 := by omega
theorem sum_set (a b c d e f g x : Int) {i : Nat} (h : i < 7) : sumS ([a, b, c, d, e, f, g].set i x) = sumS [a, b, c, d, e, f, g] + ((i : Int) + 1) * (x - gw [a, b, c, d, e, f, g] i) := by
  rcases lt7 h with rfl | rfl | rfl | rfl | rfl | rfl | rfl <;> simp [sumS, gw] <;> omega
theorem sum_set' {l : List Int} (hl : l.length = 7) (x : Int) {i : Nat} (h : i < 7) : sumS (l.set i x) = sumS l + ((i : Int) + 1) * (x - gw l i) := by
  match l, hl with
  | [a, b, c, d, e, f, g], _ => exact sum_set a b c d e f g x h
theorem gw_get {l : List Int} {i : Nat} (h : i < l.length) : (encI l)[i]? = some (.int .i64 (gw l i)) := by
  rw [encI_get, get_getD 0 h]
  rfl
theorem overO_set {l : List Int} {i : Nat} (h : i < l.length) (x : Int) : overO (encI l) (0 + i * 1) [.int .i64 x] = some (encI (l.set i x)) := by
  rw [overO_of (by rw [encI_len]; simp only [List.length_cons, List.length_nil]; omega)]
  have e : l = l.take i ++ l[i] :: l.drop (i + 1) := by rw [List.getElem_cons_drop, List.take_append_drop]
  have h2 := over_I (l.take i) (l.drop (i + 1)) l[i] x
  have hl : (l.take i).length = i := by simp; omega
  rw [hl, ← e] at h2
  rw [h2]
  congr 2
  rw [List.set_eq_take_append_cons_drop, if_pos h]
def Ws (l : List Int) : Prop := l.length = 7 ∧ ∀ m, 0 ≤ gw l m ∧ gw l m ≤ 250
theorem ws_set {l : List Int} (h : Ws l) {i : Nat} {x : Int} (hx : 0 ≤ x ∧ x ≤ 250) : Ws (l.set i x) := by
  refine ⟨by rw [List.length_set]; exact h.1, fun m => ?_⟩
  have hm := h.2 m
  unfold gw at *
  rw [List.getD_eq_getElem?_getD] at *
  rw [List.getElem?_set]
  split
  · split
    · simpa using hx
    · simp
  · exact hm
theorem d17l {l : List Int} (h : Ws l) (hs : sumS l % 251 ≠ 0) : decV (gw l 0) (gw l 1) (gw l 2) (gw l 3) (gw l 4) (gw l 5) (gw l 6) = (0, 0, 0, 0, 17) :=
  d17 (h.2 0) (h.2 1) (h.2 2) (h.2 3) (h.2 4) (h.2 5) (h.2 6) hs
theorem far {i j : Nat} {x y : Int} (hi : i < 7) (hj : j < 7) (hx : 0 ≤ x ∧ x ≤ 250) (hy : 0 ≤ y ∧ y ≤ 250) (hij : i ≠ j) (hxy : x ≠ y) : (((i : Int) + 1) * (y - x) + ((j : Int) + 1) * (x - y)) % 251 ≠ 0 := by
  have e : ((i : Int) + 1) * (y - x) + ((j : Int) + 1) * (x - y) = ((i : Int) - j) * (y - x) := by grind
  rw [e]
  obtain ⟨k, hk⟩ : ∃ k : Int, k = (i : Int) - j := ⟨_, rfl⟩
  rw [← hk]
  have hk2 : k = -6 ∨ k = -5 ∨ k = -4 ∨ k = -3 ∨ k = -2 ∨ k = -1 ∨ k = 1 ∨ k = 2 ∨ k = 3 ∨ k = 4 ∨ k = 5 ∨ k = 6 := by omega
  rcases hk2 with h | h | h | h | h | h | h | h | h | h | h | h <;> rw [h] <;> omega
theorem near {i : Nat} {d : Int} (hi : i < 7) (hd : -250 ≤ d ∧ d ≤ 250) (h : d ≠ 0) : (((i : Int) + 1) * d) % 251 ≠ 0 := by
  rcases lt7 hi with rfl | rfl | rfl | rfl | rfl | rfl | rfl <;> simp <;> omega
theorem tamperedLaw (r n k v p q s : Int) : Flaw12 [.agg [.int .i64 r, .int .i64 n, .int .i64 k, .int .i64 v], .agg [.int .i64 p, .int .i64 q, .int .i64 s]] = some true := by
  refine Flaw12_of _ _ _ _ _ _ _ ?_
  unfold tlaw12
  simp only [awake_is, cond_true, rTE_is, enc_is, dcd_is, bindO_val, bif_ne]
  by_cases ht : telE r n k v = 0
  · have hd := dOK ht
    obtain ⟨h0, h1, h2, h3, h4, h5⟩ := parts_ok ht
    have h6 := lastW_rng (baseW r n k v)
    have hs : (r + 2 * (n / 251) + 3 * (n % 251) + 4 * k + 5 * (v / 251) + 6 * (v % 251) + 7 * lastW (baseW r n k v)) % 251 = 0 := lastW_ok (baseW r n k v)
    simp only [encV, ht, if_true]
    have hA : FbMod [.int .i64 p, .int .i64 7] = _ := bMod_is p 7 (by omega) (by omega)
    have hB : FbMod [.int .i64 q, .int .i64 7] = _ := bMod_is q 7 (by omega) (by omega)
    have hC : FbMod [.int .i64 s, .int .i64 250] = _ := bMod_is s 250 (by omega) (by omega)
    have hM : ∀ x t : Int, 0 ≤ x ∧ x ≤ 250 → 0 ≤ t ∧ t < 250 → FbMod [.int .i64 (w64 (w64 (x + 1) + t)), .int .i64 251] = some ((x + 1 + t) % 251) := fun x t hx hr => by
      rw [w64_in (n := x + 1) (by omega), w64_in (by omega)]
      exact bMod_is _ 251 (by omega) (by omega)
    obtain ⟨i, hi⟩ : ∃ i : Nat, (i : Int) = p % 7 := ⟨(p % 7).toNat, by omega⟩
    obtain ⟨j, hj⟩ : ∃ j : Nat, (j : Int) = q % 7 := ⟨(q % 7).toNat, by omega⟩
    have hi7 : i < 7 := by omega
    have hj7 : j < 7 := by omega
    have hr : 0 ≤ s % 250 ∧ s % 250 < 250 := by omega
    rw [← hi] at hA
    rw [← hj] at hB
    generalize hl : [r, n / 251, n % 251, k, v / 251, v % 251, lastW (baseW r n k v)] = l at *
    have hlen : l.length = 7 := by rw [← hl]; rfl
    have hW : Ws l := by
      refine ⟨hlen, fun m => ?_⟩
      rw [← hl]
      unfold gw
      by_cases hm : m < 7
      · rcases lt7 hm with rfl | rfl | rfl | rfl | rfl | rfl | rfl <;> assumption
      · rw [List.getD_eq_getElem?_getD, List.getElem?_eq_none (by simp only [List.length_cons, List.length_nil]; omega)]
        exact ⟨Int.le_refl 0, by decide⟩
    have hsum : sumS l % 251 = 0 := by rw [← hl]; exact hs
    have he : [PV.int .i64 r, .int .i64 (n / 251), .int .i64 (n % 251), .int .i64 k, .int .i64 (v / 251), .int .i64 (v % 251), .int .i64 (lastW (baseW r n k v))] = encI l := by rw [← hl]; rfl
    have hdl : decV (gw l 0) (gw l 1) (gw l 2) (gw l 3) (gw l 4) (gw l 5) (gw l 6) = (r, n, k, v, 0) := by rw [← hl]; exact hd
    have gi : (encI l)[0 + i * 1]? = some (.int .i64 (gw l i)) := by rw [show 0 + i * 1 = i by omega]; exact gw_get (by omega)
    have gj : (encI l)[0 + j * 1]? = some (.int .i64 (gw l j)) := by rw [show 0 + j * 1 = j by omega]; exact gw_get (by omega)
    have oi : ∀ x : Int, overO (encI l) (0 + i * 1) [.int .i64 x] = some (encI (l.set i x)) := fun x => overO_set (by omega) x
    have oj : ∀ x y : Int, overO (encI (l.set i y)) (0 + j * 1) [.int .i64 x] = some (encI ((l.set i y).set j x)) := fun x y => overO_set (by rw [List.length_set]; omega) x
    have wi := hW.2 i
    have wj := hW.2 j
    simp only [he, hd, beq_self_eq_true, Bool.and_self, Bool.not_true, cond_false, if_true, hA, hB, bindO_val]
    have z1 : (0 : Int) ≤ (i : Int) ∧ (i : Int) < 7 := by omega
    have z2 : (0 : Int) ≤ (j : Int) ∧ (j : Int) < 7 := by omega
    simp only [bif_pos z1, bif_pos z2, Int.toNat_natCast, gi, gj, intC_int, bindO_val, hC]
    have hM' := hM (gw l i) (s % 250) wi hr
    simp only [hM', bindO_val, oi, oj]
    have hy : 0 ≤ (gw l i + 1 + s % 250) % 251 ∧ (gw l i + 1 + s % 250) % 251 ≤ 250 := by omega
    have w1 : Ws (l.set i ((gw l i + 1 + s % 250) % 251)) := ws_set hW hy
    have w2 : Ws ((l.set i (gw l j)).set j (gw l i)) := ws_set (ws_set hW wj) wi
    have c1 := d17l w1 (by
      rw [sum_set' hlen _ hi7]
      have := near hi7 (d := (gw l i + 1 + s % 250) % 251 - gw l i) (by omega) (by omega)
      omega)
    have g1 : ∀ m, m < 7 → (encI (l.set i ((gw l i + 1 + s % 250) % 251)))[m]? = some (.int .i64 (gw (l.set i ((gw l i + 1 + s % 250) % 251)) m)) := fun m hm => gw_get (by rw [w1.1]; exact hm)
    have g2 : ∀ m, m < 7 → (encI ((l.set i (gw l j)).set j (gw l i)))[m]? = some (.int .i64 (gw ((l.set i (gw l j)).set j (gw l i)) m)) := fun m hm => gw_get (by rw [w2.1]; exact hm)
    simp only [g1 0 (by omega), g1 1 (by omega), g1 2 (by omega), g1 3 (by omega), g1 4 (by omega), g1 5 (by omega), g1 6 (by omega), g2 0 (by omega), g2 1 (by omega), g2 2 (by omega), g2 3 (by omega), g2 4 (by omega), g2 5 (by omega), g2 6 (by omega), intC_int, bindO_val, dcd_is, c1, beq_self_eq_true, cond_true]
    by_cases hx : gw l i = gw l j
    · have e2 : (l.set i (gw l j)).set j (gw l i) = l := by
        have s1 : ∀ (m : Nat) (x : Int), m < 7 → gw l m = x → l.set m x = l := by
          intro m x hm hx
          have : l[m]? = some x := by
            have := get_getD (l := l) (i := m) 0 (by omega)
            rw [this, ← hx]; rfl
          refine List.ext_getElem? fun m' => ?_
          rw [List.getElem?_set]
          split
          · rename_i e
            subst e
            rw [if_pos (by omega), this]
          · rfl
        rw [s1 i (gw l j) hi7 hx, s1 j (gw l i) hj7 hx.symm]
      rw [e2, hdl]
      simp [hx]
    · have hij : i ≠ j := fun e => hx (by rw [e])
      have gset : gw (l.set i (gw l j)) j = gw l j := by
        unfold gw
        rw [List.getD_eq_getElem?_getD, List.getElem?_set_ne hij, ← List.getD_eq_getElem?_getD]
      have c2 := d17l w2 (by
        rw [sum_set' (by rw [List.length_set]; exact hlen) _ hj7, sum_set' hlen _ hi7, gset]
        have := far hi7 hj7 wi wj hij hx
        omega)
      rw [c2]
      simp [hx]
  · simp only [ht, if_false]
end Gv
