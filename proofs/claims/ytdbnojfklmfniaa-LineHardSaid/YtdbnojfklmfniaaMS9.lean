/- Hard targets: the law. -/
import Derived.Test.YtdbnojfklmfniaaMA
import Derived.Test.YtdbnojfklmfniaaMS8
import Derived.Test.YtdbnojfklmfniaaMW1
import Derived.Test.YtdbnojfklmfniaaM10
namespace Gv
open Go
set_option maxRecDepth 100000

def shB : List (List Int) → Bool
  | [] => true
  | x :: r => decide (x.length ≤ 20) && shB r
theorem shB_ok : ∀ {g : List (List Int)}, shB g = true → Sh g
  | [], _, x, hx => by simp at hx
  | y :: r, h, x, hx => by
    simp only [shB, Bool.and_eq_true, decide_eq_true_iff] at h
    rcases List.mem_cons.1 hx with rfl | hx
    · exact h.1
    · exact shB_ok h.2 x hx

def h0S (b : Bool) (g : List (List Int)) (m z w p q : Int) : Unit ⊕ (Nat × List PV × Int × Int × Int × Int × Int) := if b = true then .inr (g.length, encLL g, m, z, w, p, q) else .inl ()
theorem hd0_loop (g : List (List Int)) (hg : g.length ≤ 1000) (m z w p q : Int) : ∀ i, i ≤ g.length →
    RLwLineHard_0 (TLwLineHard_0a g.length (encLL g) m i z w p q) = exO (XLLwLineHard_0.fn (h0S (shB (g.drop i)) g m z w p q)) := by
  refine up_ind _ ?_ ?_
  · refine RLwLineHard_0a_of _ _ _ _ _ _ _ _ ?_
    unfold BLwLineHard_0a
    rw [bif_neg (by omega), List.drop_length]
    rfl
  · intro i hi ih
    obtain ⟨x, hx, hd⟩ := get_drop hi
    refine RLwLineHard_0a_of _ _ _ _ _ _ _ _ ?_
    unfold BLwLineHard_0a
    rw [bif_pos (by omega), bif_pos (by omega)]
    simp only [Int.toNat_natCast, Nat.mul_one, encLL_get, hx, Option.map_some, listC_list, bindO_val, short_is, bif_dec]
    rw [hd, w64_in (by omega)]
    by_cases he : x.length ≤ 20
    · rw [if_pos he, show shB (x :: g.drop (i + 1)) = shB (g.drop (i + 1)) by simp [shB, he]]
      exact ih
    · rw [if_neg he, show shB (x :: g.drop (i + 1)) = false by simp [shB, he]]
      rfl

/-! ### A gate with all its power at one line -/

def oneL (k : Nat) (m : Int) : List Int := List.replicate k 0 ++ [m]
@[simp] theorem one_len (k : Nat) (m : Int) : (oneL k m).length = k + 1 := by simp [oneL]
theorem one_at (k : Nat) (m : Int) : (oneL k m).getD k 0 = m := by
  unfold oneL
  rw [List.getD_eq_getElem?_getD, List.getElem?_append_right (by simp)]
  simp
theorem one_off (k : Nat) (m : Int) {j : Nat} (h : j ≠ k) : (oneL k m).getD j 0 = 0 := by
  unfold oneL
  rw [List.getD_eq_getElem?_getD]
  by_cases hj : j < k
  · rw [List.getElem?_append_left (by simp; omega), List.getElem?_replicate, if_pos hj]
    rfl
  · rw [List.getElem?_eq_none (by simp; omega)]
    rfl
theorem pw_one {l : List Int} {k : Nat} (h : ∀ j, j ≠ k → l.getD j 0 = 0) : ∀ n i, i ≤ k → k < i + n → pw l i n = l.getD k 0
  | 0, i, h1, h2 => by omega
  | n + 1, i, h1, h2 => by
    rw [pw]
    by_cases e : i = k
    · subst e
      rw [pw_zero n (i + 1) fun j a _ => h j (by omega)]
      omega
    · rw [h i e, pw_one h n (i + 1) (by omega) (by omega)]
      omega
theorem one_sp {k : Nat} {m : Int} (hk : k ≤ 15) (hm : 0 ≤ m ∧ m ≤ 10000) : Sp (oneL k m) := by
  refine ⟨by simp, by simp; omega, fun x hx => ?_⟩
  unfold oneL at hx
  rcases List.mem_append.1 hx with h | h
  · rw [List.eq_of_mem_replicate h]; omega
  · rw [List.mem_singleton.1 h]; exact hm
theorem one_hard {k : Nat} {w p q : Int} (h : Hp k w p q) : hdB (oneL k (if p < 10000 then p else 10000)) k w p q = decide (p ≤ 10000) := by
  have a1 := h.w0; have a2 := h.p0; have a3 := h.q1
  obtain ⟨m, hm⟩ : ∃ m, m = if p < 10000 then p else 10000 := ⟨_, rfl⟩
  have m0 : 0 ≤ m := by rw [hm]; split <;> omega
  rw [← hm]
  have e1 : hS (oneL k m) k w = m := by
    unfold hS
    rw [pw_one (k := k) (fun j hj => one_off k m hj) _ _ (by simp only [nLo]; omega) (by simp only [nLo, nN, one_len]; omega), one_at]
  have e2 : sumL (oneL k m) = m := by
    unfold sumL
    rw [pw_one (k := k) (fun j hj => one_off k m hj) _ _ (by omega) (by rw [one_len]; omega), one_at]
  unfold hdB
  rw [e1, e2]
  have hq : q * m ≤ 100 * m := Int.mul_le_mul_of_nonneg_right a3 m0
  rw [decide_eq_true hq, Bool.and_true, Bool.eq_iff_iff, decide_eq_true_iff, decide_eq_true_iff, hm]
  split <;> omega
theorem one_over (k : Nat) (m : Int) : overO (rep [.int .i64 0] (k + 1)) (0 + k * 1) [.int .i64 m] = some (encI (oneL k m)) := by
  rw [rep_I, show List.replicate (k + 1) (0 : Int) = List.replicate k 0 ++ 0 :: [] by rw [List.replicate_succ']]
  rw [overO_of (by simp [encI])]
  have := over_I (List.replicate k 0) [] 0 m
  rw [List.length_replicate] at this
  rw [this]
  rfl
def oneR (p : Int) : (Nat × List PV) × Int := if p ≤ 10000 then ((1, [.int .i64 0]), 0) else ((0, []), 0)
theorem one_list {k : Nat} {w p q : Int} (h : Hp k w p q) : hdR [oneL k (if p < 10000 then p else 10000)] k w p q = oneR p := by
  unfold oneR
  have a1 := h.z1; have a2 := h.p0
  have sp : Sp (oneL k (if p < 10000 then p else 10000)) := one_sp (by omega) (by split <;> omega)
  have e : hdE [oneL k (if p < 10000 then p else 10000)] k w p q = 0 := by
    unfold hdE gE gE0 gE0
    rw [if_neg (by simp), if_neg (by rw [sp_in sp]; exact fun h => h rfl), hp_in h]
    rfl
  unfold hdR
  rw [if_neg (by rw [e]; exact fun h => h rfl)]
  have c : hdF [oneL k (if p < 10000 then p else 10000)] k w p q 0 = decide (p ≤ 10000) := one_hard h
  have hL : hdL [oneL k (if p < 10000 then p else 10000)] k w p q = if p ≤ 10000 then [0] else [] := by
    unfold hdL
    rw [List.length_singleton]
    unfold colI colI
    rw [c]
    by_cases hp : p ≤ 10000
    · rw [decide_eq_true hp, if_pos rfl, if_pos hp]
      rfl
    · rw [decide_eq_false hp, if_neg (by simp), if_neg hp]
  rw [hL]
  by_cases hp : p ≤ 10000
  · rw [if_pos hp, if_pos hp]; rfl
  · rw [if_neg hp, if_neg hp]; rfl

/-! ### With a greater percentage -/

theorem colI_le {a b : Nat → Bool} (h : ∀ j, a j = true → b j = true) : ∀ n i, (colI a n i).length ≤ (colI b n i).length
  | 0, i => Nat.le_refl _
  | n + 1, i => by
    have := colI_le h n (i + 1)
    unfold colI
    by_cases ha : a i = true
    · rw [if_pos ha, if_pos (h i ha)]
      simpa using this
    · rw [if_neg ha]
      split
      · simp only [List.length_cons]; omega
      · exact this
theorem colI_sub {a b : Nat → Bool} (h : ∀ j, a j = true → b j = true) {n i : Nat} {x : Int} (hx : x ∈ colI a n i) : x ∈ colI b n i := by
  obtain ⟨k, h1, h2, h3, h4⟩ := colI_mem.1 hx
  exact colI_mem.2 ⟨k, h1, h2, h3, h k h4⟩
theorem hdB_less {l : List Int} {z w p q q' : Int} (hq : q ≤ q') (hs : 0 ≤ sumL l) (h : hdB l z w p q' = true) : hdB l z w p q = true := by
  unfold hdB at h ⊢
  simp only [Bool.and_eq_true, decide_eq_true_iff] at h ⊢
  have := Int.mul_le_mul_of_nonneg_right hq hs
  exact ⟨h.1, by omega⟩

theorem hd59 (g : List (List Int)) (hg : g.length ≤ 1000) (sp : ∀ x ∈ g, Sp x) (m : Int) {z w p q : Int} (h : Hp z w p q) :
    RLwLineHard_1000059 (TLwLineHard_1000059a g.length (encLL g) m (hdL g z w p q).length (encI (hdL g z w p q)) 0 z w p q) =
      exO (XLwLineHard_1000059b (g.length, encLL g, m, (hdL g z w p q).length, encI (hdL g z w p q), z, w, p, q)) := by
  have hD : (hdL g z w p q).length ≤ g.length := colI_len _ _ _
  refine RLwLineHard_1000059a_of _ _ _ _ _ _ _ _ _ _ ?_
  unfold BLwLineHard_1000059a
  simp only [bif_ne, if_true, refHard_is g hg sp h, bindO_val, lints_refl (hdL g z w p q) (by omega), cond_true]
  rfl
theorem hd46 (n : Nat) (c : List PV) (m : Int) (n' : Nat) (c' : List PV) (z w p q : Int) :
    RLwLineHard_1000046 (TLwLineHard_1000046a n c m n' c' (oneR p).1.1 (oneR p).1.2 (oneR p).2 z w p q) =
      exO (XLwLineHard_1000046b (n, c, m, n', c', z, w, p, q)) := by
  refine RLwLineHard_1000046a_of _ _ _ _ _ _ _ _ _ _ _ _ ?_
  unfold BLwLineHard_1000046a oneR
  by_cases hp : p ≤ 10000
  · simp only [hp, if_true, decide_true, cond_true]
    rfl
  · simp only [hp, if_false, decide_false, cond_false]
    rfl
def m39 (n : Nat) (c : List PV) (m : Int) (n' : Nat) (c' : List PV) (z w p q : Int) : Unit ⊕ (Nat × List PV × Int × Nat × List PV × Int × Int × Int × Int) :=
  if rangeE m 0 100 = 0 ∧ q + m ≤ 100 then .inr (n, c, m, n', c', z, w, p, q) else .inl ()
theorem hd39 (n : Nat) (c : List PV) (m : Int) (n' : Nat) (c' : List PV) (z w p q : Int) (hq : 0 ≤ q ∧ q ≤ 100) :
    RLwLineHard_1000039 (TLwLineHard_1000039a n c m n' c' z w p q) = exO (XLLwLineHard_1000039.fn (m39 n c m n' c' z w p q)) := by
  refine RLwLineHard_1000039a_of _ _ _ _ _ _ _ _ _ ?_
  unfold BLwLineHard_1000039a m39
  simp only [within_is, bindO_val, bif_dec]
  by_cases h1 : rangeE m 0 100 = 0
  · have := rangeE_ok h1
    rw [if_pos h1, w64_in (by omega)]
    by_cases h2 : q + m ≤ 100
    · rw [if_neg (by omega), if_pos ⟨h1, h2⟩]
      rfl
    · rw [if_pos (by omega), if_neg (fun k => h2 k.2)]
      rfl
  · rw [if_neg h1, if_neg (fun k => h1 k.1)]
    rfl
theorem hd26 (a c : List Int) (h : c.length ≤ a.length) :
    RLwLineHard_1000026 (TLwLineHard_1000026a a.length (encI a) c.length (encI c) 0) = exO (XLwLineHard_1000026b (a.length, encI a, c.length, encI c)) := by
  refine RLwLineHard_1000026a_of _ _ _ _ _ ?_
  unfold BLwLineHard_1000026a
  simp only [bif_ne, if_true]
  rw [bif_neg (by omega)]
  rfl
theorem hd2 (a c : List Int) (ha : a.length ≤ 1000) (hc : c.length ≤ 1000) (h : ∀ x ∈ c, x ∈ a) : ∀ i, i ≤ c.length →
    RLwLineHard_2 (TLwLineHard_2a a.length (encI a) c.length (encI c) i) = exO (XLwLineHard_2b ()) := by
  refine up_ind _ ?_ ?_
  · refine RLwLineHard_2a_of _ _ _ _ _ ?_
    unfold BLwLineHard_2a
    rw [bif_neg (by omega)]
    rfl
  · intro i hi ih
    refine RLwLineHard_2a_of _ _ _ _ _ ?_
    unfold BLwLineHard_2a
    rw [bif_pos (by omega), bif_pos (by omega)]
    simp only [Int.toNat_natCast, Nat.mul_one, encI_get, get_getD 0 hi, Option.map_some, intC_int, bindO_val, has_is a _ (show a.length < 4294967296 by omega)]
    rw [decide_eq_true (h _ (getD_mem hi)), cond_true, w64_in (by omega)]
    exact ih

theorem hardLaw (g : List (List Int)) (z w p q m : Int) : FLwLineHard [.list g.length (encLL g), .agg [.int .i64 z, .int .i64 w, .int .i64 p, .int .i64 q], .int .i64 m] = some true := by
  refine FLwLineHard_of _ _ _ _ _ _ _ ?_
  unfold tLwLineHard
  simp only [awakeL_is, bindO_val, cond_true]
  by_cases hg : g.length ≤ 24
  · rw [bif_neg (by omega)]
    have l0 := lpO_of ILwLineHard_0 XILwLineHard_0 (hd0_loop g (by omega) m z w p q 0 (by omega))
    rw [List.drop_zero] at l0
    have l0 : LLwLineHard_0 (TLwLineHard_0a g.length (encLL g) m 0 z w p q) = _ := l0
    rw [l0]
    cases hb : shB g with
    | false => rfl
    | true =>
      have hs := shB_ok hb
      rw [show h0S true g m z w p q = .inr (g.length, encLL g, m, z, w, p, q) from rfl]
      simp only [bindO_val, Sum.elim_inr, copyGates_is g (by omega) hs, hardIn_is g hs, refHardErr_is, bif_ne]
      by_cases he : hdE g z w p q = 0
      · obtain ⟨e1, e2⟩ := both_nil he
        obtain ⟨g1, sp⟩ := gE_ok e1
        have hp := hp_ok e2
        have R : ∀ q', hdE g z w p q' = 0 → hdR g z w p q' = (((hdL g z w p q').length, encI (hdL g z w p q')), 0) := fun q' h => by unfold hdR; rw [if_neg (by rw [h]; exact fun h => h rfl)]
        have l59 := LLwLineHard_1000059b_of (hd59 g (by omega) sp m hp)
        rw [if_pos he]
        simp only [R q he, l59, bindO_val, Sum.elim_inr]
        obtain ⟨k, rfl⟩ : ∃ k : Nat, z = k := ⟨z.toNat, by have := hp.z0; omega⟩
        have hk := hp.z1
        have w1 : w64 ((k : Int) + 1) = ((k + 1 : Nat) : Int) := by rw [w64_in (by omega)]; omega
        have l46 := LLwLineHard_1000046b_of (hd46 g.length (encLL g) m (hdL g k w p q).length (encI (hdL g k w p q)) k w p q)
        have l39 := lpO_of ILwLineHard_1000039 XILwLineHard_1000039 (hd39 g.length (encLL g) m (hdL g k w p q).length (encI (hdL g k w p q)) k w p q ⟨hp.q0, hp.q1⟩)
        have l39 : LLwLineHard_1000039 (TLwLineHard_1000039a g.length (encLL g) m (hdL g k w p q).length (encI (hdL g k w p q)) k w p q) = _ := l39
        have ar : (PV.list 1 [PV.list (k + 1) (encI (oneL k (if p < 10000 then p else 10000)))]) = PV.list [oneL k (if p < 10000 then p else 10000)].length (encLL [oneL k (if p < 10000 then p else 10000)]) := by
          simp [encLL]
        have sh1 : Sh [oneL k (if p < 10000 then p else 10000)] := fun x hx => by rw [List.mem_singleton.1 hx, one_len]; omega
        simp only [w1, Int.toNat_natCast]
        rw [bif_pos ⟨trivial, by omega, by simp only [big]; omega⟩, bif_pos (by omega), one_over]
        simp only [bindO_val]
        rw [bif_pos (by simp), List.drop_zero, Nat.mul_one, List.take_of_length_le (by simp), ar]
        simp only [hardIn_is _ sh1, bindO_val, one_list hp, l46, Sum.elim_inr, l39]
        unfold m39
        by_cases hm : rangeE m 0 100 = 0 ∧ q + m ≤ 100
        · rw [if_pos hm]
          have hm1 := rangeE_ok hm.1
          have hq0 := hp.q0
          have hp' : Hp k w p (q + m) := ⟨hp.z0, hp.z1, hp.w0, hp.w1, hp.p0, hp.p1, by omega, hm.2⟩
          have he' : hdE g k w p (q + m) = 0 := by unfold hdE; rw [e1, hp_in hp']; rfl
          have sub : ∀ j, j < g.length → hdF g k w p (q + m) j = true → hdF g k w p q j = true := fun j hj h => hdB_less (by omega) (sum_bd (sp _ (gat_mem hj))).1 h
          have eq1 : hdL g k w p (q + m) = colI (fun j => decide (j < g.length) && hdF g k w p (q + m) j) g.length 0 := colI_congr _ _ fun j _ hj => by rw [decide_eq_true (show j < g.length by omega), Bool.true_and]
          have sub2 : ∀ j, (decide (j < g.length) && hdF g k w p (q + m) j) = true → hdF g k w p q j = true := fun j h => by
            rw [Bool.and_eq_true, decide_eq_true_iff] at h
            exact sub j h.1 h.2
          have le : (hdL g k w p (q + m)).length ≤ (hdL g k w p q).length := by rw [eq1]; exact colI_le sub2 _ _
          have mem : ∀ x ∈ hdL g k w p (q + m), x ∈ hdL g k w p q := fun x hx => by rw [eq1] at hx; exact colI_sub sub2 hx
          have hD : (hdL g k w p q).length ≤ g.length := colI_len _ _ _
          have l26 := LLwLineHard_1000026b_of (hd26 (hdL g k w p q) (hdL g k w p (q + m)) le)
          have l2 := LLwLineHard_2b_of (hd2 (hdL g k w p q) (hdL g k w p (q + m)) (by omega) (by omega) mem 0 (by omega))
          rw [show ((0 : Nat) : Int) = 0 from rfl] at l2
          simp only [Sum.elim_inr, copyGates_is g (by omega) hs, bindO_val, w64_in (show -9223372036854775808 ≤ q + m ∧ q + m ≤ 9223372036854775807 by omega), hardIn_is g hs, R _ he', l26, l2]
        · rw [if_neg hm]
          rfl
      · have R : hdR g z w p q = ((0, []), hdE g z w p q) := by unfold hdR; rw [if_pos he]
        rw [if_neg he]
        simp only [R, beq_self_eq_true, cond_true]
        rfl
  · rw [bif_pos (by omega)]
end Gv
