/- CloudApart: whatever the numbers, the law answers true. -/
import Derived.Test.YtkbahledgljaoaaCA3
import Derived.Test.YtkbahledgljaoaaCAs
import Derived.Test.YtkbahledgljaoaaCH3
import Derived.Test.YtkbahledgljaoaaA0
namespace Gv
open Go
set_option maxRecDepth 100000
abbrev aT0 (l : List Int) (A B C : List ZZ) (c u v f p m o i : Int) : Q := Tw_CloudApart_0a l.length (encI l) A.length (encG A) B.length (encG B) C.length (encG C) o i c u v f p m
abbrev aT2 (l : List Int) (A B C : List ZZ) (c u v f p m o i g k : Int) : Q := Tw_CloudApart_2a l.length (encI l) A.length (encG A) B.length (encG B) C.length (encG C) o i g k c u v f p m
abbrev aT4 (l : List Int) (A B C : List ZZ) (c u v f p m o i : Int) : Q := Tw_CloudApart_4a l.length (encI l) A.length (encG A) B.length (encG B) C.length (encG C) o i c u v f p m
abbrev aT6 (l : List Int) (A B C : List ZZ) (c u v f p m i : Int) : Q := Tw_CloudApart_6a l.length (encI l) A.length (encG A) B.length (encG B) C.length (encG C) i c u v f p m
abbrev aT8 (l : List Int) (A B C : List ZZ) (c u v f p m i : Int) (b : Bool) (j : Int) : Q := Tw_CloudApart_8a l.length (encI l) A.length (encG A) B.length (encG B) C.length (encG C) i b j c u v f p m
abbrev aT10 (l : List Int) (A B C : List ZZ) (c u v f p m i : Int) (b b' : Bool) (j : Int) : Q := Tw_CloudApart_10a l.length (encI l) A.length (encG A) B.length (encG B) C.length (encG C) i b b' j c u v f p m
theorem askF_of {l : List Int} {f : Int} {k : Nat} {x : Int} (h : l[k]? = some x) : askF l f k = decide (x ≥ f) := by
  unfold askF; rw [getD_of h]
theorem gZ0 {l : List ZZ} {i : Nat} {z : ZZ} (h : l[i]? = some z) : (encG l)[i * 2]? = some (.int .i64 z.1) := by rw [encG_0, h]; rfl
theorem gZ1 {l : List ZZ} {i : Nat} {z : ZZ} (h : l[i]? = some z) : (encG l)[i * 2 + 1]? = some (.int .i64 z.2) := by rw [encG_1, h]; rfl
def GapI (q : Nat → Bool) (lo k : Nat) (g : Int) : Prop :=
  (k = lo ∧ g = 0) ∨ ∃ j : Nat, lo ≤ j ∧ j < k ∧ g = (k : Int) - 1 - j ∧ q j = true ∧ ∀ t, j < t → t < k → q t = false
theorem gap_loop {l : List Int} (hl : l.length ≤ 1000) (A B C : List ZZ) (hB : B.length ≤ 1000) (c u v f m : Int) {p : Int} (hp : 0 ≤ p) (hR : RG p (askF l f) l.length B) {i : Nat} {r : ZZ} (hr : B[i]? = some r) : ∀ (n k : Nat), (k : Int) + n = r.2 + 1 → r.1 ≤ k → ∀ (o g : Int), 0 ≤ o → o ≤ k → GapI (askF l f) r.1.toNat k g →
    Rw_CloudApart_2 (aT2 l A B C c u v f p m o i g k) = exO (Xw_CloudApart_2b (l.length, encI l, A.length, encG A, B.length, encG B, C.length, encG C, o + (cn (askF l f) (r.2 + 1).toNat - cn (askF l f) k), i, c, u, v, f, p, m))
  | 0, k, hk, hlo, o, g, h0, h1, hg => by
    have hi : i < B.length := (List.getElem?_eq_some_iff.1 hr).1
    refine Rw_CloudApart_2a_of _ _ _ _ _ _ _ _ _ _ _ _ _ _ _ _ _ _ ?_
    unfold Bw_CloudApart_2a
    rw [bif_pos (by omega)]
    simp only [Int.toNat_natCast, gZ1 hr, intC_int, bindO_val]
    rw [bif_neg (by omega), show (r.2 + 1).toNat = k by omega, show o + (cn (askF l f) k - cn (askF l f) k) = o by omega]
    rfl
  | n + 1, k, hk, hlo, o, g, h0, h1, hg => by
    have hi : i < B.length := (List.getElem?_eq_some_iff.1 hr).1
    obtain ⟨e1, e2, e3, e4, e5⟩ := hR.ends r (List.mem_of_getElem? hr)
    obtain ⟨x, hx, _⟩ := get_drop (l := l) (i := k) (by omega)
    have wk : w64 ((k : Int) + 1) = ((k + 1 : Nat) : Int) := by rw [w64_in (by omega)]; omega
    have wo : w64 (o + 1) = o + 1 := w64_in (by omega)
    have hask := askF_of (f := f) hx
    have hcn : cn (askF l f) (k + 1) = cn (askF l f) k + if askF l f k = true then 1 else 0 := rfl
    refine Rw_CloudApart_2a_of _ _ _ _ _ _ _ _ _ _ _ _ _ _ _ _ _ _ ?_
    unfold Bw_CloudApart_2a
    rw [bif_pos (by omega)]
    simp only [Int.toNat_natCast, Nat.mul_one, gZ1 hr, intC_int, bindO_val]
    rw [bif_pos (by omega), bif_pos (by omega)]
    simp only [encI_get, hx, Option.map_some, intC_int, bindO_val, wk, wo]
    by_cases ha : x ≥ f
    · rw [decide_eq_true ha] at hask
      rw [hask, if_pos rfl] at hcn
      rw [bif_pos ha, bif_neg (by omega)]
      have ih := gap_loop hl A B C hB c u v f m hp hR hr n (k + 1) (by omega) (by omega) (o + 1) 0 (by omega) (by omega) (.inr ⟨k, by omega, by omega, by omega, hask, fun t h1 h2 => by omega⟩)
      rw [hcn, show o + 1 + (cn (askF l f) (r.2 + 1).toNat - (cn (askF l f) k + 1)) = o + (cn (askF l f) (r.2 + 1).toNat - cn (askF l f) k) by omega] at ih
      exact ih
    · rw [decide_eq_false ha] at hask
      rw [hask, if_neg (by decide), Int.add_zero] at hcn
      rw [bif_neg ha]
      rcases hg with ⟨hk0, hg0⟩ | ⟨j, j1, j2, j3, j4, j5⟩
      · rw [← hk0, hask] at e4
        cases e4
      · have wg : w64 (g + 1) = g + 1 := w64_in (by omega)
        obtain ⟨j', k1, k2, k3, k4⟩ := hR.run r (List.mem_of_getElem? hr) k (by omega) (by omega)
        have hle : j' ≤ j := by
          rcases Int.lt_or_le (j : Int) j' with h | h
          · exfalso
            by_cases h2 : j'.toNat = k
            · rw [h2, hask] at k4; cases k4
            · rw [j5 j'.toNat (by omega) (by omega)] at k4; cases k4
          · exact h
        rw [wg, bif_neg (by omega)]
        have ih := gap_loop hl A B C hB c u v f m hp hR hr n (k + 1) (by omega) (by omega) o (g + 1) h0 (by omega) (.inr ⟨j, j1, by omega, by omega, j4, fun t h1 h2 => by
          by_cases ht : t = k
          · subst ht; exact hask
          · exact j5 t h1 (by omega)⟩)
        rw [hcn] at ih
        exact ih
theorem lay_loop {l : List Int} (hl : l.length ≤ 1000) (A B C : List ZZ) (hB : B.length ≤ 1000) (c u v f m : Int) {p : Int} (hp : 0 ≤ p) (hp2 : p ≤ 1000) (hR : RG p (askF l f) l.length B) : ∀ i, i ≤ B.length → ∀ o : Int, 0 ≤ o → (∀ r, B[i]? = some r → o ≤ r.1) →
    Rw_CloudApart_0 (aT0 l A B C c u v f p m o i) = exO (Xw_CloudApart_0b (l.length, encI l, A.length, encG A, B.length, encG B, C.length, encG C, o + sumR (askF l f) (B.drop i), c, u, v, f, p, m)) := by
  refine up_ind (P := fun i => ∀ o : Int, 0 ≤ o → (∀ r, B[i]? = some r → o ≤ r.1) → Rw_CloudApart_0 (aT0 l A B C c u v f p m o i) = exO (Xw_CloudApart_0b (l.length, encI l, A.length, encG A, B.length, encG B, C.length, encG C, o + sumR (askF l f) (B.drop i), c, u, v, f, p, m))) _ ?_ ?_
  · intro o h0 _
    refine Rw_CloudApart_0a_of _ _ _ _ _ _ _ _ _ _ _ _ _ _ _ _ ?_
    unfold Bw_CloudApart_0a
    rw [bif_neg (by omega), List.drop_length, show o + sumR (askF l f) [] = o by simp [sumR]]
    rfl
  · intro i hi ih o h0 ho
    obtain ⟨r, hr, hd⟩ := get_drop hi
    obtain ⟨e1, e2, e3, e4, e5⟩ := hR.ends r (List.mem_of_getElem? hr)
    obtain ⟨x, hx, _⟩ := get_drop (l := l) (i := r.1.toNat) (by omega)
    obtain ⟨y, hy, _⟩ := get_drop (l := l) (i := r.2.toNat) (by omega)
    rw [askF_of hx, decide_eq_true_eq] at e4
    rw [askF_of hy, decide_eq_true_eq] at e5
    have ho := ho r hr
    have wn : w64 ((l.length : Int) - 1) = (l.length : Int) - 1 := w64_in (by omega)
    have wi : w64 ((i : Int) + 1) = ((i + 1 : Nat) : Int) := by rw [w64_in (by omega)]; omega
    have c1 : (0 : Int) ≤ (i : Int) ∧ (i : Int) < (B.length : Int) := by omega
    have er : ((r.1.toNat : Nat) : Int) = r.1 := by omega
    have hin := gap_loop hl A B C hB c u v f m hp hR hr (r.2 + 1 - r.1).toNat r.1.toNat (by omega) (by omega) o 0 h0 (by omega) (.inl ⟨rfl, rfl⟩)
    rw [er] at hin
    have hL := Lw_CloudApart_2b_of hin
    have hc0 : cn (askF l f) r.1.toNat ≤ cn (askF l f) (r.2 + 1).toNat := by
      have := cn_mono (askF l f) r.1.toNat ((r.2 + 1).toNat - r.1.toNat)
      rwa [show r.1.toNat + ((r.2 + 1).toNat - r.1.toNat) = (r.2 + 1).toNat by omega] at this
    have hcb : ∀ d a : Nat, cn (askF l f) (a + d) ≤ cn (askF l f) a + d := by
      intro d
      induction d with
      | zero => intro a; simp
      | succ d ihd =>
        intro a
        have := ihd a
        rw [← Nat.add_assoc]
        simp only [cn]
        split <;> omega
    have hcb2 := hcb ((r.2 + 1).toNat - r.1.toNat) r.1.toNat
    rw [show r.1.toNat + ((r.2 + 1).toNat - r.1.toNat) = (r.2 + 1).toNat by omega] at hcb2
    have hnext := ih (o + (cn (askF l f) (r.2 + 1).toNat - cn (askF l f) r.1.toNat)) (by omega) (fun s hs => by
      have := hR.sep i r s hr hs
      omega)
    have hsum : o + sumR (askF l f) (B.drop i) = o + (cn (askF l f) (r.2 + 1).toNat - cn (askF l f) r.1.toNat) + sumR (askF l f) (B.drop (i + 1)) := by
      rw [hd]
      simp only [sumR, List.map_cons, List.sum_cons, cnR]
      omega
    rw [hsum]
    refine Rw_CloudApart_0a_of _ _ _ _ _ _ _ _ _ _ _ _ _ _ _ _ ?_
    unfold Bw_CloudApart_0a
    rw [bif_pos (by omega), bif_pos c1]
    simp only [Int.toNat_natCast, Nat.add_zero, Nat.mul_one, gZ0 hr, gZ1 hr, intC_int, bindO_val, within_is, wn]
    rw [bif_pos (show (0 : Int) ≤ r.1 ∧ r.1 ≤ (l.length : Int) - 1 by omega), bif_pos c1, bif_pos c1, bif_pos (show r.1 ≤ r.2 ∧ r.2 ≤ (l.length : Int) - 1 by omega)]
    by_cases h0i : i = 0
    · rw [bif_neg (by omega), bif_pos c1, bif_pos (by omega)]
      simp only [encI_get, hx, hy, Option.map_some, intC_int, bindO_val]
      rw [bif_neg (by omega), bif_pos c1, bif_pos (by omega), bif_neg (by omega), bif_pos c1, hL]
      simp only [bindO_val, Sum.elim_inr, wi]
      exact hnext
    · obtain ⟨s, hs, _⟩ := get_drop (l := B) (i := i - 1) (by omega)
      have hsep := hR.sep (i - 1) s r hs (by rw [show i - 1 + 1 = i by omega]; exact hr)
      obtain ⟨d1, d2, d3, d4, d5⟩ := hR.ends s (List.mem_of_getElem? hs)
      have wi1 : w64 ((i : Int) - 1) = ((i - 1 : Nat) : Int) := by rw [w64_in (by omega)]; omega
      have wd : w64 (w64 (r.1 - s.2) - 1) = r.1 - s.2 - 1 := by rw [w64_in (n := r.1 - s.2) (by omega), w64_in (by omega)]
      rw [bif_pos (by omega), bif_pos c1]
      simp only [wi1]
      rw [bif_pos (by omega)]
      simp only [Int.toNat_natCast, gZ1 hs, intC_int, bindO_val, wd]
      rw [bif_neg (by omega), bif_pos c1, bif_pos (by omega)]
      simp only [encI_get, hx, hy, Option.map_some, intC_int, bindO_val]
      rw [bif_neg (by omega), bif_pos c1, bif_pos (by omega), bif_neg (by omega), bif_pos c1, hL]
      simp only [bindO_val, Sum.elim_inr, wi]
      exact hnext
theorem cloudy_loop {l : List Int} (hl : l.length ≤ 1000) (A B C : List ZZ) (c u v f p m : Int) : ∀ i, i ≤ l.length → ∀ o : Int, -(i : Int) ≤ o → o ≤ 1000000 →
    Rw_CloudApart_4 (aT4 l A B C c u v f p m o i) = exO (Xw_CloudApart_4a (l.length, encI l, A.length, encG A, B.length, encG B, C.length, encG C, o - (cn (askF l f) l.length - cn (askF l f) i), c, u, v, f, p, m)) := by
  refine up_ind (P := fun i => ∀ o : Int, -(i : Int) ≤ o → o ≤ 1000000 → Rw_CloudApart_4 (aT4 l A B C c u v f p m o i) = exO (Xw_CloudApart_4a (l.length, encI l, A.length, encG A, B.length, encG B, C.length, encG C, o - (cn (askF l f) l.length - cn (askF l f) i), c, u, v, f, p, m))) _ ?_ ?_
  · intro o _ _
    refine Rw_CloudApart_4a_of _ _ _ _ _ _ _ _ _ _ _ _ _ _ _ _ ?_
    unfold Bw_CloudApart_4a
    rw [bif_neg (by omega), show o - (cn (askF l f) l.length - cn (askF l f) l.length) = o by omega]
    rfl
  · intro i hi ih o h0 h1
    obtain ⟨x, hx, _⟩ := get_drop hi
    have hask := askF_of (f := f) hx
    have hcn : cn (askF l f) (i + 1) = cn (askF l f) i + if askF l f i = true then 1 else 0 := rfl
    have wi : w64 ((i : Int) + 1) = ((i + 1 : Nat) : Int) := by rw [w64_in (by omega)]; omega
    have wo : w64 (o - 1) = o - 1 := w64_in (by omega)
    refine Rw_CloudApart_4a_of _ _ _ _ _ _ _ _ _ _ _ _ _ _ _ _ ?_
    unfold Bw_CloudApart_4a
    rw [bif_pos (by omega), bif_pos (by omega)]
    simp only [Int.toNat_natCast, Nat.mul_one, encI_get, hx, Option.map_some, intC_int, bindO_val, wi, wo]
    by_cases ha : x ≥ f
    · rw [decide_eq_true ha] at hask
      rw [hask, if_pos rfl] at hcn
      rw [bif_pos ha]
      have ih := ih (o - 1) (by omega) (by omega)
      rw [hcn, show o - 1 - (cn (askF l f) l.length - (cn (askF l f) i + 1)) = o - (cn (askF l f) l.length - cn (askF l f) i) by omega] at ih
      exact ih
    · rw [decide_eq_false ha] at hask
      rw [hask, if_neg (by decide), Int.add_zero] at hcn
      rw [bif_neg ha]
      have ih := ih o (by omega) (by omega)
      rw [hcn] at ih
      exact ih
theorem pair_eq (a r : ZZ) : ((a.1 == r.1) && ((a.2 == r.2) && true)) = decide (a = r) := by
  rw [Bool.and_true]
  by_cases h : a = r
  · subst h; simp
  · rw [decide_eq_false h]
    by_cases h1 : a.1 = r.1
    · have h2 : a.2 ≠ r.2 := fun h2 => h (Prod.ext h1 h2)
      simp [h2]
    · simp [h1]
theorem one_loop (l : List Int) (A B C : List ZZ) (hA : A.length ≤ 1000) (hB : B.length ≤ 1000) (c u v f p m : Int) {i : Nat} {a : ZZ} (ha : A[i]? = some a) (hw : 0 ≤ a.1 ∧ a.1 ≤ a.2 ∧ a.2 ≤ 1000000) (hm : a.2 - a.1 + 1 ≥ m) : ∀ j, j ≤ B.length → ∀ b : Bool,
    Rw_CloudApart_8 (aT8 l A B C c u v f p m i b j) = exO (Xw_CloudApart_8a (l.length, encI l, A.length, encG A, B.length, encG B, C.length, encG C, i, (b || (B.drop j).any fun r => decide (a = r)), c, u, v, f, p, m)) := by
  have hi : i < A.length := (List.getElem?_eq_some_iff.1 ha).1
  refine up_ind (P := fun j => ∀ b : Bool, Rw_CloudApart_8 (aT8 l A B C c u v f p m i b j) = exO (Xw_CloudApart_8a (l.length, encI l, A.length, encG A, B.length, encG B, C.length, encG C, i, (b || (B.drop j).any fun r => decide (a = r)), c, u, v, f, p, m))) _ ?_ ?_
  · intro b
    refine Rw_CloudApart_8a_of _ _ _ _ _ _ _ _ _ _ _ _ _ _ _ _ _ ?_
    unfold Bw_CloudApart_8a
    rw [bif_neg (by omega), List.drop_length, List.any_nil, Bool.or_false]
    rfl
  · intro j hj ih b
    obtain ⟨r, hr, hd⟩ := get_drop hj
    have wj : w64 ((j : Int) + 1) = ((j + 1 : Nat) : Int) := by rw [w64_in (by omega)]; omega
    have wl : w64 (w64 (a.2 - a.1) + 1) = a.2 - a.1 + 1 := by rw [w64_in (n := a.2 - a.1) (by omega), w64_in (by omega)]
    have c1 : (0 : Int) ≤ (i : Int) ∧ (i : Int) < (A.length : Int) := by omega
    refine Rw_CloudApart_8a_of _ _ _ _ _ _ _ _ _ _ _ _ _ _ _ _ _ ?_
    unfold Bw_CloudApart_8a
    rw [bif_pos (by omega), hd, List.any_cons]
    cases b with
    | true =>
      simp only [cond_true, wj]
      have := ih true
      rw [Bool.true_or] at this ⊢
      exact this
    | false =>
      rw [cond_false, bif_pos c1]
      simp only [Int.toNat_natCast, gZ0 ha, gZ1 ha, intC_int, bindO_val]
      rw [bif_pos (by omega)]
      simp only [Int.toNat_natCast, gZ0 hr, gZ1 hr, intC_int, bindO_val, pair_eq]
      by_cases h : a = r
      · rw [bif_pos h, bif_pos c1]
        simp only [bif_pos c1, Nat.add_zero, gZ0 ha, intC_int, bindO_val, wl, wj]
        rw [bif_pos hm, decide_eq_true h]
        have := ih true
        rw [Bool.true_or] at this
        rw [Bool.true_or, Bool.or_true]
        exact this
      · rw [bif_neg h, decide_eq_false h]
        simp only [wj]
        rw [Bool.false_or, Bool.false_or]
        have := ih false
        rw [Bool.false_or] at this
        exact this
theorem inside_loop (l : List Int) (A B C : List ZZ) (hA : A.length ≤ 1000) (hC : C.length ≤ 1000) (c u v f p m : Int) {i : Nat} {a : ZZ} (ha : A[i]? = some a) (b : Bool) : ∀ j, j ≤ C.length → ∀ b' : Bool,
    Rw_CloudApart_10 (aT10 l A B C c u v f p m i b b' j) = exO (Xw_CloudApart_10a (l.length, encI l, A.length, encG A, B.length, encG B, C.length, encG C, i, b, (b' || (C.drop j).any fun s => decide (s.1 ≤ a.1 ∧ a.2 ≤ s.2)), c, u, v, f, p, m)) := by
  have hi : i < A.length := (List.getElem?_eq_some_iff.1 ha).1
  refine up_ind (P := fun j => ∀ b' : Bool, Rw_CloudApart_10 (aT10 l A B C c u v f p m i b b' j) = exO (Xw_CloudApart_10a (l.length, encI l, A.length, encG A, B.length, encG B, C.length, encG C, i, b, (b' || (C.drop j).any fun s => decide (s.1 ≤ a.1 ∧ a.2 ≤ s.2)), c, u, v, f, p, m))) _ ?_ ?_
  · intro b'
    refine Rw_CloudApart_10a_of _ _ _ _ _ _ _ _ _ _ _ _ _ _ _ _ _ _ ?_
    unfold Bw_CloudApart_10a
    rw [bif_neg (by omega), List.drop_length, List.any_nil, Bool.or_false]
    rfl
  · intro j hj ih b'
    obtain ⟨s, hs, hd⟩ := get_drop hj
    have wj : w64 ((j : Int) + 1) = ((j + 1 : Nat) : Int) := by rw [w64_in (by omega)]; omega
    have c1 : (0 : Int) ≤ (i : Int) ∧ (i : Int) < (A.length : Int) := by omega
    have c2 : (0 : Int) ≤ (j : Int) ∧ (j : Int) < (C.length : Int) := by omega
    refine Rw_CloudApart_10a_of _ _ _ _ _ _ _ _ _ _ _ _ _ _ _ _ _ _ ?_
    unfold Bw_CloudApart_10a
    rw [bif_pos (by omega), hd, List.any_cons]
    cases b' with
    | true =>
      simp only [cond_true, wj]
      have := ih true
      rw [Bool.true_or] at this ⊢
      exact this
    | false =>
      rw [cond_false, bif_pos c2]
      simp only [Int.toNat_natCast, Nat.add_zero, gZ0 hs, intC_int, bindO_val]
      rw [bif_pos c1]
      simp only [Int.toNat_natCast, Nat.add_zero, gZ0 ha, intC_int, bindO_val]
      by_cases h1 : s.1 ≤ a.1
      · rw [bif_pos h1, bif_pos c1]
        simp only [gZ1 ha, intC_int, bindO_val]
        rw [bif_pos c2]
        simp only [gZ1 hs, intC_int, bindO_val, wj]
        by_cases h2 : a.2 ≤ s.2
        · rw [bif_pos h2, decide_eq_true ⟨h1, h2⟩]
          have := ih true
          rw [Bool.true_or] at this
          rw [Bool.true_or, Bool.or_true]
          exact this
        · rw [bif_neg h2, decide_eq_false (fun h => h2 h.2)]
          rw [Bool.false_or, Bool.false_or]
          have := ih false
          rw [Bool.false_or] at this
          exact this
      · rw [bif_neg h1, decide_eq_false (fun h => h1 h.1)]
        simp only [wj]
        rw [Bool.false_or, Bool.false_or]
        have := ih false
        rw [Bool.false_or] at this
        exact this
theorem all_loop (l : List Int) (A B C : List ZZ) (hA : A.length ≤ 1000) (hB : B.length ≤ 1000) (hC : C.length ≤ 1000) (c u v f p m : Int)
    (hall : ∀ a ∈ A, (0 ≤ a.1 ∧ a.1 ≤ a.2 ∧ a.2 ≤ 1000000) ∧ a.2 - a.1 + 1 ≥ m ∧ a ∈ B ∧ ∃ s ∈ C, s.1 ≤ a.1 ∧ a.2 ≤ s.2) : ∀ i, i ≤ A.length →
    Rw_CloudApart_6 (aT6 l A B C c u v f p m i) = exO (Xw_CloudApart_6a (l.length, encI l, c, u, v, f, p, m)) := by
  refine up_ind _ ?_ ?_
  · refine Rw_CloudApart_6a_of _ _ _ _ _ _ _ _ _ _ _ _ _ _ _ ?_
    unfold Bw_CloudApart_6a
    rw [bif_neg (by omega)]
    rfl
  · intro i hi ih
    obtain ⟨a, ha, hd⟩ := get_drop hi
    obtain ⟨h1, h2, h3, s, h4, h5⟩ := hall a (List.mem_of_getElem? ha)
    have e1 : (B.any fun r => decide (a = r)) = true := List.any_eq_true.2 ⟨a, h3, by simp⟩
    have e2 : (C.any fun s => decide (s.1 ≤ a.1 ∧ a.2 ≤ s.2)) = true := List.any_eq_true.2 ⟨s, h4, decide_eq_true h5⟩
    have q1 := one_loop l A B C hA hB c u v f p m ha h1 h2 0 (by omega) false
    rw [List.drop_zero, Bool.false_or, e1] at q1
    have q2 := inside_loop l A B C hA hC c u v f p m ha true 0 (by omega) false
    rw [List.drop_zero, Bool.false_or, e2] at q2
    have L1 := Lw_CloudApart_8a_of q1
    have L2 := Lw_CloudApart_10a_of q2
    have L1 : Lw_CloudApart_8 (Tw_CloudApart_8a l.length (encI l) A.length (encG A) B.length (encG B) C.length (encG C) i false 0 c u v f p m) = _ := L1
    have L2 : Lw_CloudApart_10 (Tw_CloudApart_10a l.length (encI l) A.length (encG A) B.length (encG B) C.length (encG C) i true false 0 c u v f p m) = _ := L2
    have wi : w64 ((i : Int) + 1) = ((i + 1 : Nat) : Int) := by rw [w64_in (by omega)]; omega
    refine Rw_CloudApart_6a_of _ _ _ _ _ _ _ _ _ _ _ _ _ _ _ ?_
    unfold Bw_CloudApart_6a
    rw [bif_pos (by omega)]
    simp only [L1, L2, bindO_val, cond_true, wi]
    exact ih
theorem apartLaw (l : List Int) (c u v f p m less : Int) (hv : v ≤ 9223372036854775807) :
    Fw_CloudApart [.list l.length (encI l), .agg [.int .i64 c, .int .i64 u, .int .i64 v, .int .i64 f, .int .i64 p, .int .i64 m], .int .i64 less] = some true := by
  refine Fw_CloudApart_of _ _ _ _ _ _ _ _ _ ?_
  unfold tw_CloudApart
  simp only [awake_is, few_is, bindO_val, cond_true]
  by_cases hl : l.length ≤ 26
  · rw [bif_pos hl]
    have g1 := refProfErr_is l (by omega)
    simp only [g1, bindO_val]
    rw [bif_ne]
    by_cases h0 : profE l = 0
    · rw [if_pos h0]
      obtain ⟨b1, b2, b3⟩ := prof_ok h0
      simp only [refRule_is, bindO_val]
      rw [bif_ne]
      by_cases hr : ruleE f p m = 0
      · rw [if_pos hr]
        obtain ⟨ra, rb, rc⟩ := ruleE_ok hr
        have wf : w64 (f - 1) = f - 1 := w64_in (by omega)
        simp only [wf, within_is, bindO_val]
        by_cases hs : 0 ≤ less ∧ less ≤ f - 1
        · rw [bif_pos hs]
          have hr1 : ruleE f p 1 = 0 := by unfold ruleE; rw [if_pos ra, if_pos rb, if_pos (by omega)]
          have hr2 : ruleE (f - less) p m = 0 := by unfold ruleE; rw [if_pos (by omega), if_pos rb, if_pos rc]
          have wl : w64 (f - less) = f - less := w64_in (by omega)
          have cp := copyN_is l (by omega)
          have y1 := layers_is h0 hr
          have y2 := layers_is h0 hr1
          have y3 := layers_is h0 hr2
          have hBe : layL l f p 1 = rngs p (askF l f) l.length := layer_one rb.1 l.length _ fun r hr => by
            simp only [isLay, decide_eq_true_eq]; omega
          have hRG := rngs_spec p rb.1 (askF l f) l.length
          have hRC := rngs_spec p rb.1 (askF l (f - less)) l.length
          have hmono := rngs_mono rb.1 (p := askF l f) (q := askF l (f - less)) (fun i hi => by
            unfold askF at hi ⊢
            rw [decide_eq_true_eq] at hi ⊢
            omega) l.length
          have lb := rngs_len p (askF l f) l.length
          have lc := rngs_len p (askF l (f - less)) l.length
          have la : (layL l f p m).length ≤ (rngs p (askF l f) l.length).length := List.length_filter_le _ _
          have lc2 : (layL l (f - less) p m).length ≤ (rngs p (askF l (f - less)) l.length).length := List.length_filter_le _ _
          have hall : ∀ a ∈ layL l f p m, (0 ≤ a.1 ∧ a.1 ≤ a.2 ∧ a.2 ≤ 1000000) ∧ a.2 - a.1 + 1 ≥ m ∧ a ∈ rngs p (askF l f) l.length ∧ ∃ s ∈ layL l (f - less) p m, s.1 ≤ a.1 ∧ a.2 ≤ s.2 := by
            intro a ha
            obtain ⟨m1, m2⟩ := List.mem_filter.1 ha
            simp only [isLay, decide_eq_true_eq] at m2
            obtain ⟨d1, d2, d3, _, _⟩ := hRG.ends a m1
            obtain ⟨s, s1, s2, s3⟩ := hmono a m1
            refine ⟨by omega, m2, m1, s, List.mem_filter.2 ⟨s1, ?_⟩, s2, s3⟩
            simp only [isLay, decide_eq_true_eq]
            omega
          rw [hBe] at y2
          simp only [cp, y1, y2, wl, y3, bindO_val, bne_self_eq_false, cond_false]
          have q0 := lay_loop (l := l) (by omega) (layL l f p m) (rngs p (askF l f) l.length) (layL l (f - less) p m) (by omega) c u v f m rb.1 (by omega) hRG 0 (by omega) 0 (by omega) (fun r hr => (hRG.ends r (List.mem_of_getElem? hr)).1)
          rw [List.drop_zero, Int.zero_add, sumR_all p rb.1 (askF l f) l.length] at q0
          have hcb := cn_bd (askF l f) l.length
          have q4 := cloudy_loop (l := l) (by omega) (layL l f p m) (rngs p (askF l f) l.length) (layL l (f - less) p m) c u v f p m 0 (by omega) (cn (askF l f) l.length) (by omega) (by omega)
          rw [show cn (askF l f) l.length - (cn (askF l f) l.length - cn (askF l f) 0) = 0 by simp only [cn]; omega] at q4
          have q6 := all_loop l (layL l f p m) (rngs p (askF l f) l.length) (layL l (f - less) p m) (by omega) (by omega) (by omega) c u v f p m hall 0 (by omega)
          have L0 := Lw_CloudApart_0b_of q0
          have L4 := Lw_CloudApart_4a_of q4
          have L6 := Lw_CloudApart_6a_of q6
          have L0 : Lw_CloudApart_0 (Tw_CloudApart_0a l.length (encI l) (layL l f p m).length (encG (layL l f p m)) (rngs p (askF l f) l.length).length (encG (rngs p (askF l f) l.length)) (layL l (f - less) p m).length (encG (layL l (f - less) p m)) 0 0 c u v f p m) = _ := L0
          have L4 : Lw_CloudApart_4 (Tw_CloudApart_4a l.length (encI l) (layL l f p m).length (encG (layL l f p m)) (rngs p (askF l f) l.length).length (encG (rngs p (askF l f) l.length)) (layL l (f - less) p m).length (encG (layL l (f - less) p m)) (cn (askF l f) l.length) 0 c u v f p m) = _ := L4
          have L6 : Lw_CloudApart_6 (Tw_CloudApart_6a l.length (encI l) (layL l f p m).length (encG (layL l f p m)) (rngs p (askF l f) l.length).length (encG (rngs p (askF l f) l.length)) (layL l (f - less) p m).length (encG (layL l (f - less) p m)) 0 c u v f p m) = _ := L6
          simp only [L0, L4, L6, bindO_val, Sum.elim_inr, Sum.elim_inl, bne_self_eq_false, cond_false, refConstant_is]
          rw [bif_ne]
          by_cases hc : rangeE c 1 1000000 = 0
          · rw [if_pos hc]
            have hc' := rangeE_ok hc
            have gp := refPart_is (u, v) hv
            simp only [gp, bindO_val]
            rw [bif_ne]
            by_cases hz : partE (u, v) = 0
            · rw [if_pos hz]
              have gr := refRest_is (l := l) (by omega) b3 (c := c) (by omega) (n := l.length) (Nat.le_refl _)
              simp only [gr, bindO_val]
              by_cases hn : restL l c l.length < 0
              · rw [bif_pos hn]
              · rw [bif_neg hn]
                have hsum : ¬ l.sum > c := by
                  unfold restL at hn
                  rw [List.take_length] at hn
                  omega
                have hz1 : partE (0, 1) = 0 := by decide
                have v1 := vis_is h0 hc hz hsum
                have v2 := vis_is h0 hc hz1 hsum
                have hp := partE_ok hz
                have hmo := visF_mono (l := l) (c := c) (z := (u, v)) (by omega) hp.2.2.1 hp.1 l.length 0
                have hle := (visF_le l c (0, 1) l.length 0).2
                simp only [cp, v1, v2, bindO_val, beq_self_eq_true, cond_true]
                rw [bif_pos (by unfold visL; omega), bif_pos (by unfold visL; omega)]
            · rw [if_neg hz]
          · rw [if_neg hc]
        · rw [bif_neg hs]
      · rw [if_neg hr]
    · rw [if_neg h0]
  · rw [bif_neg hl]
end Gv
