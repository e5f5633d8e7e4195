/- Sums of lines, fractions in lowest terms, and the estimators; the program's and the specification's. -/
import Derived.Test.YtkbbilbpejbmiaaGvYc
import Derived.Test.YtkbbilbpejbmiaaGvYs
import Derived.Test.YtkbbilbpejbmiaaMS1
import Derived.Test.YtkbbilbpejbmiaaM2
namespace Gv
open Go
set_option maxRecDepth 100000

/-! ### Lines near a line -/

def nLo (a b : Int) : Nat := (a - b).toNat
def nN (l : List Int) (a b : Int) : Nat := min (a + b + 1).toNat l.length - nLo a b

theorem near_loop (l : List Int) (a b : Int) (ha : 0 ≤ a ∧ a ≤ 1000) (hb : 0 ≤ b ∧ b ≤ 1000) (hl : l.length ≤ 1000) (k : Nat) : ∀ j, j ≤ nN l a b → j ≤ k →
    Rline_near_1_0 (Tline_near_1_0a a b l.length (encI l) ((nLo a b + j : Nat) : Int) [none, none] k j (encG ((rowL l (nLo a b) (nN l a b)).take j))) =
      if k < nN l a b then exO (Xline_near_1_0a ([none, none], k, k + 1, encG ((rowL l (nLo a b) (nN l a b)).take (k + 1)))) else exO (Xline_near_1_0b ([none, none], k, nN l a b, encG (rowL l (nLo a b) (nN l a b)))) := by
  refine up_ind _ ?_ ?_
  · intro hk
    rw [if_neg (by omega)]
    refine Rline_near_1_0a_of _ _ _ _ _ _ _ _ _ ?_
    unfold Bline_near_1_0a
    rw [w64_in (n := a + b) (by omega), List.take_of_length_le (by rw [rowL_len]; omega)]
    by_cases h1 : ((nLo a b + nN l a b : Nat) : Int) ≤ a + b
    · rw [bif_pos h1, bif_neg (by simp only [nLo, nN] at h1 ⊢; omega)]
      rfl
    · rw [bif_neg h1]
      rfl
  · intro j hj ih hk
    obtain ⟨r, hr⟩ : ∃ r, (if k < nN l a b then exO (Xline_near_1_0a ([none, none], k, k + 1, encG ((rowL l (nLo a b) (nN l a b)).take (k + 1)))) else exO (Xline_near_1_0b ([none, none], k, nN l a b, encG (rowL l (nLo a b) (nN l a b))))) = some r := by
      split <;> exact ⟨_, rfl⟩
    rw [hr]
    refine Rline_near_1_0a_of _ _ _ _ _ _ _ _ _ ?_
    unfold Bline_near_1_0a
    have hi : nLo a b + j < l.length := by simp only [nN] at hj; omega
    rw [w64_in (n := a + b) (by omega), bif_pos (by simp only [nLo, nN] at hj ⊢; omega), bif_pos (by simp only []; omega), bif_pos (by simp only []; omega)]
    simp only [Int.toNat_natCast, Nat.mul_one, encI_get, get_getD 0 hi, Option.map_some, intC_int, bindO_val]
    rw [bif_pos hk, show shapeOK [none, none] [PV.int IntKind.i64 ((nLo a b + j : Nat) : Int), PV.int IntKind.i64 (l.getD (nLo a b + j) 0)] = true from rfl, cond_true, rowL_take l _ hj]
    by_cases he : j = k
    · subst he
      rw [show (j != j) = false from by simp, cond_false]
      rw [if_pos hj] at hr
      exact hr
    · rw [show (j != k) = true from by simp [he], cond_true, w64_in (by omega)]
      rw [← hr]
      exact ih (by omega)

theorem nearIt_is (l : List Int) (a b : Int) (ha : 0 ≤ a ∧ a ≤ 1000) (hb : 0 ≤ b ∧ b ≤ 1000) (hl : l.length ≤ 1000) :
    Fn env 109 (.one .list) [.it [none, none] 0, .imm [.int .i64 a] 0, .imm [.int .i64 b] 0, .imm [.list l.length (encI l)] 0] = some (nN l a b, encG (rowL l (nLo a b) (nN l a b))) := by
  refine it_of (by simp only [big, nN]; omega) (by rw [encG_len, rowL_len]; rfl) fun k hk => ?_
  refine Fline_near_1_of _ _ _ _ _ ?_
  unfold tline_near_1
  have h := near_loop l a b ha hb hl k 0 (by omega) (by omega)
  rw [List.take_zero, encG_nil] at h
  rw [show min (k + 1) (nN l a b) * shSize [none, none] = min (k + 1) (nN l a b) * 2 from rfl, encG_take]
  rw [show (if (0 : Int) > w64 (a - b) then 0 else w64 (a - b)) = ((nLo a b + 0 : Nat) : Int) by rw [w64_in (by omega)]; simp only [nLo]; split <;> omega]
  by_cases hc : k < nN l a b
  · rw [if_pos hc] at h
    have q := Lline_near_1_0a_of h
    simp only [q, bindO_val, Sum.elim_inl]
    rw [Nat.min_eq_left (by omega)]
  · rw [if_neg hc] at h
    have q := Lline_near_1_0b_of h
    simp only [q, bindO_val, Sum.elim_inr]
    rw [Nat.min_eq_right (by omega), List.take_of_length_le (by rw [rowL_len]; omega)]

/-! ### Sums -/

theorem sums_loop (l : List Int) (o N : Nat) (hs : Sm 10000 l) (hN : o + N ≤ 1000) : ∀ i, i ≤ N → ∀ p m : Int, 0 ≤ p → p ≤ i * 10000 → 0 ≤ m → m ≤ i * 10000000 →
    Rline_sums_near_3000019 (Tline_sums_near_3000019a N (encG (rowL l o N)) i p m) = exO (Xline_sums_near_3000019a (p + pw l (o + i) (N - i), m + mo l (o + i) (N - i))) := by
  refine up_ind _ ?_ ?_
  · intro p m _ _ _ _
    refine Rline_sums_near_3000019a_of _ _ _ _ _ ?_
    unfold Bline_sums_near_3000019a
    rw [bif_neg (by omega), Nat.sub_self]
    simp only [pw, mo, Int.add_zero]
    rfl
  · intro i hi ih p m h1 h2 h3 h4
    refine Rline_sums_near_3000019a_of _ _ _ _ _ ?_
    unfold Bline_sums_near_3000019a
    rw [bif_pos (by omega), bif_pos (by omega)]
    simp only [Int.toNat_natCast, Nat.add_zero, encG_0, encG_1, rowL_get l o hi, Option.map_some, intC_int, bindO_val]
    obtain ⟨x, hx⟩ : ∃ x, x = l.getD (o + i) 0 := ⟨_, rfl⟩
    obtain ⟨b1, b2⟩ := hs.getD (by omega) (o + i)
    rw [show N - i = (N - (i + 1)) + 1 by omega, pw, mo, show o + i + 1 = o + (i + 1) by omega, ← hx]
    rw [← hx] at b1 b2
    have c1 : 0 ≤ ((o + i : Nat) : Int) * x := Int.mul_nonneg (by omega) b1
    have c2 : ((o + i : Nat) : Int) * x ≤ 1000 * 10000 := Int.mul_le_mul (by omega) b2 b1 (by omega)
    rw [w64_in (n := ((o + i : Nat) : Int) * x) (by omega), w64_in (n := (i : Int) + 1) (by omega), w64_in (n := p + x) (by omega), w64_in (n := m + ((o + i : Nat) : Int) * x) (by omega)]
    have := ih (p + x) (m + ((o + i : Nat) : Int) * x) (by omega) (by omega) (by omega) (by omega)
    rw [Int.add_assoc, Int.add_assoc] at this
    exact this

theorem sumsNear_is (l : List Int) (a b : Int) (ha : 0 ≤ a ∧ a ≤ 1000) (hb : 0 ≤ b ∧ b ≤ 1000) (hl : l.length ≤ 1000) (hs : Sm 10000 l) :
    Fline_sums_near [.fn 109 [.imm [.int .i64 a] 0, .imm [.int .i64 b] 0, .imm [.list l.length (encI l)] 0]] = some (pw l (nLo a b) (nN l a b), mo l (nLo a b) (nN l a b)) := by
  refine Fline_sums_near_of _ _ _ _ ?_
  unfold tline_sums_near
  simp only [nearIt_is l a b ha hb hl, bindO_val]
  by_cases h0 : nN l a b = 0
  · have := Lline_sums_near_3000019a_of (sums_loop l 0 0 hs (by omega) 0 (by omega) 0 0 (by omega) (by omega) (by omega) (by omega))
    rw [h0]
    have e : encG (rowL l (nLo a b) 0) = encG (rowL l 0 0) := rfl
    rw [e, show ((0 : Nat) : Int) = 0 from rfl] at *
    rw [this]
    rfl
  · have := Lline_sums_near_3000019a_of (sums_loop l (nLo a b) (nN l a b) hs (by simp only [nN] at *; omega) 0 (by omega) 0 0 (by omega) (by omega) (by omega) (by omega))
    rw [show ((0 : Nat) : Int) = 0 from rfl] at this
    rw [this, Int.zero_add, Int.zero_add]
    rfl

theorem allS_loop (l : List Int) (hl : l.length ≤ 1000) (k : Nat) : ∀ j, j ≤ l.length → j ≤ k →
    Rline_AllS_1_0 (Tline_AllS_1_0a l.length (encI l) l.length (j : Int) [none, none] k j (encG ((rowL l 0 l.length).take j))) =
      if k < l.length then exO (Xline_AllS_1_0a ([none, none], k, k + 1, encG ((rowL l 0 l.length).take (k + 1)))) else exO (Xline_AllS_1_0b ([none, none], k, l.length, encG (rowL l 0 l.length))) := by
  refine up_ind _ ?_ ?_
  · intro hk
    rw [if_neg (by omega)]
    refine Rline_AllS_1_0a_of _ _ _ _ _ _ _ _ ?_
    unfold Bline_AllS_1_0a
    rw [List.take_of_length_le (by rw [rowL_len]; omega), bif_neg (by omega)]
    rfl
  · intro j hj ih hk
    obtain ⟨r, hr⟩ : ∃ r, (if k < l.length then exO (Xline_AllS_1_0a ([none, none], k, k + 1, encG ((rowL l 0 l.length).take (k + 1)))) else exO (Xline_AllS_1_0b ([none, none], k, l.length, encG (rowL l 0 l.length)))) = some r := by
      split <;> exact ⟨_, rfl⟩
    rw [hr]
    refine Rline_AllS_1_0a_of _ _ _ _ _ _ _ _ ?_
    unfold Bline_AllS_1_0a
    rw [bif_pos (by omega), bif_pos (by omega)]
    simp only [Int.toNat_natCast, Nat.mul_one, encI_get, get_getD 0 hj, Option.map_some, intC_int, bindO_val]
    have tk := rowL_take l 0 hj
    rw [Nat.zero_add] at tk
    rw [bif_pos hk, show shapeOK [none, none] [PV.int IntKind.i64 (j : Int), PV.int IntKind.i64 (l.getD j 0)] = true from rfl, cond_true, tk]
    by_cases he : j = k
    · subst he
      rw [show (j != j) = false from by simp, cond_false]
      rw [if_pos hj] at hr
      exact hr
    · rw [show (j != k) = true from by simp [he], cond_true, w64_in (by omega)]
      rw [← hr]
      exact ih (by omega)

theorem allSIt_is (l : List Int) (hl : l.length ≤ 1000) :
    Fn env 111 (.one .list) [.it [none, none] 0, .imm [.list l.length (encI l)] 0] = some (l.length, encG (rowL l 0 l.length)) := by
  refine it_of (by simp only [big]; omega) (by rw [encG_len, rowL_len]; rfl) fun k hk => ?_
  refine Fline_AllS_1_of _ _ _ ?_
  unfold tline_AllS_1
  have h := allS_loop l hl k 0 (by omega) (by omega)
  rw [List.take_zero, encG_nil, show ((0 : Nat) : Int) = 0 from rfl] at h
  rw [show min (k + 1) l.length * shSize [none, none] = min (k + 1) l.length * 2 from rfl, encG_take]
  by_cases hc : k < l.length
  · rw [if_pos hc] at h
    have q := Lline_AllS_1_0a_of h
    simp only [q, bindO_val, Sum.elim_inl]
    rw [Nat.min_eq_left (by omega)]
  · rw [if_neg hc] at h
    have q := Lline_AllS_1_0b_of h
    simp only [q, bindO_val, Sum.elim_inr]
    rw [Nat.min_eq_right (by omega), List.take_of_length_le (by rw [rowL_len]; omega)]

/-- The sum of all powers, and of each index times its power. -/
def sumL (l : List Int) : Int := pw l 0 l.length
def momL (l : List Int) : Int := mo l 0 l.length

theorem sumsAllS_is (l : List Int) (hl : l.length ≤ 1000) (hs : Sm 10000 l) :
    Fline_sums_allS [.fn 111 [.imm [.list l.length (encI l)] 0]] = some (sumL l, momL l) := by
  refine Fline_sums_allS_of _ _ ?_
  unfold tline_sums_allS
  simp only [allSIt_is l hl, bindO_val]
  have := Lline_sums_near_3000019a_of (sums_loop l 0 l.length hs (by omega) 0 (by omega) 0 0 (by omega) (by omega) (by omega) (by omega))
  rw [show ((0 : Nat) : Int) = 0 from rfl, Int.zero_add, Int.zero_add] at this
  have e : Lline_sums_allS_3000019 (Tline_sums_allS_3000019a l.length (encG (rowL l 0 l.length)) 0 0 0) = _ := this
  rw [e]
  rfl

/-! ### Fractions -/

theorem divisor_loop {m : Int} (hm : m ≤ 4611686018427387904) : ∀ (n : Nat) (a b : Int), b.natAbs < n → Bd m a → Bd m b →
    ∃ c, Rline_divisor_0 (Tline_divisor_0a a b) = exO (Xline_divisor_0a c) ∧ c.natAbs = Int.gcd a b ∧ Bd m c
  | 0, a, b, h, _, _ => by omega
  | n + 1, a, b, h, ha, hb => by
    by_cases h0 : b = 0
    · subst h0
      refine ⟨a, Rline_divisor_0a_of _ _ ?_, by simp, ha⟩
      unfold Bline_divisor_0a
      rfl
    · have hlt := tmod_lt (a := a) h0
      obtain ⟨c, c1, c2, c3⟩ := divisor_loop hm n b (a.tmod b) (by omega) hb (tmod_bd ha)
      refine ⟨c, Rline_divisor_0a_of _ _ ?_, by rw [c2, gcd_step], c3⟩
      unfold Bline_divisor_0a
      rw [bif_ne, if_neg h0, bif_pos h0]
      exact c1

theorem max_neg64 {c : Int} (h : Bd 4611686018427387904 c) : (if w64 (0 - c) > c then w64 (0 - c) else c) = (c.natAbs : Int) := by
  unfold Bd at h
  rw [w64_in (by omega)]
  split <;> omega

theorem divisor_is {a b : Int} (ha : Bd 4611686018427387904 a) (hb : Bd 4611686018427387904 b) : Fline_divisor [.int .i64 a, .int .i64 b] = some (Int.gcd a b : Int) := by
  refine Fline_divisor_of _ _ ?_
  unfold tline_divisor
  obtain ⟨c, c1, c2, c3⟩ := divisor_loop (Int.le_refl _) (b.natAbs + 1) a b (by omega) ha hb
  have := Lline_divisor_0a_of c1
  rw [this, bindO_val, max_neg64 c3, c2]

theorem lowest_is {n d : Int} (hn : Bd 4611686018427387904 n) (hd : Bd 4611686018427387904 d) (hp : 0 < d) : Fline_lowest [.int .i64 n, .int .i64 d] = some (lowF n d) := by
  refine Fline_lowest_of _ _ ?_
  unfold tline_lowest
  have g := gcd_pos (n := n) hp
  simp only [divisor_is hn hd, bindO_val]
  rw [bif_pos (by omega), bif_pos (by omega), w64_bd (tdiv_bd _ hn), w64_bd (tdiv_bd _ hd)]
  rfl
theorem whole_is (n : Int) : Fline_whole [.int .i64 n] = some (n, 1) := Fline_whole_of _ rfl

theorem gcd_loop {m : Int} (hm : m ≤ 4611686018427387904) : ∀ (n : Nat) (a b : Int), b.natAbs < n → Bd m a → Bd m b →
    ∃ c, RBsGcd_0 (TBsGcd_0a a b) = exO (XBsGcd_0a c) ∧ c.natAbs = Int.gcd a b ∧ Bd m c
  | 0, a, b, h, _, _ => by omega
  | n + 1, a, b, h, ha, hb => by
    by_cases h0 : b = 0
    · subst h0
      refine ⟨a, RBsGcd_0a_of _ _ ?_, by simp, ha⟩
      unfold BBsGcd_0a
      rfl
    · have hlt := tmod_lt (a := a) h0
      obtain ⟨c, c1, c2, c3⟩ := gcd_loop hm n b (a.tmod b) (by omega) hb (tmod_bd ha)
      refine ⟨c, RBsGcd_0a_of _ _ ?_, by rw [c2, gcd_step], c3⟩
      unfold BBsGcd_0a
      rw [bif_ne, if_neg h0, bif_pos h0]
      exact c1
theorem size_is {c : Int} (h : Bd 4611686018427387904 c) : FBsSize [.int .i64 c] = some (c.natAbs : Int) :=
  FBsSize_of _ (by unfold tBsSize; rw [max_neg64 h])
theorem gcd_is {a b : Int} (ha : Bd 4611686018427387904 a) (hb : Bd 4611686018427387904 b) : FBsGcd [.int .i64 a, .int .i64 b] = some (Int.gcd a b : Int) := by
  refine FBsGcd_of _ _ ?_
  unfold tBsGcd
  obtain ⟨c, c1, c2, c3⟩ := gcd_loop (Int.le_refl _) (b.natAbs + 1) a b (by omega) ha hb
  have := LBsGcd_0a_of c1
  simp only [this, bindO_val, size_is c3, c2]
theorem refLowest_is {n d : Int} (hn : Bd 4611686018427387904 n) (hd : Bd 4611686018427387904 d) (hp : 0 < d) : FBsLowest [.int .i64 n, .int .i64 d] = some (lowF n d) := by
  refine FBsLowest_of _ _ ?_
  unfold tBsLowest
  have g := gcd_pos (n := n) hp
  simp only [gcd_is hn hd, bindO_val]
  rw [bif_neg (by omega), bif_pos (by omega), bif_pos (by omega), w64_bd (tdiv_bd _ hn), w64_bd (tdiv_bd _ hd)]
  rfl
theorem refWhole_is (n : Int) : FBsWhole [.int .i64 n] = some (n, 1) := FBsWhole_of _ rfl
end Gv
