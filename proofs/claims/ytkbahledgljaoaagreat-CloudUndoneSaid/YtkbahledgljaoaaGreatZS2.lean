/- Classes: what the functions give. -/
import Derived.Test.YtkbahledgljaoaaGreatZS1
namespace Gv
open Go
set_option maxRecDepth 100000

abbrev Cl : Type := Int × Int × Int × Int
def encCl (z : Cl) : List PV := [.int .i64 z.1, .int .i64 z.2.1, .int .i64 z.2.2.1, .int .i64 z.2.2.2]
def encL4 (l : List Cl) : List PV := l.flatMap encCl
theorem encL4_len : ∀ l : List Cl, (encL4 l).length = l.length * 4
  | [] => rfl
  | z :: l => by
    show (encCl z ++ encL4 l).length = _
    rw [List.length_append, encL4_len l, List.length_cons]
    show 4 + _ = _
    omega
theorem encL4_get : ∀ (l : List Cl) (j k : Nat), k < 4 → (encL4 l)[j * 4 + k]? = l[j]?.bind fun z => (encCl z)[k]?
  | [], j, k, _ => by simp [encL4]
  | x :: l, 0, k, hk => by
    show (encCl x ++ encL4 l)[0 * 4 + k]? = _
    rw [Nat.zero_mul, Nat.zero_add, List.getElem?_append_left (by simpa [encCl] using hk)]
    rfl
  | x :: l, j + 1, k, hk => by
    show (encCl x ++ encL4 l)[(j + 1) * 4 + k]? = _
    rw [List.getElem?_append_right (by simp [encCl]; omega), List.getElem?_cons_succ, ← encL4_get l j k hk]
    congr 1
    simp [encCl]
    omega
theorem getC0 {l : List Cl} {i : Nat} {z : Cl} (h : l[i]? = some z) : (encL4 l)[i * 4]? = some (.int .i64 z.1) := by
  have := encL4_get l i 0 (by omega)
  rw [h] at this
  exact this
theorem getC1 {l : List Cl} {i : Nat} {z : Cl} (h : l[i]? = some z) : (encL4 l)[i * 4 + 1]? = some (.int .i64 z.2.1) := by
  have := encL4_get l i 1 (by omega)
  rw [h] at this
  exact this
theorem getC2 {l : List Cl} {i : Nat} {z : Cl} (h : l[i]? = some z) : (encL4 l)[i * 4 + 2]? = some (.int .i64 z.2.2.1) := by
  have := encL4_get l i 2 (by omega)
  rw [h] at this
  exact this
theorem getC3 {l : List Cl} {i : Nat} {z : Cl} (h : l[i]? = some z) : (encL4 l)[i * 4 + 3]? = some (.int .i64 z.2.2.2) := by
  have := encL4_get l i 3 (by omega)
  rw [h] at this
  exact this

def sigE (x y : Int) : Int := both (rangeE x 0 10000) (rangeE y 0 1000)
def clE (z : Cl) : Int := first3 (sigE z.1 z.2.2.1) (sigE z.2.1 z.2.2.2) (if z.1 > z.2.1 ∨ z.2.2.1 > z.2.2.2 then 9 else 0)
theorem signalError_is (x y : Int) : Fcloud_signalError [.agg [.int .i64 x, .int .i64 y]] = some (sigE x y) := by
  refine Fcloud_signalError_of _ _ ?_
  unfold tcloud_signalError
  simp only [rangeError_is, firstError2_is, bindO_val]
  rfl
theorem class_is (n : Nat) (cs : List PV) (z : Cl) : Fcloud_CheckClasses_1 [.list n cs, .agg [.int .i64 z.1, .int .i64 z.2.1, .int .i64 z.2.2.1, .int .i64 z.2.2.2]] = some (clE z) := by
  refine Fcloud_CheckClasses_1_of _ _ _ _ _ _ ?_
  unfold tcloud_CheckClasses_1 clE
  simp only [signalError_is, bindO_val, errorIf_is, firstError3_is, bif_dec]
  by_cases h1 : z.1 > z.2.1
  · rw [if_pos h1, if_pos (c := z.1 > z.2.1 ∨ z.2.2.1 > z.2.2.2) (.inl h1)]
    rfl
  · rw [if_neg h1]
    by_cases h2 : z.2.2.1 > z.2.2.2
    · rw [if_pos h2, if_pos (c := z.1 > z.2.1 ∨ z.2.2.1 > z.2.2.2) (.inr h2)]
      rfl
    · rw [if_neg h2, if_neg (c := z.1 > z.2.1 ∨ z.2.2.1 > z.2.2.2) (by omega)]
      rfl
theorem classes_loop (l : List Cl) (hl : l.length < 4294967296) : ∀ i, i ≤ l.length →
    Rcloud_itemError_classes_0 (Tcloud_itemError_classes_0a l.length (encL4 l) l.length (encL4 l) l.length i) = exO (XLcloud_itemError_classes_0.fn (sumE (findE clE (l.drop i) i))) := by
  refine up_ind _ ?_ ?_
  · refine Rcloud_itemError_classes_0a_of _ _ _ _ _ _ ?_
    unfold Bcloud_itemError_classes_0a
    rw [bif_neg (by omega), List.drop_length]
    rfl
  · intro i hi ih
    refine Rcloud_itemError_classes_0a_of _ _ _ _ _ _ ?_
    unfold Bcloud_itemError_classes_0a
    obtain ⟨z, hz, hd⟩ := get_drop hi
    rw [bif_pos (by omega), bif_pos (by omega)]
    have wk : w64 ((i : Int) + 1) = ((i + 1 : Nat) : Int) := by rw [w64_in (by omega)]; omega
    simp only [Int.toNat_natCast, getC0 hz, getC1 hz, getC2 hz, getC3 hz, intC_int, bindO_val, class_is, Nat.add_assoc, Nat.reduceAdd, wk]
    rw [bif_pos ⟨by omega, by show (i : Int) ≤ (l.length : Int); omega⟩, bif_pos (by right; rw [encL4_len]; omega)]
    rw [hd, bif_ne]
    by_cases he : clE z = 0
    · rw [if_pos he]
      simp only [findE, he, ne_eq, not_true_eq_false, if_false]
      exact ih
    · rw [if_neg he]
      simp only [findE, ne_eq, he, not_false_eq_true, if_true]
      rfl
def chkC (l : List Cl) : Int × Int := if l.length = 0 then (0, 10) else if 10 < l.length then (0, 8) else (findE clE l 0).getD (0, 0)
theorem checkClasses_is (l : List Cl) (hl : l.length < 4294967296) : Fcloud_CheckClasses [.list l.length (encL4 l)] = some (chkC l) := by
  have h1 : Fcloud_itemError_classes [.list l.length (encL4 l), .fn 90 []] = some ((findE clE l 0).getD (0, 0)) := by
    refine Fcloud_itemError_classes_of _ _ ?_
    unfold tcloud_itemError_classes
    have := lpO_of Icloud_itemError_classes_0 XIcloud_itemError_classes_0 (classes_loop l hl 0 (by omega))
    have this : Lcloud_itemError_classes_0 (Tcloud_itemError_classes_0a l.length (encL4 l) l.length (encL4 l) l.length 0) = _ := this
    rw [this]
    simp only [bindO_val, List.drop_zero]
    cases findE clE l 0 <;> rfl
  have h2 : Fcloud_listError_classes [.list l.length (encL4 l), .int .i64 10, .fn 90 []] = some (if 10 < l.length then (0, 8) else (findE clE l 0).getD (0, 0)) := by
    refine Fcloud_listError_classes_of _ _ _ ?_
    unfold tcloud_listError_classes
    simp only [h1, bindO_val]
    by_cases h : 10 < l.length
    · rw [bif_pos (by omega), if_pos h]
    · rw [bif_neg (by omega), if_neg h]
  have h3 : Fcloud_filledError_classes [.list l.length (encL4 l), .int .i64 10, .fn 90 []] = some (chkC l) := by
    refine Fcloud_filledError_classes_of _ _ _ ?_
    unfold tcloud_filledError_classes chkC
    simp only [h2, bindO_val, bif_eq]
    by_cases h : l.length = 0
    · rw [if_pos (by omega), if_pos h]
    · rw [if_neg (by omega), if_neg h]
  refine Fcloud_CheckClasses_of _ _ ?_
  unfold tcloud_CheckClasses
  simp only [h3, bindO_val]
theorem classesError_is (l : List Cl) (hl : l.length < 4294967296) : Fcloud_classesError [.list l.length (encL4 l)] = some (chkC l).2 := by
  refine Fcloud_classesError_of _ _ ?_
  unfold tcloud_classesError
  simp only [checkClasses_is l hl, bindO_val]

/-- The first class with a signal. -/
abbrev inC (z : Cl) (x y : Int) : Prop := (z.1 ≤ x ∧ x ≤ z.2.1) ∧ z.2.2.1 ≤ y ∧ y ≤ z.2.2.2
def idxF : List Cl → Int → Int → Nat → Int
  | [], _, _, _ => -1
  | z :: r, x, y, i => if inC z x y then (i : Int) else idxF r x y (i + 1)
theorem idxF_ge : ∀ (l : List Cl) (x y : Int) (i : Nat), idxF l x y i = -1 ∨ 0 ≤ idxF l x y i
  | [], _, _, _ => .inl rfl
  | z :: r, x, y, i => by
    unfold idxF
    split
    · right
      omega
    · exact idxF_ge r x y (i + 1)
theorem isIn_is (a b x : Int) : Fcloud_isIn [.agg [.int .i64 a, .int .i64 b], .int .i64 x] = some (decide (a ≤ x ∧ x ≤ b)) := by
  refine Fcloud_isIn_of _ _ _ ?_
  unfold tcloud_isIn
  by_cases h1 : a ≤ x
  · rw [bif_pos h1]
    by_cases h2 : x ≤ b
    · rw [bif_pos h2, decide_eq_true ⟨h1, h2⟩]
    · rw [bif_neg h2, decide_eq_false (by omega)]
  · rw [bif_neg h1, decide_eq_false (by omega)]
theorem fits_is (z : Cl) (x y : Int) : Fcloud_classOf_1 [.agg [.int .i64 z.1, .int .i64 z.2.1, .int .i64 z.2.2.1, .int .i64 z.2.2.2], .imm [.int .i64 x, .int .i64 y] 0] = some (decide (inC z x y)) := by
  refine Fcloud_classOf_1_of _ _ _ _ _ _ ?_
  unfold tcloud_classOf_1 inC
  simp only [isIn_is, bindO_val, bif_dec]
  by_cases h1 : z.1 ≤ x ∧ x ≤ z.2.1
  · rw [if_pos h1]
    by_cases h2 : z.2.2.1 ≤ y ∧ y ≤ z.2.2.2
    · rw [if_pos h2, decide_eq_true ⟨h1, h2⟩]
    · rw [if_neg h2, decide_eq_false fun h => h2 h.2]
  · rw [if_neg h1, decide_eq_false fun h => h1 h.1]
theorem index_loop (l : List Cl) (hl : l.length < 4294967296) (x y : Int) : ∀ i, i ≤ l.length →
    Rslices_IndexFunc_classes_0 (Tslices_IndexFunc_classes_0a l.length (encL4 l) x y l.length i) = if idxF (l.drop i) x y i = -1 then exO (Xslices_IndexFunc_classes_0b ()) else exO (Xslices_IndexFunc_classes_0a (idxF (l.drop i) x y i)) := by
  refine up_ind _ ?_ ?_
  · rw [List.drop_length, if_pos (show idxF [] x y l.length = -1 from rfl)]
    refine Rslices_IndexFunc_classes_0a_of _ _ _ _ _ _ ?_
    unfold Bslices_IndexFunc_classes_0a
    rw [bif_neg (by omega)]
    rfl
  · intro i hi ih
    obtain ⟨z, hz, hd⟩ := get_drop hi
    have wk : w64 ((i : Int) + 1) = ((i + 1 : Nat) : Int) := by rw [w64_in (by omega)]; omega
    have hbody : Bslices_IndexFunc_classes_0a (Fn env) Rslices_IndexFunc_classes_0 exO Lslices_IndexFunc_classes_0 l.length (encL4 l) x y l.length i =
        (if inC z x y then exO (Xslices_IndexFunc_classes_0a i) else Rslices_IndexFunc_classes_0 (Tslices_IndexFunc_classes_0a l.length (encL4 l) x y l.length (i + 1 : Nat))) := by
      unfold Bslices_IndexFunc_classes_0a
      rw [bif_pos (by omega), bif_pos (by omega)]
      simp only [Int.toNat_natCast, getC0 hz, getC1 hz, getC2 hz, getC3 hz, intC_int, bindO_val, fits_is, Nat.add_assoc, Nat.reduceAdd, wk, bif_dec]
    rw [hd]
    unfold idxF
    by_cases h : inC z x y
    · rw [if_pos h] at hbody
      rw [if_pos h, if_neg (by omega)]
      exact Rslices_IndexFunc_classes_0a_of _ _ _ _ _ _ hbody
    · rw [if_neg h] at hbody
      rw [if_neg h]
      by_cases h2 : idxF (l.drop (i + 1)) x y (i + 1) = -1
      · rw [if_pos h2] at ih ⊢
        exact Rslices_IndexFunc_classes_0a_of _ _ _ _ _ _ (hbody.trans ih)
      · rw [if_neg h2] at ih ⊢
        exact Rslices_IndexFunc_classes_0a_of _ _ _ _ _ _ (hbody.trans ih)
theorem classOf_is (l : List Cl) (hl : l.length < 4294967296) (x y : Int) : Fcloud_classOf [.list l.length (encL4 l), .agg [.int .i64 x, .int .i64 y]] = some (idxF l x y 0) := by
  have h : Fslices_IndexFunc_classes [.list l.length (encL4 l), .fn 128 [.imm [.int .i64 x, .int .i64 y] 0]] = some (idxF l x y 0) := by
    refine Fslices_IndexFunc_classes_of _ _ _ _ ?_
    unfold tslices_IndexFunc_classes
    have hq := index_loop l hl x y 0 (by omega)
    rw [List.drop_zero] at hq
    by_cases h : idxF l x y 0 = -1
    · rw [if_pos h] at hq
      have hL := Lslices_IndexFunc_classes_0b_of (y := ()) hq
      have hL : Lslices_IndexFunc_classes_0 (Tslices_IndexFunc_classes_0a l.length (encL4 l) x y l.length 0) = _ := hL
      simp only [hL, bindO_val, Sum.elim_inr, h]
    · rw [if_neg h] at hq
      have hL := Lslices_IndexFunc_classes_0a_of hq
      have hL : Lslices_IndexFunc_classes_0 (Tslices_IndexFunc_classes_0a l.length (encL4 l) x y l.length 0) = _ := hL
      simp only [hL, bindO_val, Sum.elim_inl]
  refine Fcloud_classOf_of _ _ _ _ ?_
  unfold tcloud_classOf
  simp only [h, bindO_val]
theorem class_loop (l : List Cl) (hl : l.length < 4294967296) (x y : Int) : ∀ i, i ≤ l.length →
    Rr8_Class_0 (Tr8_Class_0a l.length (encL4 l) i x y) = if idxF (l.drop i) x y i = -1 then exO (Xr8_Class_0b (x, y)) else exO (Xr8_Class_0a (idxF (l.drop i) x y i)) := by
  refine up_ind _ ?_ ?_
  · rw [List.drop_length, if_pos (show idxF [] x y l.length = -1 from rfl)]
    refine Rr8_Class_0a_of _ _ _ _ _ ?_
    unfold Br8_Class_0a
    rw [bif_neg (by omega)]
    rfl
  · intro i hi ih
    obtain ⟨z, hz, hd⟩ := get_drop hi
    have wk : w64 ((i : Int) + 1) = ((i + 1 : Nat) : Int) := by rw [w64_in (by omega)]; omega
    have hb1 : (decide (((0 : Int) ≤ (i : Int)) ∧ ((i : Int) < (l.length : Int)))) = true := decide_eq_true ⟨by omega, by omega⟩
    have hbody : Br8_Class_0a (Fn env) Rr8_Class_0 exO Lr8_Class_0 l.length (encL4 l) i x y =
        (if inC z x y then exO (Xr8_Class_0a i) else Rr8_Class_0 (Tr8_Class_0a l.length (encL4 l) (i + 1 : Nat) x y)) := by
      unfold Br8_Class_0a inC
      rw [bif_pos (by omega)]
      simp only [hb1, cond_true, Int.toNat_natCast, Nat.add_zero, getC0 hz, getC1 hz, getC2 hz, getC3 hz, intC_int, bindO_val, within_is, Nat.add_assoc, Nat.reduceAdd, wk, bif_dec]
      by_cases h1 : z.1 ≤ x ∧ x ≤ z.2.1
      · rw [if_pos h1]
        by_cases h2 : z.2.2.1 ≤ y ∧ y ≤ z.2.2.2
        · rw [if_pos h2, if_pos ⟨h1, h2⟩]
        · rw [if_neg h2, if_neg fun h => h2 h.2]
      · rw [if_neg h1, if_neg fun h => h1 h.1]
    rw [hd]
    unfold idxF
    by_cases h : inC z x y
    · rw [if_pos h] at hbody
      rw [if_pos h, if_neg (by omega)]
      exact Rr8_Class_0a_of _ _ _ _ _ hbody
    · rw [if_neg h] at hbody
      rw [if_neg h]
      by_cases h2 : idxF (l.drop (i + 1)) x y (i + 1) = -1
      · rw [if_pos h2] at ih ⊢
        exact Rr8_Class_0a_of _ _ _ _ _ (hbody.trans ih)
      · rw [if_neg h2] at ih ⊢
        exact Rr8_Class_0a_of _ _ _ _ _ (hbody.trans ih)
theorem refClass_is (l : List Cl) (hl : l.length < 4294967296) (x y : Int) : Fr8_Class [.list l.length (encL4 l), .agg [.int .i64 x, .int .i64 y]] = some (idxF l x y 0) := by
  refine Fr8_Class_of _ _ _ _ ?_
  unfold tr8_Class
  have hq := class_loop l hl x y 0 (by omega)
  rw [List.drop_zero] at hq
  by_cases h : idxF l x y 0 = -1
  · rw [if_pos h] at hq
    have hL := Lr8_Class_0b_of hq
    have hL : Lr8_Class_0 (Tr8_Class_0a l.length (encL4 l) 0 x y) = _ := hL
    simp only [hL, bindO_val, Sum.elim_inr, h]
  · rw [if_neg h] at hq
    have hL := Lr8_Class_0a_of hq
    have hL : Lr8_Class_0 (Tr8_Class_0a l.length (encL4 l) 0 x y) = _ := hL
    simp only [hL, bindO_val, Sum.elim_inl]
end Gv
