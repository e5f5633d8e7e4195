import Derived.Test.YtkbahledgljaoaaGvYk
import Derived.Test.YtkbahledgljaoaaCP1
import Derived.Test.YtkbahledgljaoaaCT3

/- The errors of numbers, the middle: what they give. -/
namespace Gv
open Go
set_option maxRecDepth 100000

theorem errorIf_is (b : Bool) (x : Int) : Fcloud_errorIf [.bool b, .int .i64 x] = some (if b then x else 0) :=
  Fcloud_errorIf_of b x (by cases b <;> rfl)

theorem rangeError_is (x a b : Int) : Fcloud_rangeError [.int .i64 x, .int .i64 a, .int .i64 b] = some (rangeE x a b) :=
  Fcloud_rangeError_of x a b (by
    unfold tcloud_rangeError rangeE
    simp only [errorIf_is, bindO_val]
    by_cases h1 : x < a <;> by_cases h2 : b < x <;> simp [h1, h2])

theorem within_is (x a b : Int) : Fglidepathbase_Within [.int .i64 x, .int .i64 a, .int .i64 b] = some (decide (a ≤ x ∧ x ≤ b)) :=
  Fglidepathbase_Within_of x a b (by
    unfold tglidepathbase_Within
    by_cases h1 : a ≤ x <;> by_cases h2 : x ≤ b <;> simp [h1, h2])

theorem number_is (n : Nat) (cs : List PV) (x lo hi : Int) : Fcloud_within_1 [.list n cs, .int .i64 x, .imm [.int .i64 lo] 0, .imm [.int .i64 hi] 0] = some (rangeE x lo hi) :=
  Fcloud_within_1_of n cs x lo hi (by
    unfold tcloud_within_1
    simp only [rangeError_is, bindO_val])

theorem itemI_loop (lo hi : Int) (l : List Int) (hl : l.length < 4294967296) : ∀ i, i ≤ l.length →
    Rcloud_itemError_within_0 (Tcloud_itemError_within_0a l.length (encI l) lo hi l.length (encI l) l.length i) = exO (XLcloud_itemError_within_0.fn (sumE (findE (fun x => rangeE x lo hi) (l.drop i) i))) := by
  refine up_ind _ ?_ ?_
  · refine Rcloud_itemError_within_0a_of _ _ _ _ _ _ _ _ ?_
    unfold Bcloud_itemError_within_0a
    rw [bif_neg (by omega), List.drop_length]
    rfl
  · intro i hi' ih
    refine Rcloud_itemError_within_0a_of _ _ _ _ _ _ _ _ ?_
    unfold Bcloud_itemError_within_0a
    obtain ⟨x, hx, hd⟩ := get_drop hi'
    rw [bif_pos (by omega), bif_pos (by omega)]
    simp only [Int.toNat_natCast, Nat.mul_one, encI_get, hx, Option.map_some, intC_int, bindO_val, number_is]
    rw [bif_pos (by omega), bif_pos (by right; simp [encI]; omega)]
    rw [hd, w64_in (by omega), bif_ne]
    by_cases he : rangeE x lo hi = 0
    · rw [if_pos he]
      simp only [findE, he, ne_eq, not_true_eq_false, if_false]
      exact ih
    · rw [if_neg he]
      simp only [findE, ne_eq, he, not_false_eq_true, if_true]
      rfl

theorem itemI_is (lo hi : Int) (l : List Int) (hl : l.length < 4294967296) :
    Fcloud_itemError_within [.list l.length (encI l), .fn 105 [.imm [.int .i64 lo] 0, .imm [.int .i64 hi] 0]] = some ((findE (fun x => rangeE x lo hi) l 0).getD (0, 0)) := by
  refine Fcloud_itemError_within_of _ _ _ _ ?_
  unfold tcloud_itemError_within
  have := lpO_of Icloud_itemError_within_0 XIcloud_itemError_within_0 (itemI_loop lo hi l hl 0 (by omega))
  have this : Lcloud_itemError_within_0 (Tcloud_itemError_within_0a l.length (encI l) lo hi l.length (encI l) l.length 0) = _ := this
  rw [this]
  simp only [bindO_val, List.drop_zero]
  cases findE (fun x => rangeE x lo hi) l 0 <;> rfl

theorem filled_is (m lo hi : Int) (l : List Int) (hl : l.length < 4294967296) :
    Fcloud_filledError_within [.list l.length (encI l), .int .i64 m, .fn 105 [.imm [.int .i64 lo] 0, .imm [.int .i64 hi] 0]] = some (listIE m lo hi l) := by
  refine Fcloud_filledError_within_of _ _ _ _ _ ?_
  unfold tcloud_filledError_within
  have h : Fcloud_listError_within [.list l.length (encI l), .int .i64 m, .fn 105 [.imm [.int .i64 lo] 0, .imm [.int .i64 hi] 0]] = some (if m < l.length then (0, 8) else (findE (fun x => rangeE x lo hi) l 0).getD (0, 0)) := by
    refine Fcloud_listError_within_of _ _ _ _ _ ?_
    unfold tcloud_listError_within
    simp only [itemI_is lo hi l hl, bindO_val]
    by_cases h2 : m < l.length <;> simp [h2]
  simp only [h, bindO_val, bif_eq, listIE]
  by_cases h1 : l.length = 0
  · simp [h1]
  · simp [h1]

def hE (l : List Int) : Int := (listIE 15 0 20000 l).2
def hEnd : Option (Int × Int) → Option (Ext × S)
  | some _ => exO (Xglidepathref08_HeightsErr_0a ())
  | none => exO (Xglidepathref08_HeightsErr_0b ())
theorem heights_loop (l : List Int) (hl : l.length < 4294967296) : ∀ i, i ≤ l.length →
    Rglidepathref08_HeightsErr_0 (Tglidepathref08_HeightsErr_0a l.length (encI l) i) = hEnd (findE (fun x => rangeE x 0 20000) (l.drop i) i) := by
  refine up_ind _ ?_ ?_
  · rw [List.drop_length]
    show _ = exO (Xglidepathref08_HeightsErr_0b ())
    refine Rglidepathref08_HeightsErr_0a_of _ _ _ ?_
    unfold Bglidepathref08_HeightsErr_0a
    rw [bif_neg (by omega)]
    rfl
  · intro i hi ih
    obtain ⟨x, hx, hd⟩ := get_drop hi
    rw [hd]
    by_cases he : 0 ≤ x ∧ x ≤ 20000
    · have e0 := rangeE_in he
      simp only [findE, e0, ne_eq, not_true_eq_false, if_false]
      have step : ∀ r, Rglidepathref08_HeightsErr_0 (Tglidepathref08_HeightsErr_0a l.length (encI l) (i + 1 : Nat)) = some r → Rglidepathref08_HeightsErr_0 (Tglidepathref08_HeightsErr_0a l.length (encI l) i) = some r := by
        intro r hr
        refine Rglidepathref08_HeightsErr_0a_of _ _ _ ?_
        unfold Bglidepathref08_HeightsErr_0a
        rw [bif_pos (by omega), bif_pos (by omega)]
        simp only [Int.toNat_natCast, Nat.mul_one, encI_get, hx, Option.map_some, intC_int, bindO_val, within_is]
        rw [bif_pos he, w64_in (by omega)]
        exact hr
      cases hf : findE (fun x => rangeE x 0 20000) (l.drop (i + 1)) (i + 1) with
      | none => rw [hf] at ih; exact step _ ih
      | some p => rw [hf] at ih; exact step _ ih
    · have e0 := rangeE_out he
      simp only [findE, e0]
      rw [if_pos (by decide)]
      show _ = exO (Xglidepathref08_HeightsErr_0a ())
      refine Rglidepathref08_HeightsErr_0a_of _ _ _ ?_
      unfold Bglidepathref08_HeightsErr_0a
      rw [bif_pos (by omega), bif_pos (by omega)]
      simp only [Int.toNat_natCast, Nat.mul_one, encI_get, hx, Option.map_some, intC_int, bindO_val, within_is]
      rw [bif_neg he]
      rfl
theorem heights_is (l : List Int) (hl : l.length < 4294967296) : Fglidepathref08_HeightsErr [.list l.length (encI l)] = some (hE l) := by
  refine Fglidepathref08_HeightsErr_of _ _ ?_
  unfold tglidepathref08_HeightsErr hE listIE
  simp only [bif_eq, bif_dec]
  by_cases h1 : l.length = 0
  · simp [h1]
  · rw [if_neg (by omega), if_neg h1]
    by_cases h2 : (15 : Int) < l.length
    · rw [if_pos (by omega), if_pos h2]
    · rw [if_neg (by omega), if_neg h2]
      have hq := heights_loop l hl 0 (by omega)
      rw [List.drop_zero] at hq
      cases hf : findE (fun x => rangeE x 0 20000) l 0 with
      | none =>
        rw [hf] at hq
        have := Lglidepathref08_HeightsErr_0b_of (y := ()) hq
        have this : Lglidepathref08_HeightsErr_0 (Tglidepathref08_HeightsErr_0a l.length (encI l) 0) = _ := this
        rw [this]
        rfl
      | some p =>
        rw [hf] at hq
        have := Lglidepathref08_HeightsErr_0a_of (y := ()) hq
        have this : Lglidepathref08_HeightsErr_0 (Tglidepathref08_HeightsErr_0a l.length (encI l) 0) = _ := this
        rw [this]
        have := findE_rng 0 20000 hf
        show some 2 = some p.2
        rw [this]
end Gv

/- The middle of numbers lies between those that are more than half of them. -/
namespace Gv
open Go

theorem isort_congr {l m : List Int} (h : l.Perm m) : isort l = isort m :=
  List.Perm.eq_of_pairwise (le := fun a b => a ≤ b) (fun a b _ _ h1 h2 => by omega) (isort_asc l) (isort_asc m) ((isort_perm l).trans (h.trans (isort_perm m).symm))

def midL (l : List Int) : Int := (isort l).getD ((l.length - 1) / 2) 0
theorem midL_congr {l m : List Int} (h : l.Perm m) : midL l = midL m := by
  unfold midL
  rw [isort_congr h, h.length_eq]

theorem asc_get {l : List Int} (h : l.Pairwise (· ≤ ·)) {i j : Nat} (hij : i ≤ j) (hj : j < l.length) : l.getD i 0 ≤ l.getD j 0 := by
  rcases Nat.lt_or_eq_of_le hij with hlt | rfl
  · have := List.pairwise_iff_getElem.1 h i j (by omega) hj hlt
    simpa [List.getD, List.getElem?_eq_getElem hj, List.getElem?_eq_getElem (show i < l.length by omega)] using this
  · exact Int.le_refl _

theorem cnt_take {l : List Int} {p : Int → Bool} {k : Nat} (hk : k ≤ l.length) (h : ∀ i, i < k → p (l.getD i 0) = true) : k ≤ l.countP p := by
  have h1 : (l.take k).countP p = k := by
    rw [List.countP_eq_length.2, List.length_take, Nat.min_eq_left hk]
    intro x hx
    obtain ⟨i, hi, rfl⟩ := List.getElem_of_mem hx
    have hik : i < k := by rw [List.length_take] at hi; omega
    have := h i hik
    rw [List.getElem_take]
    simpa [List.getD, List.getElem?_eq_getElem (show i < l.length by omega)] using this
  calc k = (l.take k).countP p := h1.symm
    _ ≤ l.countP p := (List.take_sublist k l).countP_le

theorem cnt_drop {l : List Int} {p : Int → Bool} {k : Nat} (h : ∀ i, k ≤ i → i < l.length → p (l.getD i 0) = true) : l.length - k ≤ l.countP p := by
  have h1 : (l.drop k).countP p = l.length - k := by
    rw [List.countP_eq_length.2, List.length_drop]
    intro x hx
    obtain ⟨i, hi, rfl⟩ := List.getElem_of_mem hx
    rw [List.length_drop] at hi
    have := h (k + i) (by omega) (by omega)
    rw [List.getElem_drop]
    simpa [List.getD, List.getElem?_eq_getElem (show k + i < l.length by omega)] using this
  calc l.length - k = (l.drop k).countP p := h1.symm
    _ ≤ l.countP p := (List.drop_sublist k l).countP_le

theorem mid_between {s o : List Int} {lo hi : Int} (hs : ∀ x ∈ s, lo ≤ x ∧ x ≤ hi) (hlt : o.length < s.length) (hodd : (s.length + o.length) % 2 = 1) : lo ≤ midL (o ++ s) ∧ midL (o ++ s) ≤ hi := by
  obtain ⟨k, hk⟩ : ∃ k, s.length + o.length = 2 * k + 1 := ⟨(s.length + o.length) / 2, by omega⟩
  have hlen : (isort (o ++ s)).length = 2 * k + 1 := by rw [isort_len, List.length_append]; omega
  have hmid : midL (o ++ s) = (isort (o ++ s)).getD k 0 := by
    unfold midL
    rw [List.length_append, show (o.length + s.length - 1) / 2 = k by omega]
  have hasc := isort_asc (o ++ s)
  have hperm : ∀ p : Int → Bool, (isort (o ++ s)).countP p = o.countP p + s.countP p := fun p => by
    rw [(isort_perm (o ++ s)).countP_eq, List.countP_append]
  have hs0 : ∀ p : Int → Bool, (∀ x ∈ s, p x = false) → s.countP p = 0 := fun p h => List.countP_eq_zero.2 fun x hx => by rw [h x hx]; decide
  rw [hmid]
  constructor
  · apply Int.not_lt.1
    intro hc
    have h1 : k + 1 ≤ (isort (o ++ s)).countP (fun x => decide (x < lo)) := cnt_take (by omega) fun i hi => by
      have := asc_get hasc (show i ≤ k by omega) (by omega)
      exact decide_eq_true (by omega)
    rw [hperm, hs0 _ (fun x hx => by have := hs x hx; exact decide_eq_false (by omega))] at h1
    have := List.countP_le_length (p := fun x => decide (x < lo)) (l := o)
    omega
  · apply Int.not_lt.1
    intro hc
    have h1 : (isort (o ++ s)).length - k ≤ (isort (o ++ s)).countP (fun x => decide (hi < x)) := cnt_drop fun i hi1 hi2 => by
      have := asc_get hasc hi1 hi2
      exact decide_eq_true (by omega)
    rw [hperm, hs0 _ (fun x hx => by have := hs x hx; exact decide_eq_false (by omega))] at h1
    have := List.countP_le_length (p := fun x => decide (hi < x)) (l := o)
    omega
end Gv

/- What the middle of numbers gives. -/
namespace Gv
open Go
set_option maxRecDepth 100000

theorem intsOf_enc : ∀ l : List Int, intsOf (encI l) = some l
  | [] => rfl
  | x :: l => by
    show (intsOf (encI l)).map (x :: ·) = _
    rw [intsOf_enc l]
    rfl
theorem findE_all {β : Type} {f : β → Int} : ∀ {l : List β} {i : Nat}, (∀ z ∈ l, f z = 0) → findE f l i = none
  | [], _, _ => rfl
  | z :: l, i, h => by
    unfold findE
    rw [if_neg (by rw [h z (List.mem_cons_self)]; simp)]
    exact findE_all fun y hy => h y (List.mem_cons_of_mem _ hy)
theorem hE_of {l : List Int} (h1 : 1 ≤ l.length) (h2 : l.length ≤ 15) (h3 : ∀ x ∈ l, 0 ≤ x ∧ x ≤ 20000) : hE l = 0 := by
  unfold hE listIE
  rw [if_neg (by omega), if_neg (by omega), findE_all fun x hx => rangeE_in (h3 x hx)]
  rfl
theorem hE_perm {l m : List Int} (h : l.Perm m) (hl : hE l = 0) : hE m = 0 := by
  have hb := listIE_ok hl
  refine hE_of (by rw [← h.length_eq]; exact hb.1) (by rw [← h.length_eq]; omega) fun x hx => hb.2.2 x (h.mem_iff.2 hx)

theorem mid_is {l : List Int} (h1 : 1 ≤ l.length) (h2 : l.length ≤ 1000) : Fn env 82 (RSh.one (CK.int IntKind.i64)) [.list l.length (encI l)] = some (midL l) := by
  have hg : midG [.list l.length (encI l)] = some (.int .i64 (midL l)) := by
    unfold midG
    simp only [intsOf_enc]
    rw [if_pos ⟨trivial, h1, h2⟩]
    rfl
  have hr : run env 82 [.list l.length (encI l)] = some (.val (.int .i64 (midL l))) := by
    refine (run_iff env).2 ⟨2, ?_⟩
    have hf : env 82 = some (primA 1 midG) := rfl
    have e : exN (callN env 1) 1 (primA 1 midG).body (start (primA 1 midG) [.list l.length (encI l)]) = some (.normal, ⟨[.p (.list l.length (encI l)), .p (.int .i64 (midL l))], [Blk.none, Blk.none]⟩) := by
      show exN (callN env 1) 1 (.ops [{ dst := some 1, grd := none, args := [.tmp 0], k := .l (.prim midG) }]) ⟨[.p (.list l.length (encI l)), .undef], [Blk.none, Blk.none]⟩ = _
      simp only [exN, exOps, exOp, grd]
      have hk : runK (callN env 1) (.l (.prim midG)) [.p (.list l.length (encI l))] [Blk.none, Blk.none] = some (.p (.int .i64 (midL l)), [Blk.none, Blk.none]) := by
        simp only [runK, runL, pureAs, pureA, hg, Option.map_some]
      have ha : ([Arg.tmp 0].map (Arg.get [AV.p (.list l.length (encI l)), .undef])) = [.p (.list l.length (encI l))] := rfl
      simp only [ha, hk]
      rfl
    simp only [callN, hf]
    rw [if_pos ⟨rfl, rfl⟩, e]
    rfl
  unfold Fn
  rw [hr]
  rfl

theorem middleOf_is (l : List Int) (hl : l.length < 4294967296) : Fcloud_MiddleOf [.list l.length (encI l)] = some (if hE l = 0 then (midL l, 0) else (0, hE l)) := by
  refine Fcloud_MiddleOf_of _ _ ?_
  unfold tcloud_MiddleOf
  have hf := filled_is 15 0 20000 l hl
  simp only [hf, bindO_val, bif_ne]
  have he : (listIE 15 0 20000 l).2 = hE l := rfl
  rw [he]
  by_cases h0 : hE l = 0
  · have hb := listIE_ok (he.trans h0)
    rw [if_pos h0, if_pos h0]
    have := mid_is hb.1 (by omega)
    simp only [this, bindO_val]
  · rw [if_neg h0, if_neg h0]
end Gv
