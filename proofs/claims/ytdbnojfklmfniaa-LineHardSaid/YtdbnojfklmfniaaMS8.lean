/- Hard targets: the program's and the specification's. -/
import Derived.Test.YtdbnojfklmfniaaMS4
import Derived.Test.YtdbnojfklmfniaaM9
namespace Gv
open Go
set_option maxRecDepth 100000

def hasS (l : List Int) (x : Int) : Unit ⊕ Unit := if x ∈ l then .inl () else .inr ()
theorem has_loop (l : List Int) (x : Int) (hl : l.length < 4294967296) : ∀ i, i ≤ l.length →
    RBsHas_0 (TBsHas_0a l.length (encI l) x i) = exO (XLBsHas_0.fn (hasS (l.drop i) x)) := by
  refine up_ind _ ?_ ?_
  · refine RBsHas_0a_of _ _ _ _ ?_
    unfold BBsHas_0a
    rw [bif_neg (by omega), List.drop_length]
    rfl
  · intro i hi ih
    obtain ⟨y, hy, hd⟩ := get_drop hi
    refine RBsHas_0a_of _ _ _ _ ?_
    unfold BBsHas_0a
    rw [bif_pos (by omega), bif_pos (by omega)]
    simp only [Int.toNat_natCast, Nat.mul_one, encI_get, hy, Option.map_some, intC_int, bindO_val, bif_eq]
    rw [hd, w64_in (by omega)]
    by_cases he : y = x
    · subst he
      rw [if_pos rfl, show hasS (y :: l.drop (i + 1)) y = .inl () from if_pos (by simp)]
      rfl
    · have q : (x ∈ y :: l.drop (i + 1)) ↔ x ∈ l.drop (i + 1) := by
        rw [List.mem_cons]
        exact ⟨fun h => h.resolve_left (fun q => he q.symm), .inr⟩
      rw [if_neg he, show hasS (y :: l.drop (i + 1)) x = hasS (l.drop (i + 1)) x by unfold hasS; simp only [q]]
      exact ih
theorem has_is (l : List Int) (x : Int) (hl : l.length < 4294967296) : FBsHas [.list l.length (encI l), .int .i64 x] = some (decide (x ∈ l)) := by
  refine FBsHas_of _ _ _ ?_
  unfold tBsHas
  have := lpO_of IBsHas_0 XIBsHas_0 (has_loop l x hl 0 (by omega))
  have this : LBsHas_0 (TBsHas_0a l.length (encI l) x 0) = _ := this
  rw [this, List.drop_zero]
  by_cases h : x ∈ l
  · rw [show hasS l x = .inl () from if_pos h, decide_eq_true h]
    rfl
  · rw [show hasS l x = .inr () from if_neg h, decide_eq_false h]
    rfl

theorem lnFirst4_is (a b c d : Int) : Fline_firstError_4 [.list 4 [.int .i64 a, .int .i64 b, .int .i64 c, .int .i64 d]] = some (first4 a b c d) :=
  Fline_firstError_4_of a b c d (by
    unfold tline_firstError_4 first4
    simp only [bif_ne]
    by_cases h1 : a = 0 <;> by_cases h2 : b = 0 <;> by_cases h3 : c = 0 <;> by_cases h4 : d = 0 <;> simp [h1, h2, h3, h4])

/-! ### Gates -/

def gE0 : List (List Int) → Int
  | [] => 0
  | x :: r => if spE x ≠ 0 then spE x else gE0 r
def gE (g : List (List Int)) : Int := if 20 < g.length then 8 else gE0 g
theorem gE0_ok : ∀ {g : List (List Int)}, gE0 g = 0 → ∀ x ∈ g, spE x = 0
  | [], _, x, hx => by simp at hx
  | y :: r, h, x, hx => by
    simp only [gE0] at h
    split at h
    · contradiction
    · rename_i hy
      rcases List.mem_cons.1 hx with rfl | hx
      · simpa using hy
      · exact gE0_ok h x hx
theorem gE_ok {g : List (List Int)} (h : gE g = 0) : g.length ≤ 20 ∧ ∀ x ∈ g, Sp x := by
  unfold gE at h
  split at h
  · cases h
  · exact ⟨by omega, fun x hx => sp_ok (gE0_ok h x hx)⟩
def Sh (g : List (List Int)) : Prop := ∀ x ∈ g, x.length ≤ 20
theorem gat_mem {g : List (List Int)} {i : Nat} (h : i < g.length) : g.getD i [] ∈ g := List.mem_of_getElem? (get_getD [] h)

def gSum (o : Int) : Int ⊕ Unit := if o ≠ 0 then .inl o else .inr ()
theorem gates_loop (g : List (List Int)) (hs : Sh g) (hg : g.length ≤ 1000) : ∀ i, i ≤ g.length →
    Rline_gatesError_0 (Tline_gatesError_0a g.length (encLL g) g.length i) = exO (XLline_gatesError_0.fn (gSum (gE0 (g.drop i)))) := by
  refine up_ind _ ?_ ?_
  · refine Rline_gatesError_0a_of _ _ _ _ ?_
    unfold Bline_gatesError_0a
    rw [bif_neg (by omega), List.drop_length]
    rfl
  · intro i hi ih
    obtain ⟨x, hx, hd⟩ := get_drop hi
    have := hs x (List.mem_of_getElem? hx)
    refine Rline_gatesError_0a_of _ _ _ _ ?_
    unfold Bline_gatesError_0a
    rw [bif_pos (by omega), bif_pos (by omega)]
    simp only [Int.toNat_natCast, Nat.mul_one, encLL_get, hx, Option.map_some, listC_list, bindO_val, spError_is x (by omega), bif_ne]
    rw [hd, w64_in (by omega)]
    by_cases he : spE x = 0
    · rw [if_pos he, show gE0 (x :: g.drop (i + 1)) = gE0 (g.drop (i + 1)) by simp [gE0, he]]
      exact ih
    · rw [if_neg he, show gE0 (x :: g.drop (i + 1)) = spE x by simp [gE0, he], show gSum (spE x) = .inl (spE x) from if_pos he]
      rfl
theorem gatesError_is (g : List (List Int)) (hs : Sh g) : Fline_gatesError [.list g.length (encLL g)] = some (gE g) := by
  refine Fline_gatesError_of _ _ ?_
  unfold tline_gatesError gE
  by_cases h : 20 < g.length
  · rw [bif_pos (by omega), if_pos h]
  · rw [bif_neg (by omega), if_neg h]
    have := lpO_of Iline_gatesError_0 XIline_gatesError_0 (gates_loop g hs (by omega) 0 (by omega))
    rw [List.drop_zero] at this
    have this : Lline_gatesError_0 (Tline_gatesError_0a g.length (encLL g) g.length 0) = _ := this
    rw [this]
    simp only [bindO_val]
    by_cases he : gE0 g = 0
    · rw [show gSum (gE0 g) = .inr () from if_neg (by rw [he]; exact fun h => h rfl), he]
      rfl
    · rw [show gSum (gE0 g) = .inl (gE0 g) from if_pos he]
      rfl

/-! ### Which gates are hard -/

def hardE (z w p q : Int) : Int := first4 (rangeE z 0 15) (rangeE w 0 16) (rangeE p 0 160000) (rangeE q 0 100)
theorem hardError_is (z w p q : Int) : Fline_hardError [.agg [.int .i64 z, .int .i64 w, .int .i64 p, .int .i64 q]] = some (hardE z w p q) := by
  refine Fline_hardError_of _ _ _ _ ?_
  unfold tline_hardError hardE
  simp only [lnRangeError_is, lnFirst4_is, bindO_val]

structure Hp (z w p q : Int) : Prop where
  z0 : 0 ≤ z
  z1 : z ≤ 15
  w0 : 0 ≤ w
  w1 : w ≤ 16
  p0 : 0 ≤ p
  p1 : p ≤ 160000
  q0 : 0 ≤ q
  q1 : q ≤ 100
theorem hp_ok {z w p q : Int} (h : hardE z w p q = 0) : Hp z w p q := by
  obtain ⟨a, b, c, d⟩ := first4_nil h
  have a := rangeE_ok a
  have b := rangeE_ok b
  have c := rangeE_ok c
  have d := rangeE_ok d
  exact ⟨a.1, a.2, b.1, b.2, c.1, c.2, d.1, d.2⟩
theorem hp_in {z w p q : Int} (h : Hp z w p q) : hardE z w p q = 0 := by
  unfold hardE first4
  rw [rangeE_in ⟨h.z0, h.z1⟩, rangeE_in ⟨h.w0, h.w1⟩, rangeE_in ⟨h.p0, h.p1⟩, rangeE_in ⟨h.q0, h.q1⟩]
  simp

def hS (l : List Int) (z w : Int) : Int := pw l (nLo z w) (nN l z w)
def hdB (l : List Int) (z w p q : Int) : Bool := decide (p ≤ hS l z w) && decide (q * sumL l ≤ 100 * hS l z w)
theorem hS_bd {l : List Int} (sp : Sp l) (z w : Int) : 0 ≤ hS l z w ∧ hS l z w ≤ 160000 := by
  have hl := sp.len
  have a := pw_bd (by omega) sp.sm (nN l z w) (nLo z w)
  have : nN l z w ≤ 16 := by simp only [nN]; omega
  unfold hS
  omega
theorem qs_bd {l : List Int} (sp : Sp l) {q : Int} (h0 : 0 ≤ q) (h1 : q ≤ 100) : 0 ≤ q * sumL l ∧ q * sumL l ≤ 100 * 160000 := by
  obtain ⟨a, b⟩ := sum_bd sp
  exact ⟨Int.mul_nonneg h0 a, Int.mul_le_mul h1 b a (by omega)⟩

theorem isHard_is {l : List Int} (sp : Sp l) {z w p q : Int} (h : Hp z w p q) : Fline_isHard [.list l.length (encI l), .agg [.int .i64 z, .int .i64 w, .int .i64 p, .int .i64 q]] = some (hdB l z w p q) := by
  refine Fline_isHard_of _ _ _ _ _ _ ?_
  unfold tline_isHard hdB
  have hl := sp.len
  have b1 := hS_bd sp z w
  have b2 := qs_bd sp h.q0 h.q1
  have a1 := h.z0; have a2 := h.z1; have a3 := h.w0; have a4 := h.w1
  simp only [sumsAllS_is l (by omega) sp.sm, sumsNear_is l z w (by omega) (by omega) (by omega) sp.sm, bindO_val]
  rw [show pw l (nLo z w) (nN l z w) = hS l z w from rfl, w64_in (n := 100 * hS l z w) (by omega), w64_in (n := q * sumL l) (by omega)]
  by_cases c1 : p ≤ hS l z w
  · rw [bif_pos (by omega), decide_eq_true c1, Bool.true_and]
    by_cases c2 : q * sumL l ≤ 100 * hS l z w
    · rw [bif_pos (by omega), decide_eq_true c2]
    · rw [bif_neg (by omega), decide_eq_false c2]
  · rw [bif_neg (by omega), decide_eq_false c1, Bool.false_and]

theorem hardIn1_is (g : List (List Int)) {i : Nat} (hi : i < g.length) (sp : Sp (g.getD i [])) {z w p q : Int} (h : Hp z w p q) :
    Fline_HardIn_1 [.int .i64 i, .imm [.list g.length (encLL g)] 0, .imm [.int .i64 z, .int .i64 w, .int .i64 p, .int .i64 q] 0] = some (hdB (g.getD i []) z w p q) := by
  refine Fline_HardIn_1_of _ _ _ _ _ _ _ ?_
  unfold tline_HardIn_1
  simp only []
  rw [bif_pos (by omega)]
  simp only [Int.toNat_natCast, Nat.mul_one, encLL_get, get_getD [] hi, Option.map_some, listC_list, bindO_val, isHard_is sp h]
  cases hdB (g.getD i []) z w p q <;> rfl

def hdF (g : List (List Int)) (z w p q : Int) (i : Nat) : Bool := hdB (g.getD i []) z w p q
def hdL (g : List (List Int)) (z w p q : Int) : List Int := colI (hdF g z w p q) g.length 0

def tIH (g : List (List Int)) (z w p q : Int) (acc : List Int) (i : Int) : Q :=
  if acc = [] then Tline_indexesWith_hard_0a g.length (encLL g) z w p q g.length i
  else Tline_indexesWith_hard_0b g.length (encLL g) z w p q acc.length (encI acc) g.length i acc.length
def xIH (acc : List Int) : Ext × Q :=
  if acc = [] then Xline_indexesWith_hard_0a ()
  else Xline_indexesWith_hard_0b (acc.length, encI acc, acc.length)

theorem ih_loop (g : List (List Int)) (hg : g.length ≤ 1000) (sp : ∀ x ∈ g, Sp x) {z w p q : Int} (h : Hp z w p q) : ∀ i, i ≤ g.length → ∀ acc : List Int, acc.length ≤ i →
    Rline_indexesWith_hard_0 (tIH g z w p q acc i) = exO (xIH (acc ++ colI (hdF g z w p q) (g.length - i) i)) := by
  refine up_ind _ ?_ ?_
  · intro acc _
    rw [Nat.sub_self]
    unfold colI tIH xIH
    rw [List.append_nil]
    by_cases hn : acc = []
    · rw [if_pos hn, if_pos hn]
      refine Rline_indexesWith_hard_0a_of _ _ _ _ _ _ _ _ ?_
      unfold Bline_indexesWith_hard_0a
      rw [bif_neg (by omega)]
      rfl
    · rw [if_neg hn, if_neg hn]
      refine Rline_indexesWith_hard_0b_of _ _ _ _ _ _ _ _ _ _ _ ?_
      unfold Bline_indexesWith_hard_0b
      rw [bif_neg (by omega)]
      rfl
  · intro i hi ih acc hac
    have one := hardIn1_is g hi (sp _ (gat_mem hi)) h
    rw [show hdB (g.getD i []) z w p q = hdF g z w p q i from rfl] at one
    have step : ∀ r, Rline_indexesWith_hard_0 (tIH g z w p q (if hdF g z w p q i then acc ++ [(i : Int)] else acc) (i + 1 : Nat)) = some r → Rline_indexesWith_hard_0 (tIH g z w p q acc i) = some r := by
      intro r hr
      unfold tIH at hr ⊢
      by_cases hn : acc = []
      · rw [if_pos hn]
        refine Rline_indexesWith_hard_0a_of _ _ _ _ _ _ _ _ ?_
        unfold Bline_indexesWith_hard_0a
        rw [bif_pos (by omega)]
        simp only [one, bindO_val]
        rw [w64_in (by omega)]
        cases hb : hdF g z w p q i with
        | true =>
          rw [hb, if_pos rfl, if_neg (by simp)] at hr
          subst hn
          exact hr
        | false =>
          rw [hb] at hr
          simp only [Bool.false_eq_true, if_false] at hr
          rw [if_pos hn] at hr
          exact hr
      · rw [if_neg hn]
        refine Rline_indexesWith_hard_0b_of _ _ _ _ _ _ _ _ _ _ _ ?_
        unfold Bline_indexesWith_hard_0b
        rw [bif_pos (by omega)]
        simp only [one, bindO_val]
        rw [w64_in (by omega)]
        cases hb : hdF g z w p q i with
        | true =>
          rw [hb, if_pos rfl, if_neg (by simp), List.length_append] at hr
          rw [cond_true, bif_pos ⟨trivial, by simp only [big]; omega⟩, encI_snoc]
          exact hr
        | false =>
          rw [hb] at hr
          simp only [Bool.false_eq_true, if_false] at hr
          rw [if_neg hn] at hr
          exact hr
    obtain ⟨k, hk⟩ : ∃ k, g.length - i = k + 1 := ⟨g.length - i - 1, by omega⟩
    have hk2 : g.length - (i + 1) = k := by omega
    rw [hk2] at ih
    rw [hk]
    unfold colI
    cases hb : hdF g z w p q i with
    | true =>
      rw [hb, if_pos rfl] at step
      rw [if_pos rfl]
      have := ih (acc ++ [(i : Int)]) (by simp; omega)
      rw [List.append_assoc] at this
      exact step _ this
    | false =>
      rw [hb, if_neg (by simp)] at step
      rw [if_neg (by simp)]
      exact step _ (ih acc (by omega))

theorem ih_is (g : List (List Int)) (hg : g.length ≤ 1000) (sp : ∀ x ∈ g, Sp x) {z w p q : Int} (h : Hp z w p q) :
    Fline_indexesWith_hard [.int .i64 g.length, .fn 88 [.imm [.list g.length (encLL g)] 0, .imm [.int .i64 z, .int .i64 w, .int .i64 p, .int .i64 q] 0]] = some ((hdL g z w p q).length, encI (hdL g z w p q)) := by
  refine Fline_indexesWith_hard_of _ _ _ _ _ _ _ ?_
  unfold tline_indexesWith_hard
  have h := ih_loop g hg sp h 0 (by omega) [] (by simp)
  rw [Nat.sub_zero, List.nil_append] at h
  have h : Rline_indexesWith_hard_0 (Tline_indexesWith_hard_0a g.length (encLL g) z w p q g.length 0) = exO (xIH (hdL g z w p q)) := h
  by_cases hc : hdL g z w p q = []
  · rw [show xIH (hdL g z w p q) = Xline_indexesWith_hard_0a () from if_pos hc] at h
    rw [Lline_indexesWith_hard_0a_of h, hc]
    rfl
  · rw [show xIH (hdL g z w p q) = _ from if_neg hc] at h
    rw [Lline_indexesWith_hard_0b_of h]
    simp only [bindO_val, Sum.elim_inr, decide_true, cond_true]

def hdE (g : List (List Int)) (z w p q : Int) : Int := both (gE g) (hardE z w p q)
def hdR (g : List (List Int)) (z w p q : Int) : (Nat × List PV) × Int := if hdE g z w p q ≠ 0 then ((0, []), hdE g z w p q) else (((hdL g z w p q).length, encI (hdL g z w p q)), 0)
theorem hardIn_is (g : List (List Int)) (hs : Sh g) (z w p q : Int) : Fline_HardIn [.list g.length (encLL g), .agg [.int .i64 z, .int .i64 w, .int .i64 p, .int .i64 q]] = some (hdR g z w p q) := by
  refine Fline_HardIn_of _ _ _ _ _ _ ?_
  unfold tline_HardIn hdR
  simp only [gatesError_is g hs, hardError_is, lnFirst2_is, bindO_val, bif_ne]
  rw [show both (gE g) (hardE z w p q) = hdE g z w p q from rfl]
  by_cases he : hdE g z w p q = 0
  · obtain ⟨e1, e2⟩ := both_nil he
    obtain ⟨g1, g2⟩ := gE_ok e1
    simp only [he, ne_eq, not_true_eq_false, if_false, if_true, ih_is g (by omega) g2 (hp_ok e2), bindO_val]
  · simp only [he, ne_eq, not_false_eq_true, if_true, if_false]

/-! ### The specification's -/

def heS (o z w p q : Int) : Int ⊕ (Int × Int × Int × Int) := if o ≠ 0 then .inl o else .inr (z, w, p, q)
theorem he_loop (g : List (List Int)) (hg : g.length ≤ 1000) (z w p q : Int) : ∀ i, i ≤ g.length →
    RRfHardErr_0 (TRfHardErr_0a g.length (encLL g) i z w p q) = exO (XLRfHardErr_0.fn (heS (gE0 (g.drop i)) z w p q)) := by
  refine up_ind _ ?_ ?_
  · refine RRfHardErr_0a_of _ _ _ _ _ _ _ ?_
    unfold BRfHardErr_0a
    rw [bif_neg (by omega), List.drop_length]
    rfl
  · intro i hi ih
    obtain ⟨x, hx, hd⟩ := get_drop hi
    refine RRfHardErr_0a_of _ _ _ _ _ _ _ ?_
    unfold BRfHardErr_0a
    rw [bif_pos (by omega), bif_pos (by omega)]
    simp only [Int.toNat_natCast, Nat.mul_one, encLL_get, hx, Option.map_some, listC_list, bindO_val, refSpErr_is x, bif_ne]
    rw [hd, w64_in (by omega)]
    by_cases he : spE x = 0
    · rw [if_pos he, show gE0 (x :: g.drop (i + 1)) = gE0 (g.drop (i + 1)) by simp [gE0, he]]
      exact ih
    · rw [if_neg he, show gE0 (x :: g.drop (i + 1)) = spE x by simp [gE0, he], show heS (spE x) z w p q = .inl (spE x) from if_pos he]
      rfl
theorem refHardErr_is (g : List (List Int)) (z w p q : Int) : FRfHardErr [.list g.length (encLL g), .agg [.int .i64 z, .int .i64 w, .int .i64 p, .int .i64 q]] = some (hdE g z w p q) := by
  refine FRfHardErr_of _ _ _ _ _ _ ?_
  unfold tRfHardErr hdE gE
  by_cases h : 20 < g.length
  · rw [bif_pos (by omega), if_pos h]
    rfl
  · rw [bif_neg (by omega), if_neg h]
    have := lpO_of IRfHardErr_0 XIRfHardErr_0 (he_loop g (by omega) z w p q 0 (by omega))
    rw [List.drop_zero] at this
    have this : LRfHardErr_0 (TRfHardErr_0a g.length (encLL g) 0 z w p q) = _ := this
    rw [this]
    simp only [bindO_val]
    by_cases he : gE0 g = 0
    · rw [show heS (gE0 g) z w p q = .inr (z, w, p, q) from if_neg (by rw [he]; exact fun h => h rfl), both_zero he]
      simp only [Sum.elim_inr, within_is, bindO_val, bif_dec]
      unfold hardE first4
      by_cases h1 : rangeE z 0 15 = 0
      · by_cases h2 : rangeE w 0 16 = 0
        · by_cases h3 : rangeE p 0 160000 = 0
          · by_cases h4 : rangeE q 0 100 = 0
            · simp [h1, h2, h3, h4]
            · simp [h1, h2, h3, h4, rangeE_out fun k => h4 (rangeE_in k)]
          · simp [h1, h2, h3, rangeE_out fun k => h3 (rangeE_in k)]
        · simp [h1, h2, rangeE_out fun k => h2 (rangeE_in k)]
      · simp [h1, rangeE_out fun k => h1 (rangeE_in k)]
    · rw [show heS (gE0 g) z w p q = .inl (gE0 g) from if_pos he, both_not he]
      rfl

/-- The sum of so many lines, from one on, that lie in a window. -/
def fs (l : List Int) (z w : Int) : Nat → Nat → Int
  | 0, _ => 0
  | n + 1, k => (if rangeE (k : Int) (z - w) (z + w) = 0 then l.getD k 0 else 0) + fs l z w n (k + 1)
theorem fs_pw (l : List Int) (z w : Int) (h : 0 ≤ z ∧ 0 ≤ w) : ∀ n k, k + n = l.length → fs l z w n k = pw l (max k (nLo z w)) (min (z + w + 1).toNat l.length - max k (nLo z w))
  | 0, k, hk => by
    rw [show min (z + w + 1).toNat l.length - max k (nLo z w) = 0 by omega]
    rfl
  | n + 1, k, hk => by
    rw [fs, fs_pw l z w h n (k + 1) (by omega)]
    by_cases c1 : k < nLo z w
    · rw [if_neg (fun q => by have := rangeE_ok q; simp only [nLo] at c1; omega), show max (k + 1) (nLo z w) = max k (nLo z w) by omega]
      omega
    · rw [show max (k + 1) (nLo z w) = k + 1 by omega, show max k (nLo z w) = k by omega]
      by_cases c2 : k < min (z + w + 1).toNat l.length
      · rw [if_pos (rangeE_in (by simp only [nLo] at c1; omega)), show min (z + w + 1).toNat l.length - k = (min (z + w + 1).toNat l.length - (k + 1)) + 1 by omega, pw]
      · rw [if_neg (fun q => by have := rangeE_ok q; omega), show min (z + w + 1).toNat l.length - k = 0 by omega, show min (z + w + 1).toNat l.length - (k + 1) = 0 by omega]
        simp [pw]
theorem fs_hS (l : List Int) (z w : Int) (h : 0 ≤ z ∧ 0 ≤ w) : fs l z w l.length 0 = hS l z w := by
  rw [fs_pw l z w h l.length 0 (by omega), show max 0 (nLo z w) = nLo z w by omega]
  rfl

def tH2 (g : List (List Int)) (acc : List Int) (i own k z w p q : Int) : Q :=
  if acc = [] then TRfHard_2a g.length (encLL g) i own k z w p q
  else TRfHard_2b g.length (encLL g) acc.length (encI acc) i own k z w p q acc.length
def xH2 (g : List (List Int)) (acc : List Int) (i own z w p q : Int) : Ext × Q :=
  if acc = [] then XRfHard_2a (g.length, encLL g, i, own, z, w, p, q)
  else XRfHard_2b (g.length, encLL g, acc.length, encI acc, i, own, z, w, p, q, acc.length)
def tH0 (g : List (List Int)) (acc : List Int) (i z w p q : Int) : Q :=
  if acc = [] then TRfHard_0a g.length (encLL g) i z w p q
  else TRfHard_0b g.length (encLL g) acc.length (encI acc) i z w p q acc.length
def xH0 (acc : List Int) (z w p q : Int) : Ext × Q :=
  if acc = [] then XRfHard_0a (z, w, p, q)
  else XRfHard_0b (acc.length, encI acc, z, w, p, q, acc.length)

theorem h2_loop (g : List (List Int)) (hg : g.length ≤ 1000) (acc : List Int) {i : Nat} (hi : i < g.length) (sp : Sp (g.getD i [])) {z w p q : Int} (h : Hp z w p q) : ∀ k, k ≤ (g.getD i []).length → ∀ own : Int, 0 ≤ own → own ≤ k * 10000 →
    RRfHard_2 (tH2 g acc i own k z w p q) = exO (xH2 g acc i (own + fs (g.getD i []) z w ((g.getD i []).length - k) k) z w p q) := by
  have hl := sp.len
  have a1 := h.z0; have a2 := h.z1; have a3 := h.w0; have a4 := h.w1
  have q1 : decide ((0 : Int) ≤ ((i : Nat) : Int) ∧ ((i : Nat) : Int) < (g.length : Int)) = true := decide_eq_true (by omega)
  refine up_ind _ ?_ ?_
  · intro own _ _
    rw [Nat.sub_self]
    unfold fs tH2 xH2
    rw [Int.add_zero]
    by_cases hn : acc = []
    · rw [if_pos hn, if_pos hn]
      refine RRfHard_2a_of _ _ _ _ _ _ _ _ _ ?_
      unfold BRfHard_2a
      simp only [q1, cond_true, Int.toNat_natCast, Nat.mul_one, encLL_get, get_getD [] hi, Option.map_some, listC_list, bindO_val]
      rw [bif_neg (by omega)]
      rfl
    · rw [if_neg hn, if_neg hn]
      refine RRfHard_2b_of _ _ _ _ _ _ _ _ _ _ _ _ ?_
      unfold BRfHard_2b
      simp only [q1, cond_true, Int.toNat_natCast, Nat.mul_one, encLL_get, get_getD [] hi, Option.map_some, listC_list, bindO_val]
      rw [bif_neg (by omega)]
      rfl
  · intro k hk ih own o1 o2
    have b := sp.sm.getD (by omega) k
    have q2 : decide ((0 : Int) ≤ ((k : Nat) : Int) ∧ ((k : Nat) : Int) < ((g.getD i []).length : Int)) = true := decide_eq_true (by omega)
    have q3 : decide (((k : Nat) : Int) < ((g.getD i []).length : Int)) = true := decide_eq_true (by omega)
    have w1 : w64 (z - w) = z - w := w64_in (by omega)
    have w2 : w64 (z + w) = z + w := w64_in (by omega)
    have w3 : w64 ((k : Int) + 1) = ((k + 1 : Nat) : Int) := by rw [w64_in (by omega)]; omega
    have w4 : w64 (own + (g.getD i []).getD k 0) = own + (g.getD i []).getD k 0 := w64_in (by omega)
    have step : ∀ r, RRfHard_2 (tH2 g acc i (own + (if rangeE (k : Int) (z - w) (z + w) = 0 then (g.getD i []).getD k 0 else 0)) ((k + 1 : Nat) : Int) z w p q) = some r → RRfHard_2 (tH2 g acc i own k z w p q) = some r := by
      intro r hr
      unfold tH2 at hr ⊢
      by_cases hn : acc = []
      · rw [if_pos hn] at hr ⊢
        refine RRfHard_2a_of _ _ _ _ _ _ _ _ _ ?_
        unfold BRfHard_2a
        simp only [q1, q2, q3, w1, w2, w3, cond_true, Int.toNat_natCast, Nat.mul_one, encLL_get, encI_get, get_getD [] hi, get_getD 0 hk, Option.map_some, listC_list, intC_int, bindO_val, within_is, w4]
        by_cases hr1 : rangeE (k : Int) (z - w) (z + w) = 0
        · rw [if_pos hr1] at hr
          simp only [hr1, decide_true, cond_true]
          exact hr
        · rw [if_neg hr1, Int.add_zero] at hr
          simp only [hr1, decide_false, cond_false]
          exact hr
      · rw [if_neg hn] at hr ⊢
        refine RRfHard_2b_of _ _ _ _ _ _ _ _ _ _ _ _ ?_
        unfold BRfHard_2b
        simp only [q1, q2, q3, w1, w2, w3, cond_true, Int.toNat_natCast, Nat.mul_one, encLL_get, encI_get, get_getD [] hi, get_getD 0 hk, Option.map_some, listC_list, intC_int, bindO_val, within_is, w4]
        by_cases hr1 : rangeE (k : Int) (z - w) (z + w) = 0
        · rw [if_pos hr1] at hr
          simp only [hr1, decide_true, cond_true]
          exact hr
        · rw [if_neg hr1, Int.add_zero] at hr
          simp only [hr1, decide_false, cond_false]
          exact hr
    refine step _ ?_
    rw [show (g.getD i []).length - k = ((g.getD i []).length - (k + 1)) + 1 by omega, fs, ← Int.add_assoc]
    exact ih _ (by split <;> omega) (by split <;> omega)

theorem h0_loop (g : List (List Int)) (hg : g.length ≤ 1000) (sp : ∀ x ∈ g, Sp x) {z w p q : Int} (h : Hp z w p q) : ∀ i, i ≤ g.length → ∀ acc : List Int, acc.length ≤ i →
    RRfHard_0 (tH0 g acc i z w p q) = exO (xH0 (acc ++ colI (hdF g z w p q) (g.length - i) i) z w p q) := by
  refine up_ind _ ?_ ?_
  · intro acc _
    rw [Nat.sub_self]
    unfold colI tH0 xH0
    rw [List.append_nil]
    by_cases hn : acc = []
    · rw [if_pos hn, if_pos hn]
      refine RRfHard_0a_of _ _ _ _ _ _ _ ?_
      unfold BRfHard_0a
      rw [bif_neg (by omega)]
      rfl
    · rw [if_neg hn, if_neg hn]
      refine RRfHard_0b_of _ _ _ _ _ _ _ _ _ _ ?_
      unfold BRfHard_0b
      rw [bif_neg (by omega)]
      rfl
  · intro i hi ih acc hac
    have si := sp _ (gat_mem hi)
    have hl := si.len
    have lp := h2_loop g hg acc hi si h 0 (by omega) 0 (by omega) (by omega)
    rw [Nat.sub_zero, Int.zero_add, fs_hS _ z w ⟨h.z0, h.w0⟩] at lp
    have q1 : decide ((0 : Int) ≤ ((i : Nat) : Int) ∧ ((i : Nat) : Int) < (g.length : Int)) = true := decide_eq_true (by omega)
    have q0 : decide (((i : Nat) : Int) < (g.length : Int)) = true := decide_eq_true (by omega)
    have b1 := hS_bd si z w
    have b2 := qs_bd si h.q0 h.q1
    have w1 : w64 (100 * hS (g.getD i []) z w) = 100 * hS (g.getD i []) z w := w64_in (by omega)
    have w2 : w64 (q * sumL (g.getD i [])) = q * sumL (g.getD i []) := w64_in (by omega)
    have w3 : w64 ((i : Int) + 1) = ((i + 1 : Nat) : Int) := by rw [w64_in (by omega)]; omega
    have step : ∀ r, RRfHard_0 (tH0 g (if hdF g z w p q i then acc ++ [(i : Int)] else acc) (i + 1 : Nat) z w p q) = some r → RRfHard_0 (tH0 g acc i z w p q) = some r := by
      intro r hr
      unfold hdF hdB at hr
      unfold tH0 at hr ⊢
      unfold tH2 xH2 at lp
      by_cases hn : acc = []
      · rw [if_pos hn]
        rw [if_pos hn, if_pos hn] at lp
        have l2 := LRfHard_2a_of lp
        rw [show ((0 : Nat) : Int) = 0 from rfl] at l2
        refine RRfHard_0a_of _ _ _ _ _ _ _ ?_
        unfold BRfHard_0a
        simp only [q0, q1, w1, w2, w3, cond_true, l2, bindO_val, Sum.elim_inl, Int.toNat_natCast, Nat.mul_one, encLL_get, get_getD [] hi, Option.map_some, listC_list, refSum_is _ (show (g.getD i []).length ≤ 1000 by omega) si.sm, ge_iff_le]
        by_cases c1 : p ≤ hS (g.getD i []) z w
        · by_cases c2 : q * sumL (g.getD i []) ≤ 100 * hS (g.getD i []) z w
          · simp only [c1, c2, decide_true, Bool.and_self, if_true] at hr
            rw [if_neg (by simp)] at hr
            subst hn
            simp only [c1, c2, decide_true, cond_true]
            exact hr
          · simp only [c1, c2, decide_true, decide_false, Bool.and_false, Bool.false_eq_true, if_false] at hr
            rw [if_pos hn] at hr
            simp only [c1, c2, decide_true, decide_false, cond_true, cond_false]
            exact hr
        · simp only [c1, decide_false, Bool.false_and, Bool.false_eq_true, if_false] at hr
          rw [if_pos hn] at hr
          simp only [c1, decide_false, cond_false]
          exact hr
      · rw [if_neg hn]
        rw [if_neg hn, if_neg hn] at lp
        have l2 := LRfHard_2b_of lp
        rw [show ((0 : Nat) : Int) = 0 from rfl] at l2
        refine RRfHard_0b_of _ _ _ _ _ _ _ _ _ _ ?_
        unfold BRfHard_0b
        simp only [q0, q1, w1, w2, w3, cond_true, l2, bindO_val, Sum.elim_inr, Int.toNat_natCast, Nat.mul_one, encLL_get, get_getD [] hi, Option.map_some, listC_list, refSum_is _ (show (g.getD i []).length ≤ 1000 by omega) si.sm, ge_iff_le]
        by_cases c1 : p ≤ hS (g.getD i []) z w
        · by_cases c2 : q * sumL (g.getD i []) ≤ 100 * hS (g.getD i []) z w
          · simp only [c1, c2, decide_true, Bool.and_self, if_true] at hr
            rw [if_neg (by simp), List.length_append] at hr
            simp only [c1, c2, decide_true, cond_true]
            rw [bif_pos ⟨trivial, by simp only [big]; omega⟩, encI_snoc]
            exact hr
          · simp only [c1, c2, decide_true, decide_false, Bool.and_false, Bool.false_eq_true, if_false] at hr
            rw [if_neg hn] at hr
            simp only [c1, c2, decide_true, decide_false, cond_true, cond_false]
            exact hr
        · simp only [c1, decide_false, Bool.false_and, Bool.false_eq_true, if_false] at hr
          rw [if_neg hn] at hr
          simp only [c1, decide_false, cond_false]
          exact hr
    obtain ⟨k, hk⟩ : ∃ k, g.length - i = k + 1 := ⟨g.length - i - 1, by omega⟩
    have hk2 : g.length - (i + 1) = k := by omega
    rw [hk2] at ih
    rw [hk]
    unfold colI
    cases hb : hdF g z w p q i with
    | true =>
      rw [hb, if_pos rfl] at step
      rw [if_pos rfl]
      have := ih (acc ++ [(i : Int)]) (by simp; omega)
      rw [List.append_assoc] at this
      exact step _ this
    | false =>
      rw [hb, if_neg (by simp)] at step
      rw [if_neg (by simp)]
      exact step _ (ih acc (by omega))

theorem refHard_is (g : List (List Int)) (hg : g.length ≤ 1000) (sp : ∀ x ∈ g, Sp x) {z w p q : Int} (h : Hp z w p q) : FRfHard [.list g.length (encLL g), .agg [.int .i64 z, .int .i64 w, .int .i64 p, .int .i64 q]] = some ((hdL g z w p q).length, encI (hdL g z w p q)) := by
  refine FRfHard_of _ _ _ _ _ _ ?_
  unfold tRfHard
  have h := h0_loop g hg sp h 0 (by omega) [] (by simp)
  rw [Nat.sub_zero, List.nil_append] at h
  have h : RRfHard_0 (TRfHard_0a g.length (encLL g) 0 z w p q) = exO (xH0 (hdL g z w p q) z w p q) := h
  by_cases hc : hdL g z w p q = []
  · rw [show xH0 (hdL g z w p q) z w p q = XRfHard_0a (z, w, p, q) from if_pos hc] at h
    rw [LRfHard_0a_of h, hc]
    rfl
  · rw [show xH0 (hdL g z w p q) z w p q = _ from if_neg hc] at h
    rw [LRfHard_0b_of h]
    simp only [bindO_val, Sum.elim_inr, decide_true, cond_true]

/-! ### Copies of gates -/

def tCG (g : List (List Int)) (i : Nat) : Q :=
  if i = 0 then TRfCopyGates_0a g.length (encLL g)
  else TRfCopyGates_0b g.length (encLL g) i (encLL (g.take i)) i i
theorem cg_loop (g : List (List Int)) (hg : g.length ≤ 1000) (hs : Sh g) (h0 : g ≠ []) : ∀ i, i ≤ g.length →
    RRfCopyGates_0 (tCG g i) = exO (XRfCopyGates_0b (g.length, encLL g, g.length)) := by
  have hp : 0 < g.length := List.length_pos_iff.2 h0
  refine up_ind _ ?_ ?_
  · unfold tCG
    rw [if_neg (by omega)]
    refine RRfCopyGates_0b_of _ _ _ _ _ _ ?_
    unfold BRfCopyGates_0b
    rw [bif_neg (by omega), List.take_length]
    rfl
  · intro i hi ih
    obtain ⟨x, hx, hd⟩ := get_drop hi
    have := hs x (List.mem_of_getElem? hx)
    have tk : encLL (g.take i) ++ [.list x.length (encI x)] = encLL (g.take (i + 1)) := by
      rw [encLL_snoc, List.take_add_one, hx]
      rfl
    unfold tCG at ih ⊢
    rw [if_neg (by omega)] at ih
    by_cases hz : i = 0
    · subst hz
      rw [if_pos rfl]
      refine RRfCopyGates_0a_of _ _ ?_
      unfold BRfCopyGates_0a
      rw [bif_pos (by omega), bif_pos (by omega)]
      simp only [encLL_get, hx, Option.map_some, listC_list, bindO_val, lcopyI_is x (by omega)]
      rw [show [PV.list x.length (encI x)] = encLL (g.take (0 + 1)) by rw [← tk]; rfl]
      exact ih
    · rw [if_neg hz]
      refine RRfCopyGates_0b_of _ _ _ _ _ _ ?_
      unfold BRfCopyGates_0b
      rw [bif_pos (by omega), bif_pos (by omega)]
      simp only [Int.toNat_natCast, Nat.mul_one, encLL_get, hx, Option.map_some, listC_list, bindO_val, lcopyI_is x (by omega)]
      rw [bif_pos ⟨trivial, by simp only [big]; omega⟩, tk, w64_in (by omega)]
      exact ih
theorem copyGates_is (g : List (List Int)) (hg : g.length ≤ 1000) (hs : Sh g) : FRfCopyGates [.list g.length (encLL g)] = some (g.length, encLL g) := by
  refine FRfCopyGates_of _ _ ?_
  unfold tRfCopyGates
  by_cases h0 : g = []
  · subst h0
    have : RRfCopyGates_0 (TRfCopyGates_0a ([] : List (List Int)).length (encLL [])) = exO (XRfCopyGates_0a ()) := by
      refine RRfCopyGates_0a_of _ _ ?_
      unfold BRfCopyGates_0a
      rw [bif_neg (by simp)]
      rfl
    rw [LRfCopyGates_0a_of this]
    rfl
  · have h := cg_loop g hg hs h0 0 (by omega)
    rw [show tCG g 0 = _ from if_pos rfl] at h
    rw [LRfCopyGates_0b_of h]
    simp only [bindO_val, Sum.elim_inr, decide_true, cond_true]
end Gv
