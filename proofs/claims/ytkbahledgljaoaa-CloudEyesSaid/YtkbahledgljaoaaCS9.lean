import Derived.Test.YtkbahledgljaoaaCT3
import Derived.Test.YtkbahledgljaoaaCS3a
import Derived.Test.YtkbahledgljaoaaCP3
import Derived.Test.YtkbahledgljaoaaCT11

/- The ceiling in sorted layers is the least base up to which enough eighths lie. -/
namespace Gv
open Go

/-- The eighths of the layers up to a base. -/
def upT (l : List (Int × Int × Int)) (b : Int) : Int := ((l.filter fun z => decide (z.1 ≤ b)).map fun z => z.2.2).sum
def scanO : List (Int × Int × Int) → Int → Int → Option Int
  | [], _, _ => none
  | z :: r, c, e => if e ≤ c + z.2.2 then some z.1 else scanO r (c + z.2.2) e

theorem upT_cons_le {z : Int × Int × Int} {r : List (Int × Int × Int)} {b : Int} (h : z.1 ≤ b) : upT (z :: r) b = z.2.2 + upT r b := by
  simp [upT, h]
theorem upT_cons_gt {z : Int × Int × Int} {r : List (Int × Int × Int)} {b : Int} (h : b < z.1) : upT (z :: r) b = upT r b := by
  unfold upT
  rw [List.filter_cons_of_neg (by simp; omega)]
theorem upT_nonneg : ∀ {l : List (Int × Int × Int)} {b : Int}, (∀ z ∈ l, 0 ≤ z.2.2) → 0 ≤ upT l b
  | [], _, _ => by simp [upT]
  | z :: r, b, h => by
    have ih := upT_nonneg (l := r) (b := b) fun y hy => h y (List.mem_cons_of_mem _ hy)
    have hz := h z List.mem_cons_self
    by_cases hb : z.1 ≤ b
    · rw [upT_cons_le hb]; omega
    · rw [upT_cons_gt (by omega)]; exact ih
theorem upT_none : ∀ {l : List (Int × Int × Int)} {b : Int}, (∀ z ∈ l, b < z.1) → upT l b = 0
  | [], _, _ => by simp [upT]
  | z :: r, b, h => by
    rw [upT_cons_gt (h z List.mem_cons_self)]
    exact upT_none fun y hy => h y (List.mem_cons_of_mem _ hy)
theorem upT_perm {l m : List (Int × Int × Int)} (h : l.Perm m) (b : Int) : upT l b = upT m b := by
  have c : ∀ (z : Int × Int × Int) (r : List (Int × Int × Int)), upT (z :: r) b = (if z.1 ≤ b then z.2.2 else 0) + upT r b := fun z r => by
    by_cases hz : z.1 ≤ b
    · rw [upT_cons_le hz, if_pos hz]
    · rw [upT_cons_gt (by omega), if_neg hz]; omega
  induction h with
  | nil => rfl
  | cons x _ ih => rw [c, c, ih]
  | swap x y r => rw [c, c, c, c]; omega
  | trans _ _ h1 h2 => exact h1.trans h2

theorem scanO_none : ∀ {l : List (Int × Int × Int)} {c e : Int}, l.Pairwise (fun x y => x.1 ≤ y.1) → (∀ z ∈ l, 0 ≤ z.2.2) → scanO l c e = none → ∀ y ∈ l, c + upT l y.1 < e
  | [], _, _, _, _, _ => fun y hy => by cases hy
  | z :: r, c, e, hs, hn, h => by
    unfold scanO at h
    split at h
    · cases h
    · rename_i hlt
      have hp := List.pairwise_cons.1 hs
      have ih := scanO_none hp.2 (fun y hy => hn y (List.mem_cons_of_mem _ hy)) h
      have key : ∀ y ∈ r, c + upT (z :: r) y.1 < e := fun y hy => by
        have := ih y hy
        rw [upT_cons_le (hp.1 y hy)]
        omega
      intro y hy
      rcases List.mem_cons.1 hy with rfl | hy
      · by_cases hx : ∃ x ∈ r, x.1 = y.1
        · obtain ⟨x, hx, he⟩ := hx
          rw [← he]
          exact key x hx
        · rw [upT_cons_le (Int.le_refl _), upT_none fun x hxr => by
            have h1 := hp.1 x hxr
            have h2 : x.1 ≠ y.1 := fun h => hx ⟨x, hxr, h⟩
            omega]
          omega
      · exact key y hy

theorem scanO_some : ∀ {l : List (Int × Int × Int)} {c e b : Int}, l.Pairwise (fun x y => x.1 ≤ y.1) → (∀ z ∈ l, 0 ≤ z.2.2) → scanO l c e = some b → (∃ z ∈ l, z.1 = b) ∧ e ≤ c + upT l b ∧ ∀ y ∈ l, y.1 < b → c + upT l y.1 < e
  | [], _, _, _, _, _, h => by cases h
  | z :: r, c, e, b, hs, hn, h => by
    have hp := List.pairwise_cons.1 hs
    have hnr : ∀ y ∈ r, 0 ≤ y.2.2 := fun y hy => hn y (List.mem_cons_of_mem _ hy)
    unfold scanO at h
    split at h
    · rename_i hge
      cases h
      have := upT_nonneg (l := r) (b := z.1) hnr
      refine ⟨⟨z, List.mem_cons_self, rfl⟩, by rw [upT_cons_le (Int.le_refl _)]; omega, fun y hy hlt => ?_⟩
      rcases List.mem_cons.1 hy with rfl | hy
      · omega
      · have := hp.1 y hy; omega
    · rename_i hlt
      obtain ⟨⟨x, hx, hxb⟩, h2, h3⟩ := scanO_some hp.2 hnr h
      have hzb : z.1 ≤ b := by rw [← hxb]; exact hp.1 x hx
      refine ⟨⟨x, List.mem_cons_of_mem _ hx, hxb⟩, by rw [upT_cons_le hzb]; omega, fun y hy hyb => ?_⟩
      have key : ∀ y ∈ r, y.1 < b → c + upT (z :: r) y.1 < e := fun y hy hyb => by
        have := h3 y hy hyb
        rw [upT_cons_le (hp.1 y hy)]
        omega
      rcases List.mem_cons.1 hy with rfl | hy
      · by_cases hex : ∃ w ∈ r, w.1 = y.1
        · obtain ⟨w, hw, he⟩ := hex
          rw [← he]
          exact key w hw (by omega)
        · rw [upT_cons_le (Int.le_refl _), upT_none fun w hwr => by
            have h1 := hp.1 w hwr
            have h2 : w.1 ≠ y.1 := fun h => hex ⟨w, hwr, h⟩
            omega]
          omega
      · exact key y hy hyb
end Gv

/- The reference's sum for a layer: at most the eighths up to its base, and these for the last one of a base. -/
namespace Gv
open Go

def refS (x : Int) (i : Nat) : List (Int × Int × Int) → Nat → Int
  | [], _ => 0
  | z :: r, k => (if z.1 < x ∨ z.1 = x ∧ k ≤ i then z.2.2 else 0) + refS x i r (k + 1)
theorem upT_cons (z : Int × Int × Int) (r : List (Int × Int × Int)) (b : Int) : upT (z :: r) b = (if z.1 ≤ b then z.2.2 else 0) + upT r b := by
  by_cases hz : z.1 ≤ b
  · rw [upT_cons_le hz, if_pos hz]
  · rw [upT_cons_gt (by omega), if_neg hz]; omega
theorem refS_le (x : Int) (i : Nat) : ∀ (l : List (Int × Int × Int)) (k : Nat), (∀ z ∈ l, 0 ≤ z.2.2) → refS x i l k ≤ upT l x
  | [], _, _ => by simp [refS, upT]
  | z :: r, k, h => by
    have ih := refS_le x i r (k + 1) fun y hy => h y (List.mem_cons_of_mem _ hy)
    have hz := h z List.mem_cons_self
    rw [upT_cons]
    show (if z.1 < x ∨ z.1 = x ∧ k ≤ i then z.2.2 else 0) + refS x i r (k + 1) ≤ _
    by_cases h1 : z.1 < x ∨ z.1 = x ∧ k ≤ i
    · rw [if_pos h1, if_pos (by omega)]; omega
    · rw [if_neg h1]
      split <;> omega
theorem refS_last (x : Int) (i : Nat) : ∀ (l : List (Int × Int × Int)) (k : Nat), (∀ j z, l[j]? = some z → z.1 = x → k + j ≤ i) → refS x i l k = upT l x
  | [], _, _ => by simp [refS, upT]
  | z :: r, k, h => by
    have ih := refS_last x i r (k + 1) fun j y hj hy => by have := h (j + 1) y hj hy; omega
    rw [upT_cons]
    show (if z.1 < x ∨ z.1 = x ∧ k ≤ i then z.2.2 else 0) + refS x i r (k + 1) = _
    rw [ih]
    by_cases h1 : z.1 ≤ x
    · rw [if_pos h1, if_pos]
      rcases Int.lt_or_eq_of_le h1 with h2 | h2
      · exact .inl h2
      · exact .inr ⟨h2, by have := h 0 z rfl h2; omega⟩
    · rw [if_neg h1, if_neg (by omega)]
theorem last_of {x : Int} : ∀ {l : List (Int × Int × Int)}, (∃ z ∈ l, z.1 = x) → ∃ (i : Nat) (z : Int × Int × Int), l[i]? = some z ∧ z.1 = x ∧ ∀ (j : Nat) (y : Int × Int × Int), l[j]? = some y → y.1 = x → j ≤ i
  | [], h => by obtain ⟨_, h, _⟩ := h; cases h
  | z :: r, h => by
    by_cases hr : ∃ y ∈ r, y.1 = x
    · obtain ⟨i, y, h1, h2, h3⟩ := last_of hr
      refine ⟨i + 1, y, h1, h2, fun j w hj hw => ?_⟩
      cases j with
      | zero => omega
      | succ j => have := h3 j w hj hw; omega
    · obtain ⟨y, hy, hyx⟩ := h
      rcases List.mem_cons.1 hy with rfl | hy
      · refine ⟨0, y, rfl, hyx, fun j w hj hw => ?_⟩
        cases j with
        | zero => omega
        | succ j => exact absurd ⟨w, List.mem_of_getElem? hj, hw⟩ hr
      · exact absurd ⟨y, hy, hyx⟩ hr

/-- What the reference finds is what the sorted layers give. -/
theorem ceil_same {l s : List (Int × Int × Int)} {e : Int} (hp : s.Perm l) (hs : s.Pairwise fun x y => x.1 ≤ y.1) (hn : ∀ z ∈ l, 0 ≤ z.2.2) :
    match scanO s 0 e with
    | none => ∀ i z, l[i]? = some z → refS z.1 i l 0 < e
    | some b => (∃ i z, l[i]? = some z ∧ z.1 = b ∧ e ≤ refS z.1 i l 0) ∧ ∀ i z, l[i]? = some z → e ≤ refS z.1 i l 0 → b ≤ z.1 := by
  have hns : ∀ z ∈ s, 0 ≤ z.2.2 := fun z hz => hn z (hp.mem_iff.1 hz)
  cases h : scanO s 0 e with
  | none =>
    intro i z hi
    have h1 := scanO_none hs hns h z (hp.mem_iff.2 (List.mem_of_getElem? hi))
    have h2 := refS_le z.1 i l 0 hn
    rw [upT_perm hp] at h1
    omega
  | some b =>
    obtain ⟨⟨z, hz, hzb⟩, h2, h3⟩ := scanO_some hs hns h
    rw [upT_perm hp] at h2
    constructor
    · obtain ⟨i, y, hi, hy, hl⟩ := last_of ⟨z, hp.mem_iff.1 hz, hzb⟩
      refine ⟨i, y, hi, hy, ?_⟩
      rw [hy, refS_last b i l 0 fun j w hj hw => by have := hl j w hj hw; omega]
      omega
    · intro i y hi he
      have h4 := refS_le y.1 i l 0 hn
      apply Int.not_lt.1
      intro hlt
      have := h3 y (hp.mem_iff.2 (List.mem_of_getElem? hi)) hlt
      rw [upT_perm hp] at this
      omega
end Gv

/- The errors of layers: what they give. -/
namespace Gv
open Go
set_option maxRecDepth 100000

def encL3 (l : List (Int × Int × Int)) : List PV := l.flatMap encT
theorem encL3_len : ∀ l : List (Int × Int × Int), (encL3 l).length = l.length * 3
  | [] => rfl
  | z :: l => by
    show (encT z ++ encL3 l).length = _
    rw [List.length_append, encL3_len l, List.length_cons]
    show 3 + _ = _
    omega
theorem encL3_get : ∀ (l : List (Int × Int × Int)) (j k : Nat), k < 3 → (encL3 l)[j * 3 + k]? = l[j]?.bind fun z => (encT z)[k]?
  | [], j, k, _ => by simp [encL3]
  | x :: l, 0, k, hk => by
    show (encT x ++ encL3 l)[0 * 3 + k]? = _
    rw [Nat.zero_mul, Nat.zero_add, List.getElem?_append_left (by simpa [encT] using hk)]
    rfl
  | x :: l, j + 1, k, hk => by
    show (encT x ++ encL3 l)[(j + 1) * 3 + k]? = _
    rw [List.getElem?_append_right (by simp [encT]; omega), List.getElem?_cons_succ, ← encL3_get l j k hk]
    congr 1
    simp [encT]
    omega
theorem get0 {l : List (Int × Int × Int)} {i : Nat} {z : Int × Int × Int} (h : l[i]? = some z) : (encL3 l)[i * 3]? = some (.int .i64 z.1) := by
  have := encL3_get l i 0 (by omega)
  rw [h] at this
  exact this
theorem get1 {l : List (Int × Int × Int)} {i : Nat} {z : Int × Int × Int} (h : l[i]? = some z) : (encL3 l)[i * 3 + 1]? = some (.int .i64 z.2.1) := by
  have := encL3_get l i 1 (by omega)
  rw [h] at this
  exact this
theorem get2 {l : List (Int × Int × Int)} {i : Nat} {z : Int × Int × Int} (h : l[i]? = some z) : (encL3 l)[i * 3 + 2]? = some (.int .i64 z.2.2) := by
  have := encL3_get l i 2 (by omega)
  rw [h] at this
  exact this

def layerE (z : Int × Int × Int) : Int := first4 (rangeE z.1 0 20000) (rangeE z.2.1 0 20000) (rangeE z.2.2 0 8) (if z.1 ≥ z.2.1 then 9 else 0)

theorem firstError4_is (a b c d : Int) : Fcloud_firstError_4 [.list 4 [.int .i64 a, .int .i64 b, .int .i64 c, .int .i64 d]] = some (first4 a b c d) :=
  Fcloud_firstError_4_of a b c d (by
    unfold tcloud_firstError_4 first4
    simp only [bif_ne]
    by_cases h1 : a = 0 <;> by_cases h2 : b = 0 <;> by_cases h3 : c = 0 <;> by_cases h4 : d = 0 <;> simp [h1, h2, h3, h4])

theorem layer_is (n : Nat) (cs : List PV) (z : Int × Int × Int) : Fcloud_CheckLayers_1 [.list n cs, .agg [.int .i64 z.1, .int .i64 z.2.1, .int .i64 z.2.2]] = some (layerE z) :=
  Fcloud_CheckLayers_1_of n cs z.1 z.2.1 z.2.2 (by
    unfold tcloud_CheckLayers_1 layerE
    simp only [rangeError_is, errorIf_is, bindO_val, firstError4_is, if_true, Bool.false_eq_true, if_false]
    by_cases h : z.1 ≥ z.2.1
    · rw [bif_pos h, if_pos h]
    · rw [bif_neg h, if_neg h])

theorem layers_loop (l : List (Int × Int × Int)) (hl : l.length < 4294967296) : ∀ i, i ≤ l.length →
    Rcloud_itemError_layers_0 (Tcloud_itemError_layers_0a l.length (encL3 l) l.length (encL3 l) l.length i) = exO (XLcloud_itemError_layers_0.fn (sumE (findE layerE (l.drop i) i))) := by
  refine up_ind _ ?_ ?_
  · refine Rcloud_itemError_layers_0a_of _ _ _ _ _ _ ?_
    unfold Bcloud_itemError_layers_0a
    rw [bif_neg (by omega), List.drop_length]
    rfl
  · intro i hi' ih
    refine Rcloud_itemError_layers_0a_of _ _ _ _ _ _ ?_
    unfold Bcloud_itemError_layers_0a
    obtain ⟨z, hz, hd⟩ := get_drop hi'
    rw [bif_pos (by omega), bif_pos (by omega)]
    simp only [Int.toNat_natCast, get0 hz, get1 hz, show i * 3 + 1 + 1 = i * 3 + 2 from rfl, get2 hz, intC_int, bindO_val, layer_is]
    rw [bif_pos (by omega), bif_pos (by right; rw [encL3_len]; omega)]
    rw [hd, w64_in (by omega), bif_ne]
    by_cases he : layerE z = 0
    · rw [if_pos he]
      simp only [findE, he, ne_eq, not_true_eq_false, if_false]
      exact ih
    · rw [if_neg he]
      simp only [findE, ne_eq, he, not_false_eq_true, if_true]
      rfl
def chkL (l : List (Int × Int × Int)) : Int × Int := if 10 < l.length then (0, 8) else (findE layerE l 0).getD (0, 0)
theorem checkLayers_is (l : List (Int × Int × Int)) (hl : l.length < 4294967296) : Fcloud_CheckLayers [.list l.length (encL3 l)] = some (chkL l) := by
  have h1 : Fcloud_itemError_layers [.list l.length (encL3 l), .fn 74 []] = some ((findE layerE l 0).getD (0, 0)) := by
    refine Fcloud_itemError_layers_of _ _ ?_
    unfold tcloud_itemError_layers
    have := lpO_of Icloud_itemError_layers_0 XIcloud_itemError_layers_0 (layers_loop l hl 0 (by omega))
    have this : Lcloud_itemError_layers_0 (Tcloud_itemError_layers_0a l.length (encL3 l) l.length (encL3 l) l.length 0) = _ := this
    rw [this]
    simp only [bindO_val, List.drop_zero]
    cases findE layerE l 0 <;> rfl
  have h2 : Fcloud_listError_layers [.list l.length (encL3 l), .int .i64 10, .fn 74 []] = some (chkL l) := by
    refine Fcloud_listError_layers_of _ _ _ ?_
    unfold tcloud_listError_layers chkL
    simp only [h1, bindO_val]
    by_cases h : 10 < l.length
    · rw [bif_pos (by omega), if_pos h]
    · rw [bif_neg (by omega), if_neg h]
  refine Fcloud_CheckLayers_of _ _ ?_
  unfold tcloud_CheckLayers
  simp only [h2, bindO_val]
end Gv

/- The reference's check of layers gives the same. -/
namespace Gv
open Go
set_option maxRecDepth 100000

theorem findE_layer {l : List (Int × Int × Int)} : ∀ {i : Nat} {p : Int × Int}, findE layerE l i = some p → True := fun _ => trivial

def cEnd : Option (Int × Int) → Option (Ext × S)
  | some p => exO (Xglidepathref08_CheckLayers_0a p)
  | none => exO (Xglidepathref08_CheckLayers_0b ())
theorem refLayers_loop (l : List (Int × Int × Int)) (hl : l.length < 4294967296) : ∀ i, i ≤ l.length →
    Rglidepathref08_CheckLayers_0 (Tglidepathref08_CheckLayers_0a l.length (encL3 l) i) = cEnd (findE layerE (l.drop i) i) := by
  refine up_ind _ ?_ ?_
  · rw [List.drop_length]
    show _ = exO (Xglidepathref08_CheckLayers_0b ())
    refine Rglidepathref08_CheckLayers_0a_of _ _ _ ?_
    unfold Bglidepathref08_CheckLayers_0a
    rw [bif_neg (by omega)]
    rfl
  · intro i hi ih
    obtain ⟨z, hz, hd⟩ := get_drop hi
    rw [hd]
    have step : ∀ r, (match layerE z with | 0 => Rglidepathref08_CheckLayers_0 (Tglidepathref08_CheckLayers_0a l.length (encL3 l) (i + 1 : Nat)) | e => exO (Xglidepathref08_CheckLayers_0a ((i : Int), e))) = some r → Rglidepathref08_CheckLayers_0 (Tglidepathref08_CheckLayers_0a l.length (encL3 l) i) = some r := by
      intro r hr
      refine Rglidepathref08_CheckLayers_0a_of _ _ _ ?_
      unfold Bglidepathref08_CheckLayers_0a
      rw [bif_pos (by omega)]
      have hb : (decide (((0 : Int) ≤ (i : Int)) ∧ ((i : Int) < (l.length : Int)))) = true := decide_eq_true ⟨by omega, by omega⟩
      simp only [hb, cond_true, Int.toNat_natCast, Nat.add_zero, get0 hz, get1 hz, get2 hz, intC_int, bindO_val, within_is]
      have w : w64 ((i : Int) + 1) = ((i + 1 : Nat) : Int) := by rw [w64_in (by omega)]; omega
      rw [w]
      unfold layerE first4 at hr
      by_cases a : 0 ≤ z.1 ∧ z.1 ≤ 20000
      · rw [bif_pos a]
        rw [rangeE_in a] at hr
        by_cases b : 0 ≤ z.2.1 ∧ z.2.1 ≤ 20000
        · rw [bif_pos b]
          rw [rangeE_in b] at hr
          by_cases c : 0 ≤ z.2.2 ∧ z.2.2 ≤ 8
          · rw [bif_pos c]
            rw [rangeE_in c] at hr
            by_cases d : z.1 ≥ z.2.1
            · rw [bif_pos d]
              rw [if_pos d] at hr
              exact hr
            · rw [bif_neg d]
              rw [if_neg d] at hr
              exact hr
          · rw [bif_neg c]
            rw [rangeE_out c] at hr
            exact hr
        · rw [bif_neg b]
          rw [rangeE_out b] at hr
          exact hr
      · rw [bif_neg a]
        rw [rangeE_out a] at hr
        exact hr
    have fin : ∀ r : Ext × S, cEnd (findE layerE (z :: l.drop (i + 1)) i) = some r → Rglidepathref08_CheckLayers_0 (Tglidepathref08_CheckLayers_0a l.length (encL3 l) i) = some r := fun r h => by
      refine step r ?_
      by_cases he : layerE z = 0
      · rw [he]
        simp only [findE, he, ne_eq, not_true_eq_false, if_false] at h
        show Rglidepathref08_CheckLayers_0 _ = _
        rw [ih]
        exact h
      · simp only [findE, ne_eq, he, not_false_eq_true, if_true] at h
        split
        · rename_i h0; exact absurd h0 he
        · exact h
    cases hc : findE layerE (z :: l.drop (i + 1)) i with
    | none => exact fin _ (by rw [hc]; rfl)
    | some p => exact fin _ (by rw [hc]; rfl)
theorem refCheck_is (l : List (Int × Int × Int)) (hl : l.length < 4294967296) : Fglidepathref08_CheckLayers [.list l.length (encL3 l)] = some (chkL l) := by
  refine Fglidepathref08_CheckLayers_of _ _ ?_
  unfold tglidepathref08_CheckLayers chkL
  by_cases h : 10 < l.length
  · rw [bif_pos (by omega), if_pos h]
  · rw [bif_neg (by omega), if_neg h]
    have hq := refLayers_loop l hl 0 (by omega)
    rw [List.drop_zero] at hq
    cases hf : findE layerE l 0 with
    | none =>
      rw [hf] at hq
      have := Lglidepathref08_CheckLayers_0b_of (y := ()) hq
      have this : Lglidepathref08_CheckLayers_0 (Tglidepathref08_CheckLayers_0a l.length (encL3 l) 0) = _ := this
      rw [this]
      rfl
    | some p =>
      rw [hf] at hq
      have := Lglidepathref08_CheckLayers_0a_of (y := p) hq
      have this : Lglidepathref08_CheckLayers_0 (Tglidepathref08_CheckLayers_0a l.length (encL3 l) 0) = _ := this
      rw [this]
      rfl
end Gv

/- The reference's ceiling: its two loops. -/
namespace Gv
open Go
set_option maxRecDepth 100000

theorem sum_loop (l : List (Int × Int × Int)) (hl : l.length ≤ 12) (hv : ∀ z ∈ l, 0 ≤ z.2.2 ∧ z.2.2 ≤ 8) (e b : Int) (f : Bool) (i : Nat) (w : Int × Int × Int) (hw : l[i]? = some w) : ∀ k, k ≤ l.length → ∀ c : Int, 0 ≤ c → c ≤ 8 * (k : Int) →
    Rglidepathref08_Ceiling_2 (Tglidepathref08_Ceiling_2a l.length (encL3 l) e b f i c k) = exO (Xglidepathref08_Ceiling_2a (l.length, encL3 l, e, b, f, i, c + refS w.1 i (l.drop k) k)) := by
  have hi : i < l.length := (List.getElem?_eq_some_iff.1 hw).1
  refine up_ind (P := fun k => ∀ c : Int, 0 ≤ c → c ≤ 8 * (k : Int) → Rglidepathref08_Ceiling_2 (Tglidepathref08_Ceiling_2a l.length (encL3 l) e b f i c k) = exO (Xglidepathref08_Ceiling_2a (l.length, encL3 l, e, b, f, i, c + refS w.1 i (l.drop k) k))) _ ?_ ?_
  · intro c _ _
    refine Rglidepathref08_Ceiling_2a_of _ _ _ _ _ _ _ _ ?_
    unfold Bglidepathref08_Ceiling_2a
    rw [bif_neg (by omega), List.drop_length]
    show exO _ = _
    rw [show c + refS w.1 i [] l.length = c by simp [refS]]
    rfl
  · intro k hk ih c h0 h1
    obtain ⟨z, hz, hd⟩ := get_drop hk
    have hzv := hv z (List.mem_of_getElem? hz)
    refine Rglidepathref08_Ceiling_2a_of _ _ _ _ _ _ _ _ ?_
    unfold Bglidepathref08_Ceiling_2a
    rw [bif_pos (by omega)]
    have hb1 : (decide (((0 : Int) ≤ (k : Int)) ∧ ((k : Int) < (l.length : Int)))) = true := decide_eq_true ⟨by omega, by omega⟩
    have hb2 : (decide (((0 : Int) ≤ (i : Int)) ∧ ((i : Int) < (l.length : Int)))) = true := decide_eq_true ⟨by omega, by omega⟩
    simp only [hb1, hb2, cond_true, Int.toNat_natCast, Nat.add_zero, get0 hz, get2 hz, get0 hw, intC_int, bindO_val]
    have wk : w64 ((k : Int) + 1) = ((k + 1 : Nat) : Int) := by rw [w64_in (by omega)]; omega
    have wc : w64 (c + z.2.2) = c + z.2.2 := w64_in (by omega)
    rw [wk, wc, hd]
    show _ = exO (Xglidepathref08_Ceiling_2a (l.length, encL3 l, e, b, f, i, c + ((if z.1 < w.1 ∨ z.1 = w.1 ∧ k ≤ i then z.2.2 else 0) + refS w.1 i (l.drop (k + 1)) (k + 1))))
    by_cases a : z.1 < w.1
    · rw [bif_pos a, if_pos (.inl a), ← Int.add_assoc]
      exact ih (c + z.2.2) (by omega) (by omega)
    · rw [bif_neg a, bif_eq]
      by_cases d : z.1 = w.1
      · rw [if_pos d]
        by_cases g : k ≤ i
        · rw [bif_pos (by omega), if_pos (.inr ⟨d, g⟩), ← Int.add_assoc]
          exact ih (c + z.2.2) (by omega) (by omega)
        · rw [bif_neg (by omega), if_neg (by omega), Int.zero_add]
          exact ih c (by omega) (by omega)
      · rw [if_neg d, if_neg (by omega), Int.zero_add]
        exact ih c (by omega) (by omega)

/-- The reference's outer loop. -/
def refF (l : List (Int × Int × Int)) (e : Int) : List (Int × Int × Int) → Nat → Int × Bool → Int × Bool
  | [], _, a => a
  | z :: r, i, a => refF l e r (i + 1) (if e ≤ refS z.1 i l 0 ∧ (a.2 = false ∨ z.1 < a.1) then (z.1, true) else a)

theorem outer_loop (l : List (Int × Int × Int)) (hl : l.length ≤ 12) (hv : ∀ z ∈ l, 0 ≤ z.2.2 ∧ z.2.2 ≤ 8) (e : Int) : ∀ i, i ≤ l.length → ∀ a : Int × Bool,
    Rglidepathref08_Ceiling_0 (Tglidepathref08_Ceiling_0a l.length (encL3 l) e a.1 a.2 i) = exO (Xglidepathref08_Ceiling_0a (refF l e (l.drop i) i a)) := by
  refine up_ind (P := fun i => ∀ a : Int × Bool, Rglidepathref08_Ceiling_0 (Tglidepathref08_Ceiling_0a l.length (encL3 l) e a.1 a.2 i) = exO (Xglidepathref08_Ceiling_0a (refF l e (l.drop i) i a))) _ ?_ ?_
  · intro a
    refine Rglidepathref08_Ceiling_0a_of _ _ _ _ _ _ ?_
    unfold Bglidepathref08_Ceiling_0a
    rw [bif_neg (by omega), List.drop_length]
    rfl
  · intro i hi ih a
    obtain ⟨z, hz, hd⟩ := get_drop hi
    refine Rglidepathref08_Ceiling_0a_of _ _ _ _ _ _ ?_
    unfold Bglidepathref08_Ceiling_0a
    rw [bif_pos (by omega)]
    have hs := sum_loop l hl hv e a.1 a.2 i z hz 0 (by omega) 0 (by omega) (by omega)
    rw [List.drop_zero, Int.zero_add] at hs
    have hs := Lglidepathref08_Ceiling_2a_of hs
    have hs : Lglidepathref08_Ceiling_2 (Tglidepathref08_Ceiling_2a l.length (encL3 l) e a.1 a.2 i (0 : Int) (0 : Int)) = _ := hs
    have hb2 : (decide (((0 : Int) ≤ (i : Int)) ∧ ((i : Int) < (l.length : Int)))) = true := decide_eq_true ⟨by omega, by omega⟩
    have wk : w64 ((i : Int) + 1) = ((i + 1 : Nat) : Int) := by rw [w64_in (by omega)]; omega
    simp only [hs, bindO_val, hb2, cond_true, Int.toNat_natCast, Nat.add_zero, get0 hz, intC_int, wk]
    rw [hd]
    show _ = exO (Xglidepathref08_Ceiling_0a (refF l e (l.drop (i + 1)) (i + 1) (if e ≤ refS z.1 i l 0 ∧ (a.2 = false ∨ z.1 < a.1) then (z.1, true) else a)))
    obtain ⟨b, f⟩ := a
    by_cases h1 : refS z.1 i l 0 ≥ e
    · rw [bif_pos h1]
      cases f with
      | false =>
        rw [if_pos ⟨h1, .inl rfl⟩]
        exact ih (z.1, true)
      | true =>
        show (bif decide (z.1 < b) then _ else _) = _
        by_cases h2 : z.1 < b
        · rw [bif_pos h2, if_pos ⟨h1, .inr h2⟩]
          exact ih (z.1, true)
        · rw [bif_neg h2, if_neg (by
            rintro ⟨_, h | h⟩
            · cases h
            · exact h2 h)]
          exact ih (b, true)
    · rw [bif_neg h1, if_neg (fun h => h1 h.1)]
      exact ih (b, f)
theorem refCeiling_is (l : List (Int × Int × Int)) (hl : l.length ≤ 12) (hv : ∀ z ∈ l, 0 ≤ z.2.2 ∧ z.2.2 ≤ 8) (e : Int) : Fglidepathref08_Ceiling [.list l.length (encL3 l), .int .i64 e] = some (refF l e l 0 (0, false)) := by
  refine Fglidepathref08_Ceiling_of _ _ _ ?_
  unfold tglidepathref08_Ceiling
  have h := outer_loop l hl hv e 0 (by omega) (0, false)
  rw [List.drop_zero] at h
  have h := Lglidepathref08_Ceiling_0a_of h
  have h : Lglidepathref08_Ceiling_0 (Tglidepathref08_Ceiling_0a l.length (encL3 l) e (0 : Int) false (0 : Int)) = _ := h
  rw [h]
  simp only [bindO_val]
  obtain ⟨b, f⟩ := refF l e l 0 (0, false)
  cases f <;> rfl

/-- The least base with enough eighths, as the outer loop finds it. -/
theorem refF_spec (l : List (Int × Int × Int)) (e : Int) : ∀ (r : List (Int × Int × Int)) (i : Nat) (a : Int × Bool),
    (refF l e r i a = a ∧ ∀ j z, r[j]? = some z → e ≤ refS z.1 (i + j) l 0 → a.2 = true ∧ a.1 ≤ z.1) ∨
    (∃ j z, r[j]? = some z ∧ e ≤ refS z.1 (i + j) l 0 ∧ refF l e r i a = (z.1, true) ∧ (a.2 = true → z.1 < a.1) ∧ ∀ k y, r[k]? = some y → e ≤ refS y.1 (i + k) l 0 → z.1 ≤ y.1)
  | [], i, a => .inl ⟨rfl, fun j z h => by simp at h⟩
  | w :: r, i, a => by
    show (refF l e r (i + 1) (if e ≤ refS w.1 i l 0 ∧ (a.2 = false ∨ w.1 < a.1) then (w.1, true) else a) = a ∧ _) ∨ _
    by_cases hc : e ≤ refS w.1 i l 0 ∧ (a.2 = false ∨ w.1 < a.1)
    · right
      have hfirst : a.2 = true → w.1 < a.1 := fun h => by
        rcases hc.2 with h2 | h2
        · rw [h] at h2; cases h2
        · exact h2
      rcases refF_spec l e r (i + 1) (w.1, true) with ⟨h1, h2⟩ | ⟨j, z, h1, h2, h3, h4, h5⟩
      · refine ⟨0, w, rfl, hc.1, ?_, hfirst, fun k y hk hy => ?_⟩
        · show refF l e r (i + 1) (if _ then _ else _) = _
          rw [if_pos hc, h1]
        · cases k with
          | zero => cases hk; exact Int.le_refl _
          | succ k => exact (h2 k y hk (by rw [show i + 1 + k = i + (k + 1) by omega]; exact hy)).2
      · have h4' := h4 rfl
        refine ⟨j + 1, z, h1, by rw [show i + (j + 1) = i + 1 + j by omega]; exact h2, ?_, fun h => by have := hfirst h; simp only at h4'; omega, fun k y hk hy => ?_⟩
        · show refF l e r (i + 1) (if _ then _ else _) = _
          rw [if_pos hc]; exact h3
        · cases k with
          | zero => cases hk; simp only at h4'; omega
          | succ k => exact h5 k y hk (by rw [show i + 1 + k = i + (k + 1) by omega]; exact hy)
    · rw [if_neg hc]
      have hw : e ≤ refS w.1 i l 0 → a.2 = true ∧ a.1 ≤ w.1 := fun h => by
        have : ¬ (a.2 = false ∨ w.1 < a.1) := fun h2 => hc ⟨h, h2⟩
        constructor
        · cases ha : a.2 with
          | true => rfl
          | false => exact absurd (.inl ha) this
        · exact Int.not_lt.1 fun h3 => this (.inr h3)
      rcases refF_spec l e r (i + 1) a with ⟨h1, h2⟩ | ⟨j, z, h1, h2, h3, h4, h5⟩
      · left
        refine ⟨h1, fun j z hj hz => ?_⟩
        cases j with
        | zero => cases hj; exact hw hz
        | succ j => exact h2 j z hj (by rw [show i + 1 + j = i + (j + 1) by omega]; exact hz)
      · right
        refine ⟨j + 1, z, h1, by rw [show i + (j + 1) = i + 1 + j by omega]; exact h2, ?_, h4, fun k y hk hy => ?_⟩
        · show refF l e r (i + 1) (if _ then _ else _) = _
          rw [if_neg hc]; exact h3
        · cases k with
          | zero =>
            cases hk
            have := hw hy
            have := h4 this.1
            omega
          | succ k => exact h5 k y hk (by rw [show i + 1 + k = i + (k + 1) by omega]; exact hy)
end Gv

/- The program's ceiling is that of sorted layers. -/
namespace Gv
open Go Go.Proofs Go.Sort Go.RowKit

theorem ltL_is (x y : Lay3) : ltOf cfL x y = decide (x.1 < y.1) := by
  unfold ltOf cfL cmpI
  by_cases a : x.1 < y.1
  · simp [a]
  · rw [if_neg a]
    by_cases b : x.1 > y.1
    · rw [if_pos b]; simp [a]
    · rw [if_neg b]; simp [a]
theorem cfL_swo : SWO (ltOf cfL) := by
  have h := ltL_is
  refine ⟨fun x => ?_, fun x y z => ?_, fun x y z => ?_⟩
  · rw [h]; simp
  · rw [h, h, h]; simp only [decide_eq_true_eq]; omega
  · rw [h, h, h]; simp only [decide_eq_false_iff_not]; omega

theorem srt_perm (l : List Lay3) : (srtK l).Perm l := by
  rw [← srtK_eq]
  have h := (insertionSort_holds (lt := ltOf cfL) cfL_swo l.toArray 0 l.length (Nat.zero_le _) (by simp)).1
  have h2 := h.2.2
  have e1 : (Sort.insertionSort (ltOf cfL) l.toArray 0 l.length).size = l.length := by rw [insSort_len]; simp
  rw [Array.extract_eq_self_of_le (by rw [e1]; exact Nat.le_refl _), Array.extract_eq_self_of_le (by simp)] at h2
  simpa [srtL] using h2

theorem srt_asc (l : List Lay3) : (srtK l).Pairwise fun x y => x.1 ≤ y.1 := by
  rw [← srtK_eq]
  have h := (insertionSort_holds (lt := ltOf cfL) cfL_swo l.toArray 0 l.length (Nat.zero_le _) (by simp)).2
  have e1 : (Sort.insertionSort (ltOf cfL) l.toArray 0 l.length).size = l.length := by rw [insSort_len]; simp
  rw [List.pairwise_iff_getElem]
  intro i j hi hj hij
  have hi' : i < (Sort.insertionSort (ltOf cfL) l.toArray 0 l.length).size := by simpa [srtL] using hi
  have hj' : j < (Sort.insertionSort (ltOf cfL) l.toArray 0 l.length).size := by simpa [srtL] using hj
  have := h i j (Nat.zero_le _) hij (by rw [← e1]; exact hj')
  rw [getElem!_pos _ i hi', getElem!_pos _ j hj'] at this
  rw [ltL_is] at this
  simp only [srtL, Array.getElem_toList]
  exact Int.not_lt.1 (of_decide_eq_false this)

theorem scanC_eq : ∀ (s : List Lay3) (c e : Int), (∀ z ∈ s, 0 ≤ z.2.2 ∧ z.2.2 ≤ 8) → 0 ≤ c → c + 8 * (s.length : Int) ≤ 1000000 → scanC s c e = (match scanO s c e with | some b => (b, 0) | none => (0, 12))
  | [], _, _, _, _, _ => rfl
  | z :: r, c, e, h, h0, h1 => by
    have hz := h z List.mem_cons_self
    rw [List.length_cons] at h1
    have hw : wrap64 (c + z.2.2) = c + z.2.2 := by unfold wrap64; omega
    unfold scanC scanO
    rw [hw]
    by_cases hc : e ≤ c + z.2.2
    · rw [if_pos hc, if_pos hc]
    · rw [if_neg hc, if_neg hc]
      exact scanC_eq r (c + z.2.2) e (fun y hy => h y (List.mem_cons_of_mem _ hy)) (by omega) (by omega)
end Gv
