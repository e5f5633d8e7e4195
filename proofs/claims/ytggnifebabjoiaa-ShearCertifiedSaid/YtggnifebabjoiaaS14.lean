import Derived.Test.YtggnifebabjoiaaS5
import Derived.Test.YtggnifebabjoiaaP2
import Derived.Test.YtggnifebabjoiaaP5
import Derived.Test.YtggnifebabjoiaaGvYc

/- Profiles: their errors. -/
namespace Gv
open Go
set_option maxRecDepth 100000
def gateE (e : Z3) : Int := both (rangeE e.1 0 50000) (endE (-10000) 10000 e.2.1 e.2.2)
theorem gateE_ok {e : Z3} (h : gateE e = 0) : 0 ≤ e.1 ∧ e.1 ≤ 50000 ∧ -10000 ≤ e.2.1 ∧ e.2.1 ≤ e.2.2 ∧ e.2.2 ≤ 10000 := by
  obtain ⟨h1, h2⟩ := both_nil h
  have := rangeE_ok h1
  have := endE_ok h2
  omega
def gtF : List Z3 → Int → Nat → Option (Int × Int)
  | [], _, _ => none
  | e :: l, b, i => if gateE e ≠ 0 then some ((i : Int), gateE e) else if e.1 ≤ b then some ((i : Int), 9) else gtF l e.1 (i + 1)
def gtsV (l : List Z3) : Int × Int := if 20 < l.length then (0, 8) else (gtF l (-1) 0).getD (0, 0)
def gtsE (l : List Z3) : Int := (gtsV l).2
def AscG : List Z3 → Int → Prop
  | [], _ => True
  | e :: l, b => b < e.1 ∧ gateE e = 0 ∧ AscG l e.1
theorem gtF_asc : ∀ {l : List Z3} {b : Int} {i : Nat}, gtF l b i = none → AscG l b
  | [], _, _, _ => trivial
  | e :: l, b, i, h => by
    simp only [gtF] at h
    split at h
    · cases h
    · rename_i h1
      split at h
      · cases h
      · rename_i h2
        exact ⟨by omega, by simpa using h1, gtF_asc h⟩
theorem gtsE_ok {l : List Z3} (h : gtsE l = 0) : l.length ≤ 20 ∧ AscG l (-1) := by
  unfold gtsE gtsV at h
  split at h
  · simp at h
  · rename_i hl
    refine ⟨by omega, ?_⟩
    cases hf : gtF l (-1) 0 with
    | none => exact gtF_asc hf
    | some p =>
      exfalso
      rw [hf] at h
      have : ∀ (l : List Z3) (b : Int) (i : Nat) (p : Int × Int), gtF l b i = some p → p.2 ≠ 0 := by
        intro l
        induction l with
        | nil => intro b i p h; simp [gtF] at h
        | cons e l ih =>
          intro b i p h
          simp only [gtF] at h
          split at h
          · rename_i hne
            simp at h; subst h; exact hne
          · split at h
            · simp at h; subst h; show (9 : Int) ≠ 0; decide
            · exact ih _ _ _ h
      exact this _ _ _ _ hf h
theorem cP_loop (l : List Z3) (hl : l.length < 1000) : ∀ i, i ≤ l.length → ∀ b : Int,
    ∃ c : Int, RcP_1180000000 (TcP_1180000000a l.length (encT l) l.length i b) = exO (XLcP_1180000000.fn (match gtF (l.drop i) b i with | some p => .inl (p.1, p.2, c) | none => .inr c)) := by
  refine up_ind _ ?_ ?_
  · intro b
    refine ⟨b, RcP_1180000000a_of _ _ _ _ _ ?_⟩
    unfold BcP_1180000000a
    rw [bif_neg (by omega), List.drop_length]
    rfl
  · intro i hi ih b
    obtain ⟨e, he, hd⟩ := get_drop hi
    obtain ⟨c, hc⟩ := ih e.1
    have go : BcP_1180000000a (Fn env) RcP_1180000000 exO LcP_1180000000 l.length (encT l) l.length i b = (if both (gateE e) (if e.1 ≤ b then 9 else 0) = 0 then RcP_1180000000 (TcP_1180000000a l.length (encT l) l.length ((i + 1 : Nat) : Int) e.1) else exO (XcP_1180000000a ((i : Int), both (gateE e) (if e.1 ≤ b then 9 else 0), e.1))) := by
      unfold BcP_1180000000a
      rw [bif_pos (by omega), bif_pos (by omega)]
      simp only [Int.toNat_natCast, encT_0, encT_1, encT_2, he, Option.map_some, intC_int, bindO_val, lenE_is, eeA_is, eIf_is, fE3_is, bif_dec, bif_ne]
      rw [w64_in (by omega)]
      have e3 : ∀ x y z : Int, first3 x y z = both (both x y) z := fun x y z => by
        unfold first3 both
        by_cases h1 : x = 0 <;> by_cases h2 : y = 0 <;> simp [h1, h2]
      simp only [e3]
      by_cases h1 : e.1 ≤ b
      · simp only [h1, if_true]; rfl
      · simp only [h1, if_false, Bool.false_eq_true]; rfl
    rw [hd]
    simp only [gtF]
    by_cases h1 : gateE e = 0
    · by_cases h2 : e.1 ≤ b
      · refine ⟨e.1, RcP_1180000000a_of _ _ _ _ _ ?_⟩
        rw [go]
        simp only [h1, h2, both, ne_eq, not_true_eq_false, if_true, if_false]
        rfl
      · refine ⟨c, RcP_1180000000a_of _ _ _ _ _ ?_⟩
        rw [go]
        simp only [h1, h2, both, ne_eq, not_true_eq_false, if_true, if_false]
        exact hc
    · refine ⟨e.1, RcP_1180000000a_of _ _ _ _ _ ?_⟩
      rw [go]
      simp only [h1, both, ne_eq, not_false_eq_true, if_true, if_false]
      rfl
theorem cP_is (l : List Z3) (hl : l.length < 1000) : FcP [.list l.length (encT l)] = some (gtsV l) := by
  refine FcP_of _ _ ?_
  unfold tcP gtsV
  by_cases hc : 20 < l.length
  · rw [bif_pos (by omega), if_pos hc]
  · rw [bif_neg (by omega), if_neg hc]
    obtain ⟨c, h⟩ := cP_loop l hl 0 (by omega) (-1)
    have h' : LcP_1180000000 (TcP_1180000000a l.length (encT l) l.length 0 (-1)) = _ := lpO_of IcP_1180000000 XIcP_1180000000 h
    rw [List.drop_zero] at h'
    rw [h']
    cases gtF l (-1) 0 <;> rfl
theorem pE_is (l : List Z3) (hl : l.length < 1000) : FpE [.list l.length (encT l)] = some (gtsE l) := by
  refine FpE_of _ _ ?_
  unfold tpE
  simp only [cP_is l hl, bindO_val]
  rfl
theorem rCP_loop (l : List Z3) (hl : l.length < 1000) : ∀ i, i ≤ l.length → ∀ b : Int, (∀ e, l[i - 1]? = some e → i = 0 ∨ b = e.1) → (i = 0 → b = -1) →
    RrCP_0 (TrCP_0a l.length (encT l) i) = exO (XLrCP_0.fn (sumE (gtF (l.drop i) b i))) := by
  refine up_ind _ ?_ ?_
  · intro b _ _
    refine RrCP_0a_of _ _ _ ?_
    unfold BrCP_0a
    rw [bif_neg (by omega), List.drop_length]
    rfl
  · intro i hi ih b hb hb0
    obtain ⟨e, he, hd⟩ := get_drop hi
    have ih := ih e.1 (fun e' h => by
      rw [Nat.add_sub_cancel, he] at h
      exact .inr (congrArg Prod.fst (Option.some.inj h))) (fun h => by omega)
    refine RrCP_0a_of _ _ _ ?_
    unfold BrCP_0a
    have c1 : (0 : Int) ≤ (i : Int) ∧ (i : Int) < l.length := by omega
    rw [bif_pos (by omega)]
    simp only [bif_dec, c1, and_self, if_true, Int.toNat_natCast, encT_0', encT_1', encT_2, he, Option.map_some, intC_int, bindO_val, rAtE_is, rWind_is, bif_ne]
    rw [hd]
    simp only [gtF, gateE, both, rangeE_if, endE_of]
    by_cases h1 : 0 ≤ e.1 ∧ e.1 ≤ 50000
    · simp only [h1, and_self, if_true]
      by_cases h2 : -10000 ≤ e.2.1 ∧ e.2.1 ≤ 10000
      · simp only [h2, and_self, if_true, true_and]
        by_cases h3 : -10000 ≤ e.2.2 ∧ e.2.2 ≤ 10000
        · simp only [h3, and_self, if_true]
          by_cases h4 : e.2.1 > e.2.2
          · simp only [h4, if_true]
            rfl
          · simp only [h4, if_false]
            by_cases h0 : i = 0
            · subst h0
              have : ¬ e.1 ≤ b := by rw [hb0 rfl]; omega
              rw [if_neg (by omega), w64_in (by omega)]
              simp only [ne_eq, not_true_eq_false, if_false, this]
              exact ih
            · have hp : i - 1 < l.length := by omega
              have hw : w64 ((i : Int) - 1) = ((i - 1 : Nat) : Int) := by rw [w64_in (by omega)]; omega
              have hg : l[i - 1]? = some l[i - 1] := List.getElem?_eq_getElem hp
              have hbe : b = l[i - 1].1 := by
                rcases hb _ hg with h | h
                · exact absurd h h0
                · exact h
              have c2 : (0 : Int) ≤ ((i - 1 : Nat) : Int) ∧ ((i - 1 : Nat) : Int) < l.length := by omega
              rw [if_pos (by omega)]
              simp only [hw, c2, and_self, if_true, Int.toNat_natCast, encT_0', hg, Option.map_some, intC_int, bindO_val]
              by_cases h5 : e.1 ≤ l[i - 1].1
              · rw [if_pos h5, hbe]
                simp only [ne_eq, not_true_eq_false, if_false, h5, if_true]
                rfl
              · rw [if_neg h5, hbe, w64_in (by omega)]
                simp only [ne_eq, not_true_eq_false, if_false, h5]
                exact ih
        · simp only [h3, and_false, if_false]
          rfl
      · have h2' : ¬ (-10000 ≤ e.2.1 ∧ e.2.1 ≤ 10000 ∧ -10000 ≤ e.2.2 ∧ e.2.2 ≤ 10000) := fun h => h2 ⟨h.1, h.2.1⟩
        simp only [h2, h2', if_false]
        rfl
    · simp only [h1, if_false]
      rfl
theorem rCP_is (l : List Z3) (hl : l.length < 1000) : FrCP [.list l.length (encT l)] = some (gtsV l) := by
  refine FrCP_of _ _ ?_
  unfold trCP gtsV
  by_cases hc : 20 < l.length
  · rw [bif_pos (by omega), if_pos hc]
  · rw [bif_neg (by omega), if_neg hc]
    have h := rCP_loop l hl 0 (by omega) (-1) (fun _ _ => .inl rfl) (fun _ => rfl)
    have h' : LrCP_0 (TrCP_0a l.length (encT l) 0) = _ := lpO_of IrCP_0 XIrCP_0 h
    rw [List.drop_zero] at h'
    rw [h']
    cases gtF l (-1) 0 <;> rfl
theorem rPE_is (l : List Z3) (hl : l.length < 1000) : FrPE [.list l.length (encT l)] = some (gtsE l) := by
  refine FrPE_of _ _ ?_
  unfold trPE
  simp only [rCP_is l hl, bindO_val]
  rfl
end Gv

/- The strongest loss: pairs of gates, the reference's scan. -/
namespace Gv
open Go
set_option maxRecDepth 100000
def gtA (l : List Z3) (i : Nat) : Z3 := (l[i]?).getD (0, 0, 0)
theorem gtA_of {l : List Z3} {i : Nat} {e : Z3} (h : l[i]? = some e) : gtA l i = e := by unfold gtA; rw [h]; rfl
theorem asc_low : ∀ {l : List Z3} {b : Int}, AscG l b → ∀ {i : Nat} {e : Z3}, l[i]? = some e → b < e.1 ∧ gateE e = 0
  | [], _, _, i, e, h => by simp at h
  | x :: l, b, ha, 0, e, h => by
    simp only [List.getElem?_cons_zero, Option.some.injEq] at h
    subst h
    exact ⟨ha.1, ha.2.1⟩
  | x :: l, b, ha, i + 1, e, h => by
    rw [List.getElem?_cons_succ] at h
    have := asc_low ha.2.2 h
    exact ⟨by have := ha.1; omega, this.2⟩
theorem asc_lt : ∀ {l : List Z3} {b : Int}, AscG l b → ∀ {i j : Nat} {e f : Z3}, i < j → l[i]? = some e → l[j]? = some f → e.1 < f.1
  | [], _, _, i, _, e, _, _, h, _ => by simp at h
  | x :: l, b, ha, 0, j + 1, e, f, _, he, hf => by
    simp only [List.getElem?_cons_zero, Option.some.injEq] at he
    subst he
    rw [List.getElem?_cons_succ] at hf
    exact (asc_low ha.2.2 hf).1
  | x :: l, b, ha, i + 1, j + 1, e, f, hij, he, hf => by
    rw [List.getElem?_cons_succ] at he hf
    exact asc_lt ha.2.2 (by omega) he hf
def rowP (l : List Z3) (len : Int) (i : Nat) : Nat → Nat → List (Nat × Nat)
  | 0, _ => []
  | m + 1, k => if (gtA l k).1 - (gtA l i).1 ≤ len then (i, k) :: rowP l len i m (k + 1) else rowP l len i m (k + 1)
def prsP (l : List Z3) (len : Int) : Nat → Nat → List (Nat × Nat)
  | 0, _ => []
  | m + 1, i => rowP l len i (l.length - (i + 1)) (i + 1) ++ prsP l len m (i + 1)
theorem rowP_nil {l : List Z3} {b len : Int} (ha : AscG l b) {i k : Nat} : ∀ (m : Nat) (k' : Nat), k ≤ k' → k' + m ≤ l.length → k < l.length → len < (gtA l k).1 - (gtA l i).1 → rowP l len i m k' = []
  | 0, _, _, _, _, _ => rfl
  | m + 1, k', h1, h2, h3, h4 => by
    simp only [rowP]
    have e1 := List.getElem?_eq_getElem h3
    have e2 := List.getElem?_eq_getElem (show k' < l.length by omega)
    have hk : (gtA l k).1 ≤ (gtA l k').1 := by
      by_cases hkk : k = k'
      · subst hkk; exact Int.le_refl _
      · rw [gtA_of e1, gtA_of e2]
        exact Int.le_of_lt (asc_lt ha (by omega) e1 e2)
    rw [if_neg (by omega)]
    exact rowP_nil ha m (k' + 1) (by omega) (by omega) h3 h4
def lossV (a b : Z3) : ZZ := (a.2.1 - b.2.2, a.2.2 - b.2.1)
def oppV (r : ZZ) : ZZ := (-r.2, -r.1)
def chV (gain : Bool) (a b : Z3) : ZZ := if gain = true then oppV (lossV a b) else lossV a b
abbrev Bst := Bool × Int × Int × Int × Int
end Gv

/- The pairs of gates that the program's iterator yields. -/
namespace Gv
open Go
set_option maxRecDepth 100000
def encP (l : List (Nat × Nat)) : List PV := encG (l.map fun p => ((p.1 : Int), (p.2 : Int)))
theorem encP_snoc (l : List (Nat × Nat)) (i k : Nat) : encP l ++ [.int .i64 (i : Int), .int .i64 (k : Int)] = encP (l ++ [(i, k)]) := by simp [encP, encG, enc2]
theorem rowP_len (l : List Z3) (len : Int) (i : Nat) : ∀ m k, (rowP l len i m k).length ≤ m
  | 0, _ => by simp [rowP]
  | m + 1, k => by
    have := rowP_len l len i m (k + 1)
    simp only [rowP]
    split
    · simp only [List.length_cons]; omega
    · omega
theorem prsP_len (l : List Z3) (len : Int) : ∀ m i, (prsP l len m i).length ≤ m * l.length
  | 0, _ => by simp [prsP]
  | m + 1, i => by
    have h1 := prsP_len l len m (i + 1)
    have h2 := rowP_len l len i (l.length - (i + 1)) (i + 1)
    simp only [prsP, List.length_append]
    rw [Nat.add_mul]
    omega
theorem pw1_2 (l : List Z3) (b len : Int) (ha : AscG l b) (hl : l.length ≤ 20) (K i : Nat) (hi : i < l.length) : ∀ k, k ≤ l.length → ∀ out : List (Nat × Nat), out.length ≤ K →
    Rpw1_2 (Tpw1_2a l.length (encT l) len i k l.length i [none, none] K out.length (encP out)) =
      if (out ++ rowP l len i (l.length - k) k).length ≤ K then exO (Xpw1_2b (l.length, encT l, len, l.length, i, [none, none], K, (out ++ rowP l len i (l.length - k) k).length, encP (out ++ rowP l len i (l.length - k) k)))
      else exO (Xpw1_2a ([none, none], K, K + 1, encP ((out ++ rowP l len i (l.length - k) k).take (K + 1)))) := by
  refine up_ind _ ?_ ?_
  · intro out ho
    rw [Nat.sub_self]
    simp only [rowP, List.append_nil]
    rw [if_pos ho]
    refine Rpw1_2a_of _ _ _ _ _ _ _ _ _ _ _ ?_
    unfold Bpw1_2a
    dsimp only
    rw [bif_neg (by omega)]
    rfl
  · intro k hk ih out ho
    obtain ⟨r, hr⟩ : ∃ r, (if (out ++ rowP l len i (l.length - k) k).length ≤ K then exO (Xpw1_2b (l.length, encT l, len, l.length, i, [none, none], K, (out ++ rowP l len i (l.length - k) k).length, encP (out ++ rowP l len i (l.length - k) k)))
      else exO (Xpw1_2a ([none, none], K, K + 1, encP ((out ++ rowP l len i (l.length - k) k).take (K + 1))))) = some r := by
      split <;> exact ⟨_, rfl⟩
    rw [hr]
    have e1 := List.getElem?_eq_getElem hi
    have e2 := List.getElem?_eq_getElem hk
    have b1 := gateE_ok (asc_low ha e1).2
    have b2 := gateE_ok (asc_low ha e2).2
    have w1 : w64 ((k : Int) + 1) = ((k + 1 : Nat) : Int) := by rw [w64_in (by omega)]; omega
    have g1 := gtA_of e1
    have g2 := gtA_of e2
    refine Rpw1_2a_of _ _ _ _ _ _ _ _ _ _ _ ?_
    unfold Bpw1_2a
    dsimp only
    rw [bif_pos (by omega), bif_pos (by omega)]
    simp only [Int.toNat_natCast, encT_0', e1, e2, Option.map_some, intC_int, bindO_val]
    rw [bif_pos (by omega)]
    simp only [bindO_val, w1]
    rw [w64_in (by omega)]
    by_cases hc : l[k].1 - l[i].1 ≤ len
    · have hrow : rowP l len i (l.length - k) k = (i, k) :: rowP l len i (l.length - (k + 1)) (k + 1) := by
        rw [show l.length - k = (l.length - (k + 1)) + 1 by omega]
        simp only [rowP, g1, g2]
        rw [if_pos hc]
      rw [hrow] at hr
      rw [bif_pos hc, bif_pos ho, show shapeOK [none, none] [PV.int .i64 (i : Int), PV.int .i64 (k : Int)] = true from rfl, cond_true, encP_snoc]
      by_cases he : out.length = K
      · rw [show (out.length != K) = false from by simp [he], cond_false]
        rw [if_neg (by simp; omega)] at hr
        have ht : (out ++ (i, k) :: rowP l len i (l.length - (k + 1)) (k + 1)).take (K + 1) = out ++ [(i, k)] := by
          rw [show out ++ (i, k) :: rowP l len i (l.length - (k + 1)) (k + 1) = (out ++ [(i, k)]) ++ rowP l len i (l.length - (k + 1)) (k + 1) by simp]
          exact List.take_left' (by simp [he])
        rw [ht] at hr
        rw [he]
        exact hr
      · rw [show (out.length != K) = true from by simp [he], cond_true]
        have h := ih (out ++ [(i, k)]) (by simp; omega)
        rw [show (out ++ [(i, k)]).length = out.length + 1 by simp, show out ++ [(i, k)] ++ rowP l len i (l.length - (k + 1)) (k + 1) = out ++ (i, k) :: rowP l len i (l.length - (k + 1)) (k + 1) by simp] at h
        rw [← hr]
        exact h
    · have hrow : rowP l len i (l.length - k) k = [] := rowP_nil (k := k) ha _ _ (Nat.le_refl _) (by omega) hk (by rw [g1, g2]; omega)
      rw [hrow, List.append_nil, if_pos ho] at hr
      rw [bif_neg hc]
      exact hr
theorem pw1_0 (l : List Z3) (b len : Int) (ha : AscG l b) (hl : l.length ≤ 20) (K : Nat) : ∀ i, i ≤ l.length → ∀ out : List (Nat × Nat), out.length ≤ K →
    Rpw1_0 (Tpw1_0a l.length (encT l) len l.length i [none, none] K out.length (encP out)) =
      if (out ++ prsP l len (l.length - i) i).length ≤ K then exO (Xpw1_0a ([none, none], K, (out ++ prsP l len (l.length - i) i).length, encP (out ++ prsP l len (l.length - i) i)))
      else exO (Xpw1_0b ([none, none], K, K + 1, encP ((out ++ prsP l len (l.length - i) i).take (K + 1)))) := by
  refine up_ind _ ?_ ?_
  · intro out ho
    rw [Nat.sub_self]
    simp only [prsP, List.append_nil]
    rw [if_pos ho]
    refine Rpw1_0a_of _ _ _ _ _ _ _ _ _ ?_
    unfold Bpw1_0a
    rw [bif_neg (by omega)]
    rfl
  · intro i hi ih out ho
    obtain ⟨r, hr⟩ : ∃ r, (if (out ++ prsP l len (l.length - i) i).length ≤ K then exO (Xpw1_0a ([none, none], K, (out ++ prsP l len (l.length - i) i).length, encP (out ++ prsP l len (l.length - i) i)))
      else exO (Xpw1_0b ([none, none], K, K + 1, encP ((out ++ prsP l len (l.length - i) i).take (K + 1))))) = some r := by
      split <;> exact ⟨_, rfl⟩
    rw [hr]
    have w1 : w64 ((i : Int) + 1) = ((i + 1 : Nat) : Int) := by rw [w64_in (by omega)]; omega
    have hp : prsP l len (l.length - i) i = rowP l len i (l.length - (i + 1)) (i + 1) ++ prsP l len (l.length - (i + 1)) (i + 1) := by
      rw [show l.length - i = (l.length - (i + 1)) + 1 by omega]
      rfl
    rw [hp, ← List.append_assoc] at hr
    have h2 := pw1_2 l b len ha hl K i hi (i + 1) (by omega) out ho
    refine Rpw1_0a_of _ _ _ _ _ _ _ _ _ ?_
    unfold Bpw1_0a
    rw [bif_pos (by omega), w1]
    by_cases hc : (out ++ rowP l len i (l.length - (i + 1)) (i + 1)).length ≤ K
    · rw [if_pos hc] at h2
      have h2' := Lpw1_2b_of h2
      simp only [h2', bindO_val, Sum.elim, w1]
      rw [← hr]
      exact ih _ hc
    · rw [if_neg hc] at h2
      have h2' := Lpw1_2a_of h2
      simp only [h2', bindO_val, Sum.elim]
      rw [if_neg (by rw [List.length_append]; omega), List.take_append_of_le_length (by omega)] at hr
      exact hr
theorem encP_take (l : List (Nat × Nat)) (n : Nat) : (encP l).take (n * 2) = encP (l.take n) := by
  unfold encP
  rw [encG_take, List.map_take]
theorem pw1_is (l : List Z3) (b len : Int) (ha : AscG l b) (hl : l.length ≤ 20) :
    Fn env 123 (.one .list) [.it [none, none] 0, .imm [.list l.length (encT l)] 0, .imm [.int .i64 len] 0] = some ((prsP l len l.length 0).length, encP (prsP l len l.length 0)) := by
  have hn := prsP_len l len l.length 0
  have hn2 : l.length * l.length ≤ 20 * 20 := Nat.mul_le_mul hl hl
  have hlen : (encP (prsP l len l.length 0)).length = (prsP l len l.length 0).length * 2 := by unfold encP; rw [encG_len, List.length_map]
  refine it_of (by unfold big; omega) (by rw [hlen]; rfl) fun k hk => ?_
  refine Fpw1_of _ _ _ _ ?_
  unfold tpw1
  have h := pw1_0 l b len ha hl k 0 (by omega) [] (by simp)
  rw [List.nil_append, Nat.sub_zero] at h
  rw [show min (k + 1) (prsP l len l.length 0).length * shSize [none, none] = min (k + 1) (prsP l len l.length 0).length * 2 from rfl, encP_take]
  by_cases hc : (prsP l len l.length 0).length ≤ k
  · rw [if_pos hc] at h
    have h' : Lpw1_0 (Tpw1_0a l.length (encT l) len l.length 0 [none, none] k 0 []) = _ := Lpw1_0a_of h
    simp only [h', bindO_val, Sum.elim]
    rw [Nat.min_eq_right (by omega), List.take_of_length_le (Nat.le_refl _)]
  · rw [if_neg hc] at h
    have h' : Lpw1_0 (Tpw1_0a l.length (encT l) len l.length 0 [none, none] k 0 []) = _ := Lpw1_0b_of h
    simp only [h', bindO_val, Sum.elim]
    rw [Nat.min_eq_left (by omega)]
end Gv
