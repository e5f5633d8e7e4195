/- Profiles: their errors. -/
import Derived.Test.YtggnifebabjoiaaS5
import Derived.Test.YtggnifebabjoiaaP2
namespace Gv
open Go
set_option maxRecDepth 100000
def gateE (e : Z3) : Int := both (rangeE e.1 0 50000) (endE (-10000) 10000 e.2.1 e.2.2)
theorem gateE_ok {e : Z3} (h : gateE e = 0) : 0 ≤ e.1 ∧ e.1 ≤ 50000 ∧ -10000 ≤ e.2.1 ∧ e.2.1 ≤ e.2.2 ∧ e.2.2 ≤ 10000 := by
  obtain ⟨h1, h2⟩ := both_nil h
  have := rangeE_ok h1
  have := endE_ok h2
  omega
def gtF : List Z3 → Int → Nat → Option (Int × Int)
  | [], _, _ => none
  | e :: l, b, i => if gateE e ≠ 0 then some ((i : Int), gateE e) else if e.1 ≤ b then some ((i : Int), 9) else gtF l e.1 (i + 1)
def gtsV (l : List Z3) : Int × Int := if 20 < l.length then (0, 8) else (gtF l (-1) 0).getD (0, 0)
def gtsE (l : List Z3) : Int := (gtsV l).2
def AscG : List Z3 → Int → Prop
  | [], _ => True
  | e :: l, b => b < e.1 ∧ gateE e = 0 ∧ AscG l e.1
theorem gtF_asc : ∀ {l : List Z3} {b : Int} {i : Nat}, gtF l b i = none → AscG l b
  | [], _, _, _ => trivial
  | e :: l, b, i, h => by
    simp only [gtF] at h
    split at h
    · cases h
    · rename_i h1
      split at h
      · cases h
      · rename_i h2
        exact ⟨by omega, by simpa using h1, gtF_asc h⟩
theorem gtsE_ok {l : List Z3} (h : gtsE l = 0) : l.length ≤ 20 ∧ AscG l (-1) := by
  unfold gtsE gtsV at h
  split at h
  · simp at h
  · rename_i hl
    refine ⟨by omega, ?_⟩
    cases hf : gtF l (-1) 0 with
    | none => exact gtF_asc hf
    | some p =>
      exfalso
      rw [hf] at h
      have : ∀ (l : List Z3) (b : Int) (i : Nat) (p : Int × Int), gtF l b i = some p → p.2 ≠ 0 := by
        intro l
        induction l with
        | nil => intro b i p h; simp [gtF] at h
        | cons e l ih =>
          intro b i p h
          simp only [gtF] at h
          split at h
          · rename_i hne
            simp at h; subst h; exact hne
          · split at h
            · simp at h; subst h; show (9 : Int) ≠ 0; decide
            · exact ih _ _ _ h
      exact this _ _ _ _ hf h
theorem cP_loop (l : List Z3) (hl : l.length < 1000) : ∀ i, i ≤ l.length → ∀ b : Int,
    ∃ c : Int, RcP_1180000000 (TcP_1180000000a l.length (encT l) l.length i b) = exO (XLcP_1180000000.fn (match gtF (l.drop i) b i with | some p => .inl (p.1, p.2, c) | none => .inr c)) := by
  refine up_ind _ ?_ ?_
  · intro b
    refine ⟨b, RcP_1180000000a_of _ _ _ _ _ ?_⟩
    unfold BcP_1180000000a
    rw [bif_neg (by omega), List.drop_length]
    rfl
  · intro i hi ih b
    obtain ⟨e, he, hd⟩ := get_drop hi
    obtain ⟨c, hc⟩ := ih e.1
    have go : BcP_1180000000a (Fn env) RcP_1180000000 exO LcP_1180000000 l.length (encT l) l.length i b = (if both (gateE e) (if e.1 ≤ b then 9 else 0) = 0 then RcP_1180000000 (TcP_1180000000a l.length (encT l) l.length ((i + 1 : Nat) : Int) e.1) else exO (XcP_1180000000a ((i : Int), both (gateE e) (if e.1 ≤ b then 9 else 0), e.1))) := by
      unfold BcP_1180000000a
      rw [bif_pos (by omega), bif_pos (by omega)]
      simp only [Int.toNat_natCast, encT_0, encT_1, encT_2, he, Option.map_some, intC_int, bindO_val, lenE_is, eeA_is, eIf_is, fE3_is, bif_dec, bif_ne]
      rw [w64_in (by omega)]
      have e3 : ∀ x y z : Int, first3 x y z = both (both x y) z := fun x y z => by
        unfold first3 both
        by_cases h1 : x = 0 <;> by_cases h2 : y = 0 <;> simp [h1, h2]
      simp only [e3]
      by_cases h1 : e.1 ≤ b
      · simp only [h1, if_true]; rfl
      · simp only [h1, if_false, Bool.false_eq_true]; rfl
    rw [hd]
    simp only [gtF]
    by_cases h1 : gateE e = 0
    · by_cases h2 : e.1 ≤ b
      · refine ⟨e.1, RcP_1180000000a_of _ _ _ _ _ ?_⟩
        rw [go]
        simp only [h1, h2, both, ne_eq, not_true_eq_false, if_true, if_false]
        rfl
      · refine ⟨c, RcP_1180000000a_of _ _ _ _ _ ?_⟩
        rw [go]
        simp only [h1, h2, both, ne_eq, not_true_eq_false, if_true, if_false]
        exact hc
    · refine ⟨e.1, RcP_1180000000a_of _ _ _ _ _ ?_⟩
      rw [go]
      simp only [h1, both, ne_eq, not_false_eq_true, if_true, if_false]
      rfl
theorem cP_is (l : List Z3) (hl : l.length < 1000) : FcP [.list l.length (encT l)] = some (gtsV l) := by
  refine FcP_of _ _ ?_
  unfold tcP gtsV
  by_cases hc : 20 < l.length
  · rw [bif_pos (by omega), if_pos hc]
  · rw [bif_neg (by omega), if_neg hc]
    obtain ⟨c, h⟩ := cP_loop l hl 0 (by omega) (-1)
    have h' : LcP_1180000000 (TcP_1180000000a l.length (encT l) l.length 0 (-1)) = _ := lpO_of IcP_1180000000 XIcP_1180000000 h
    rw [List.drop_zero] at h'
    rw [h']
    cases gtF l (-1) 0 <;> rfl
theorem pE_is (l : List Z3) (hl : l.length < 1000) : FpE [.list l.length (encT l)] = some (gtsE l) := by
  refine FpE_of _ _ ?_
  unfold tpE
  simp only [cP_is l hl, bindO_val]
  rfl
theorem rCP_loop (l : List Z3) (hl : l.length < 1000) : ∀ i, i ≤ l.length → ∀ b : Int, (∀ e, l[i - 1]? = some e → i = 0 ∨ b = e.1) → (i = 0 → b = -1) →
    RrCP_0 (TrCP_0a l.length (encT l) i) = exO (XLrCP_0.fn (sumE (gtF (l.drop i) b i))) := by
  refine up_ind _ ?_ ?_
  · intro b _ _
    refine RrCP_0a_of _ _ _ ?_
    unfold BrCP_0a
    rw [bif_neg (by omega), List.drop_length]
    rfl
  · intro i hi ih b hb hb0
    obtain ⟨e, he, hd⟩ := get_drop hi
    have ih := ih e.1 (fun e' h => by
      rw [Nat.add_sub_cancel, he] at h
      exact .inr (congrArg Prod.fst (Option.some.inj h))) (fun h => by omega)
    refine RrCP_0a_of _ _ _ ?_
    unfold BrCP_0a
    have c1 : (0 : Int) ≤ (i : Int) ∧ (i : Int) < l.length := by omega
    rw [bif_pos (by omega)]
    simp only [bif_dec, c1, and_self, if_true, Int.toNat_natCast, encT_0', encT_1', encT_2, he, Option.map_some, intC_int, bindO_val, rAtE_is, rWind_is, bif_ne]
    rw [hd]
    simp only [gtF, gateE, both, rangeE_if, endE_of]
    by_cases h1 : 0 ≤ e.1 ∧ e.1 ≤ 50000
    · simp only [h1, and_self, if_true]
      by_cases h2 : -10000 ≤ e.2.1 ∧ e.2.1 ≤ 10000
      · simp only [h2, and_self, if_true, true_and]
        by_cases h3 : -10000 ≤ e.2.2 ∧ e.2.2 ≤ 10000
        · simp only [h3, and_self, if_true]
          by_cases h4 : e.2.1 > e.2.2
          · simp only [h4, if_true]
            rfl
          · simp only [h4, if_false]
            by_cases h0 : i = 0
            · subst h0
              have : ¬ e.1 ≤ b := by rw [hb0 rfl]; omega
              rw [if_neg (by omega), w64_in (by omega)]
              simp only [ne_eq, not_true_eq_false, if_false, this]
              exact ih
            · have hp : i - 1 < l.length := by omega
              have hw : w64 ((i : Int) - 1) = ((i - 1 : Nat) : Int) := by rw [w64_in (by omega)]; omega
              have hg : l[i - 1]? = some l[i - 1] := List.getElem?_eq_getElem hp
              have hbe : b = l[i - 1].1 := by
                rcases hb _ hg with h | h
                · exact absurd h h0
                · exact h
              have c2 : (0 : Int) ≤ ((i - 1 : Nat) : Int) ∧ ((i - 1 : Nat) : Int) < l.length := by omega
              rw [if_pos (by omega)]
              simp only [hw, c2, and_self, if_true, Int.toNat_natCast, encT_0', hg, Option.map_some, intC_int, bindO_val]
              by_cases h5 : e.1 ≤ l[i - 1].1
              · rw [if_pos h5, hbe]
                simp only [ne_eq, not_true_eq_false, if_false, h5, if_true]
                rfl
              · rw [if_neg h5, hbe, w64_in (by omega)]
                simp only [ne_eq, not_true_eq_false, if_false, h5]
                exact ih
        · simp only [h3, and_false, if_false]
          rfl
      · have h2' : ¬ (-10000 ≤ e.2.1 ∧ e.2.1 ≤ 10000 ∧ -10000 ≤ e.2.2 ∧ e.2.2 ≤ 10000) := fun h => h2 ⟨h.1, h.2.1⟩
        simp only [h2, h2', if_false]
        rfl
    · simp only [h1, if_false]
      rfl
theorem rCP_is (l : List Z3) (hl : l.length < 1000) : FrCP [.list l.length (encT l)] = some (gtsV l) := by
  refine FrCP_of _ _ ?_
  unfold trCP gtsV
  by_cases hc : 20 < l.length
  · rw [bif_pos (by omega), if_pos hc]
  · rw [bif_neg (by omega), if_neg hc]
    have h := rCP_loop l hl 0 (by omega) (-1) (fun _ _ => .inl rfl) (fun _ => rfl)
    have h' : LrCP_0 (TrCP_0a l.length (encT l) 0) = _ := lpO_of IrCP_0 XIrCP_0 h
    rw [List.drop_zero] at h'
    rw [h']
    cases gtF l (-1) 0 <;> rfl
theorem rPE_is (l : List Z3) (hl : l.length < 1000) : FrPE [.list l.length (encT l)] = some (gtsE l) := by
  refine FrPE_of _ _ ?_
  unfold trPE
  simp only [rCP_is l hl, bindO_val]
  rfl
end Gv
