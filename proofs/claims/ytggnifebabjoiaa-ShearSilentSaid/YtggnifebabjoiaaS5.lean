/- Events' errors and the state at a tick, by the specification; copies and comparisons. -/
import Derived.Test.YtggnifebabjoiaaS4
import Derived.Test.YtggnifebabjoiaaP5b
namespace Gv
open Go
set_option maxRecDepth 100000
theorem rCE_loop (l : List Z3) (hl : l.length < 1000) : ∀ i, i ≤ l.length → ∀ b : Int, (∀ e, i = 0 ∨ l[i - 1]? = some e → i = 0 ∨ b = e.1) → (i = 0 → b = -1) →
    RrCE_0 (TrCE_0a l.length (encT l) i) = exO (XLrCE_0.fn (sumE (evF (l.drop i) b i))) := by
  refine up_ind _ ?_ ?_
  · intro b _ _
    refine RrCE_0a_of _ _ _ ?_
    unfold BrCE_0a
    rw [bif_neg (by omega), List.drop_length]
    rfl
  · intro i hi ih b hb hb0
    obtain ⟨e, he, hd⟩ := get_drop hi
    have ih := ih e.1 (fun e' h => by
      rcases h with h | h
      · omega
      · rw [Nat.add_sub_cancel, he] at h
        exact .inr (congrArg Prod.fst (Option.some.inj h))) (fun h => by omega)
    refine RrCE_0a_of _ _ _ ?_
    unfold BrCE_0a
    rw [bif_pos (by omega), bif_pos (by omega)]
    have hev : FrEvE [.agg [.int .i64 e.1, .int .i64 e.2.1, .int .i64 e.2.2]] = some (eventE e) := rEvE_is e
    simp only [Int.toNat_natCast, encT_0, encT_1, encT_2, encT_0', he, Option.map_some, intC_int, bindO_val, hev, bif_ne]
    rw [hd]
    simp only [evF]
    by_cases h1 : eventE e = 0
    · rw [if_pos h1]
      simp only [h1, ne_eq, not_true_eq_false, if_false]
      by_cases h0 : i = 0
      · subst h0
        rw [bif_neg (by omega), w64_in (by omega)]
        have : ¬ e.1 ≤ b := by rw [hb0 rfl]; have := (eventE_ok h1).1; omega
        rw [if_neg this]
        exact ih
      · have hp : i - 1 < l.length := by omega
        have hw : w64 ((i : Int) - 1) = ((i - 1 : Nat) : Int) := by rw [w64_in (by omega)]; omega
        have hg : l[i - 1]? = some l[i - 1] := List.getElem?_eq_getElem hp
        have hbe : b = l[i - 1].1 := by
          rcases hb _ (.inr hg) with h | h
          · exact absurd h h0
          · exact h
        rw [bif_pos (by omega), bif_pos (by omega), hw, bif_pos (by omega)]
        simp only [Int.toNat_natCast, encT_0', hg, Option.map_some, intC_int, bindO_val]
        by_cases h2 : e.1 ≤ l[i - 1].1
        · rw [bif_pos h2, if_pos (by rw [hbe]; exact h2)]
          rfl
        · rw [bif_neg h2, if_neg (by rw [hbe]; exact h2), w64_in (by omega)]
          exact ih
    · rw [if_neg h1]
      simp only [h1, ne_eq, not_false_eq_true, if_true]
      rfl
theorem rCE_is (l : List Z3) (hl : l.length < 1000) : FrCE [.list l.length (encT l)] = some (evsV l) := by
  refine FrCE_of _ _ ?_
  unfold trCE evsV
  by_cases hc : 40 < l.length
  · rw [bif_pos (by omega), if_pos hc]
  · rw [bif_neg (by omega), if_neg hc]
    have h := rCE_loop l hl 0 (by omega) (-1) (fun _ _ => .inl rfl) (fun _ => rfl)
    have h' : LrCE_0 (TrCE_0a l.length (encT l) 0) = _ := lpO_of IrCE_0 XIrCE_0 h
    rw [List.drop_zero] at h'
    rw [h']
    cases evF l (-1) 0 <;> rfl
theorem rEsE_is (l : List Z3) (hl : l.length < 1000) : FrEsE [.list l.length (encT l)] = some (evsE l) := by
  refine FrEsE_of _ _ ?_
  unfold trEsE
  simp only [rCE_is l hl, bindO_val]
  rfl
theorem fewE_is (l : List Z3) : FfewE [.list l.length (encT l)] = some (decide (l.length ≤ 42)) := by
  refine FfewE_of _ _ ?_
  unfold tfewE
  by_cases h : l.length ≤ 42
  · rw [bif_pos (by omega), decide_eq_true h]
  · rw [bif_neg (by omega), decide_eq_false h]
theorem hearV_at (r : R4) (s : St5) (e : Z3) : (hearV r s e).2.2.2.1 = e.1 := by
  unfold hearV hear3
  split <;> rfl
def Asc : List Z3 → Int → Prop
  | [], _ => True
  | e :: l, b => b < e.1 ∧ eventE e = 0 ∧ Asc l e.1
theorem evF_asc : ∀ {l : List Z3} {b : Int} {i : Nat}, evF l b i = none → Asc l b
  | [], _, _, _ => trivial
  | e :: l, b, i, h => by
    simp only [evF] at h
    split at h
    · cases h
    · rename_i h1
      split at h
      · cases h
      · rename_i h2
        exact ⟨by omega, by simpa using h1, evF_asc h⟩
theorem evsE_ok {l : List Z3} (h : evsE l = 0) : l.length ≤ 40 ∧ Asc l (-1) := by
  unfold evsE evsV at h
  split at h
  · simp at h
  · rename_i hl
    refine ⟨by omega, ?_⟩
    cases hf : evF l (-1) 0 with
    | none => exact evF_asc hf
    | some p =>
      exfalso
      rw [hf] at h
      have : ∀ (l : List Z3) (b : Int) (i : Nat) (p : Int × Int), evF l b i = some p → p.2 ≠ 0 := by
        intro l
        induction l with
        | nil => intro b i p h; simp [evF] at h
        | cons e l ih =>
          intro b i p h
          simp only [evF] at h
          split at h
          · rename_i hne
            simp at h; subst h; exact hne
          · split at h
            · simp at h; subst h; show (9 : Int) ≠ 0; decide
            · exact ih _ _ _ h
      exact this _ _ _ _ hf h
end Gv
