/- Events' errors and the state at a tick, by the specification; copies and comparisons. -/
import Derived.Test.YtggnifebabjoiaaS4
import Derived.Test.YtggnifebabjoiaaP5b
namespace Gv
open Go
set_option maxRecDepth 100000
theorem rCE_loop (l : List Z3) (hl : l.length < 1000) : ∀ i, i ≤ l.length → ∀ b : Int, (∀ e, i = 0 ∨ l[i - 1]? = some e → i = 0 ∨ b = e.1) → (i = 0 → b = -1) →
    RrCE_0 (TrCE_0a l.length (encT l) i) = exO (XLrCE_0.fn (sumE (evF (l.drop i) b i))) := by
  refine up_ind _ ?_ ?_
  · intro b _ _
    refine RrCE_0a_of _ _ _ ?_
    unfold BrCE_0a
    rw [bif_neg (by omega), List.drop_length]
    rfl
  · intro i hi ih b hb hb0
    obtain ⟨e, he, hd⟩ := get_drop hi
    have ih := ih e.1 (fun e' h => by
      rcases h with h | h
      · omega
      · rw [Nat.add_sub_cancel, he] at h
        exact .inr (congrArg Prod.fst (Option.some.inj h))) (fun h => by omega)
    refine RrCE_0a_of _ _ _ ?_
    unfold BrCE_0a
    rw [bif_pos (by omega), bif_pos (by omega)]
    have hev : FrEvE [.agg [.int .i64 e.1, .int .i64 e.2.1, .int .i64 e.2.2]] = some (eventE e) := rEvE_is e
    simp only [Int.toNat_natCast, encT_0, encT_1, encT_2, encT_0', he, Option.map_some, intC_int, bindO_val, hev, bif_ne]
    rw [hd]
    simp only [evF]
    by_cases h1 : eventE e = 0
    · rw [if_pos h1]
      simp only [h1, ne_eq, not_true_eq_false, if_false]
      by_cases h0 : i = 0
      · subst h0
        rw [bif_neg (by omega), w64_in (by omega)]
        have : ¬ e.1 ≤ b := by rw [hb0 rfl]; have := (eventE_ok h1).1; omega
        rw [if_neg this]
        exact ih
      · have hp : i - 1 < l.length := by omega
        have hw : w64 ((i : Int) - 1) = ((i - 1 : Nat) : Int) := by rw [w64_in (by omega)]; omega
        have hg : l[i - 1]? = some l[i - 1] := List.getElem?_eq_getElem hp
        have hbe : b = l[i - 1].1 := by
          rcases hb _ (.inr hg) with h | h
          · exact absurd h h0
          · exact h
        rw [bif_pos (by omega), bif_pos (by omega), hw, bif_pos (by omega)]
        simp only [Int.toNat_natCast, encT_0', hg, Option.map_some, intC_int, bindO_val]
        by_cases h2 : e.1 ≤ l[i - 1].1
        · rw [bif_pos h2, if_pos (by rw [hbe]; exact h2)]
          rfl
        · rw [bif_neg h2, if_neg (by rw [hbe]; exact h2), w64_in (by omega)]
          exact ih
    · rw [if_neg h1]
      simp only [h1, ne_eq, not_false_eq_true, if_true]
      rfl
theorem rCE_is (l : List Z3) (hl : l.length < 1000) : FrCE [.list l.length (encT l)] = some (evsV l) := by
  refine FrCE_of _ _ ?_
  unfold trCE evsV
  by_cases hc : 40 < l.length
  · rw [bif_pos (by omega), if_pos hc]
  · rw [bif_neg (by omega), if_neg hc]
    have h := rCE_loop l hl 0 (by omega) (-1) (fun _ _ => .inl rfl) (fun _ => rfl)
    have h' : LrCE_0 (TrCE_0a l.length (encT l) 0) = _ := lpO_of IrCE_0 XIrCE_0 h
    rw [List.drop_zero] at h'
    rw [h']
    cases evF l (-1) 0 <;> rfl
theorem rCopE_is (l : List Z3) (hl : l.length < 1000) : FrCopE [.list l.length (encT l)] = some (l.length, encT l) := by
  refine FrCopE_of _ _ ?_
  unfold trCopE
  by_cases h : l.length = 0
  · have : l = [] := List.length_eq_zero_iff.1 h
    subst this
    rfl
  · rw [bif_neg h, bif_pos (encT_len l), bif_pos ⟨rfl, by unfold big; omega⟩, bif_pos rfl]
    simp
theorem fewE_is (l : List Z3) : FfewE [.list l.length (encT l)] = some (decide (l.length ≤ 42)) := by
  refine FfewE_of _ _ ?_
  unfold tfewE
  by_cases h : l.length ≤ 42
  · rw [bif_pos (by omega), decide_eq_true h]
  · rw [bif_neg (by omega), decide_eq_false h]
theorem rSamA_loop (l : List Z3) (hl : l.length < 1000000) : ∀ i, i ≤ l.length → RrSamA_0 (TrSamA_0a l.length (encT l) l.length (encT l) i) = exO (XLrSamA_0.fn (.inr ())) := by
  refine up_ind _ ?_ ?_
  · refine RrSamA_0a_of _ _ _ _ _ ?_
    unfold BrSamA_0a
    rw [bif_neg (by omega)]
    rfl
  · intro i hi ih
    obtain ⟨e, he, _⟩ := get_drop hi
    refine RrSamA_0a_of _ _ _ _ _ ?_
    unfold BrSamA_0a
    rw [bif_pos (by omega), bif_pos (by omega)]
    simp only [Int.toNat_natCast, encT_0, encT_1, encT_2, he, Option.map_some, intC_int, bindO_val]
    rw [bif_pos (by omega), w64_in (by omega)]
    simp only [beq_self_eq_true, Bool.and_self, Bool.not_true, cond_false]
    exact ih
theorem rSamA_is (l : List Z3) (hl : l.length < 1000000) : FrSamA [.list l.length (encT l), .list l.length (encT l)] = some true := by
  refine FrSamA_of _ _ _ _ ?_
  unfold trSamA
  have h' : LrSamA_0 (TrSamA_0a l.length (encT l) l.length (encT l) 0) = _ := lpO_of IrSamA_0 XIrSamA_0 (rSamA_loop l hl 0 (by omega))
  rw [h']
  simp
def Nm (k : Int) (s : St5) : Prop := 0 ≤ s.2.1 ∧ s.2.1 ≤ k
theorem hear2_nm (r : R4) (s : St5) (e : Z3) : (hear2 r (passV r s e.1) e).2.1 = s.2.1 := by
  unfold hear2 listenV passV
  repeat' split
  all_goals rfl
theorem hearV_nm {r : R4} {s : St5} {e : Z3} {k : Int} (h : Nm k s) (hk : k < 1000000) : Nm (k + 1) (hearV r s e) := by
  have h2 := hear2_nm r s e
  unfold Nm at *
  unfold hearV hear3
  split
  · rw [h2, w64_in (by omega)]
    dsimp only
    omega
  · simp only [h2]
    omega
theorem hearV_at (r : R4) (s : St5) (e : Z3) : (hearV r s e).2.2.2.1 = e.1 := by
  unfold hearV hear3
  split <;> rfl
def Asc : List Z3 → Int → Prop
  | [], _ => True
  | e :: l, b => b < e.1 ∧ eventE e = 0 ∧ Asc l e.1
theorem evF_asc : ∀ {l : List Z3} {b : Int} {i : Nat}, evF l b i = none → Asc l b
  | [], _, _, _ => trivial
  | e :: l, b, i, h => by
    simp only [evF] at h
    split at h
    · cases h
    · rename_i h1
      split at h
      · cases h
      · rename_i h2
        exact ⟨by omega, by simpa using h1, evF_asc h⟩
theorem evsE_ok {l : List Z3} (h : evsE l = 0) : l.length ≤ 40 ∧ Asc l (-1) := by
  unfold evsE evsV at h
  split at h
  · simp at h
  · rename_i hl
    refine ⟨by omega, ?_⟩
    cases hf : evF l (-1) 0 with
    | none => exact evF_asc hf
    | some p =>
      exfalso
      rw [hf] at h
      have : ∀ (l : List Z3) (b : Int) (i : Nat) (p : Int × Int), evF l b i = some p → p.2 ≠ 0 := by
        intro l
        induction l with
        | nil => intro b i p h; simp [evF] at h
        | cons e l ih =>
          intro b i p h
          simp only [evF] at h
          split at h
          · rename_i hne
            simp at h; subst h; exact hne
          · split at h
            · simp at h; subst h; show (9 : Int) ≠ 0; decide
            · exact ih _ _ _ h
      exact this _ _ _ _ hf h
theorem rNext_hear {r : R4} {s : St5} {e : Z3} (h1 : s.2.2.2.1 < e.1) (h2 : s.2.1 < 62500) : rNextV r s e = flat6 (hearV r s e) 0 := by
  unfold rNextV
  rw [if_neg (by omega), if_neg (by rw [hear2_nm]; omega)]
theorem rNx' (r : R4) (b : Bool) (n si h q x y z : Int) : FrNext [encR4 r, .agg [.bool b, .int .i64 n, .int .i64 si, .int .i64 h, .int .i64 q], .agg [.int .i64 x, .int .i64 y, .int .i64 z]] = some (rNextV r (b, n, si, h, q) (x, y, z)) := rNext_is r (b, n, si, h, q) (x, y, z)
theorem rSAt_loop (r : R4) (t : Int) (l : List Z3) (hl : l.length < 1000) : ∀ i, i ≤ l.length → ∀ s : St5, Asc (l.drop i) s.2.2.2.1 → Nm i s →
    RrSAt_0 (TrSAt_0a l.length (encT l) t i r.1 r.2.1 r.2.2.1 r.2.2.2 s.1 s.2.1 s.2.2.1 s.2.2.2.1 s.2.2.2.2) =
    exO (XrSAt_0a (t, r.1, r.2.1, r.2.2.1, r.2.2.2, (l.drop i).foldl (stepV r t) s)) := by
  refine up_ind _ ?_ ?_
  · intro s _ _
    refine RrSAt_0a_of _ _ _ _ _ _ _ _ _ _ _ _ _ ?_
    unfold BrSAt_0a
    rw [bif_neg (by omega), List.drop_length]
    rfl
  · intro i hi ih s ha hn
    obtain ⟨e, he, hd⟩ := get_drop hi
    rw [hd] at ha ⊢
    obtain ⟨a1, a2, a3⟩ := ha
    have hx := rNext_hear (r := r) a1 (by unfold Nm at hn; omega)
    have hn2 : Nm ((i + 1 : Nat) : Int) (hearV r s e) := by
      have := hearV_nm (r := r) (e := e) hn (by omega)
      unfold Nm at *
      omega
    have ih1 := ih (hearV r s e) (by rw [hearV_at]; exact a3) hn2
    refine RrSAt_0a_of _ _ _ _ _ _ _ _ _ _ _ _ _ ?_
    unfold BrSAt_0a
    rw [bif_pos (by omega), bif_pos (by omega)]
    simp only [Int.toNat_natCast, encT_0, encT_1, encT_2, encT_0', he, Option.map_some, intC_int, bindO_val]
    rw [List.foldl_cons]
    by_cases ht : e.1 ≤ t
    · have es : stepV r t s e = hearV r s e := if_pos ht
      rw [es, bif_pos ht, w64_in (by omega)]
      have hnx := rNx' r s.1 s.2.1 s.2.2.1 s.2.2.2.1 s.2.2.2.2 e.1 e.2.1 e.2.2
      have hx' : rNextV r (s.1, s.2.1, s.2.2.1, s.2.2.2.1, s.2.2.2.2) (e.1, e.2.1, e.2.2) = flat6 (hearV r s e) 0 := hx
      rw [hx'] at hnx
      simp only [encR4] at hnx
      cases hb : s.1 with
      | true =>
        rw [hb] at hnx
        simp only [cond_true, hnx, bindO_val]
        rw [bif_pos (by omega)]
        exact ih1
      | false =>
        rw [hb] at hnx
        simp only [cond_false, hnx, bindO_val]
        rw [bif_pos (by omega)]
        exact ih1
    · have es : stepV r t s e = s := if_neg ht
      rw [es, bif_neg ht, w64_in (by omega)]
      refine ih s ?_ ?_
      · have : ∀ (l : List Z3) (b c : Int), c ≤ b → Asc l b → Asc l c := by
          intro l
          cases l with
          | nil => intro _ _ _ _; trivial
          | cons e l => intro b c hc h; exact ⟨by have := h.1; omega, h.2⟩
        exact this _ _ _ (by omega) a3
      · unfold Nm at *; omega
theorem rSAt_is (r : R4) (l : List Z3) (t : Int) (hl : l.length < 1000) (ha : Asc l (-1)) : FrSAt [encR4 r, .list l.length (encT l), .int .i64 t] = some (atV r l t) := by
  refine FrSAt_of _ _ _ _ _ _ _ ?_
  have hst := LrSAt_0a_of (rSAt_loop r t l hl 0 (by omega) st0 ha ⟨Int.le_refl 0, Int.le_refl 0⟩)
  rw [List.drop_zero] at hst
  have hst' : LrSAt_0 (TrSAt_0a l.length (encT l) t 0 r.1 r.2.1 r.2.2.1 r.2.2.2 false 0 0 (-1) (-1)) = _ := hst
  unfold trSAt
  simp only [rFst_is, bindO_val, hst']
  have hx := exp' r
  obtain ⟨ra, cl, ho, ti⟩ := r
  simp only [encR4] at hx
  unfold atV
  generalize l.foldl (stepV (ra, cl, ho, ti) t) st0 = s
  obtain ⟨b, n, si, h, q⟩ := s
  cases b <;> simp only [cond_true, cond_false, hx, bindO_val]
end Gv
