/- Classes: the functions that are exported, and the reference's checks. -/
import Derived.Test.YtkbahledgljaoaaGreatZS3
namespace Gv
open Go
set_option maxRecDepth 100000

def clsR (l : List Cl) (s p : Int) : Int × Int :=
  if both (chkC l).2 (sigE s p) ≠ 0 then (0, both (chkC l).2 (sigE s p)) else if idxF l s p 0 < 0 then (0, 12) else (idxF l s p 0, 0)
theorem classOfX_is (l : List Cl) (hl : l.length < 4294967296) (s p : Int) : Fcloud_ClassOf [.list l.length (encL4 l), .agg [.int .i64 s, .int .i64 p]] = some (clsR l s p) := by
  refine Fcloud_ClassOf_of _ _ _ _ ?_
  unfold tcloud_ClassOf clsR
  have h1 := classesError_is l hl
  have h2 := classOf_is l hl s p
  simp only [h1, signalError_is, firstError2_is, bindO_val, h2, bif_ne, bif_dec]
  by_cases h : both (chkC l).2 (sigE s p) = 0
  · rw [if_pos h, if_neg (c := both (chkC l).2 (sigE s p) ≠ 0) (by simp [h])]
    by_cases h3 : idxF l s p 0 < 0
    · rw [if_pos h3, if_pos h3]
    · rw [if_neg h3, if_neg h3]
  · rw [if_neg h, if_pos (c := both (chkC l).2 (sigE s p) ≠ 0) h]
def sureE (l : List Cl) (s p off : Int) : Int := first4 (chkC l).2 (sigE s p) (rangeE off 0 10) (if idxF l s p 0 < 0 then 12 else 0)
def sureR (l : List Cl) (s p off : Int) : Bool × Int := if sureE l s p off ≠ 0 then (false, sureE l s p off) else (sureV l s p off.toNat, 0)
theorem sig_ok {s p : Int} (h : sigE s p = 0) : (0 ≤ s ∧ s ≤ 10000) ∧ 0 ≤ p ∧ p ≤ 1000 := by
  unfold sigE both at h
  by_cases h1 : rangeE s 0 10000 = 0
  · rw [if_neg (by simp [h1])] at h
    exact ⟨rangeE_ok h1, rangeE_ok h⟩
  · rw [if_pos h1] at h
    exact absurd h h1
theorem sureE_ok {l : List Cl} {s p off : Int} (h : sureE l s p off = 0) : (chkC l).2 = 0 ∧ sigE s p = 0 ∧ (0 ≤ off ∧ off ≤ 10) ∧ ¬ idxF l s p 0 < 0 := by
  obtain ⟨h1, h2, h3, h4⟩ := first4_nil h
  refine ⟨h1, h2, rangeE_ok h3, fun h => ?_⟩
  rw [if_pos h] at h4
  cases h4
theorem isSureClass_is (l : List Cl) (hl : l.length ≤ 1000) (s p off : Int) : Fcloud_IsSureClass [.list l.length (encL4 l), .agg [.int .i64 s, .int .i64 p], .int .i64 off] = some (sureR l s p off) := by
  refine Fcloud_IsSureClass_of _ _ _ _ _ ?_
  unfold tcloud_IsSureClass
  have h1 := classesError_is l (by omega)
  have h2 := classOf_is l (by omega) s p
  have key : ∀ e : Int, e = sureE l s p off → (if e = 0 then (bindO (Fn env 94 (RSh.one CK.bool) [(PV.list l.length (encL4 l)), (PV.agg [(PV.int IntKind.i64 s), (PV.int IntKind.i64 p)]), (PV.int IntKind.i64 off)]) fun (y6 : (Bool)) => bif y6 then some (true, (0 : Int)) else some (false, (0 : Int))) else some (false, e)) = some (sureR l s p off) := by
    intro e he
    subst he
    unfold sureR
    by_cases h : sureE l s p off = 0
    · obtain ⟨a1, a2, a3, a4⟩ := sureE_ok h
      obtain ⟨b1, b2⟩ := sig_ok a2
      have hs := isSure_is l hl s p (by omega) (by omega) off.toNat (by omega)
      rw [show ((off.toNat : Nat) : Int) = off by omega] at hs
      rw [if_pos h, if_neg (c := sureE l s p off ≠ 0) (by simp [h])]
      simp only [hs, bindO_val]
      cases sureV l s p off.toNat <;> rfl
    · rw [if_neg h, if_pos (c := sureE l s p off ≠ 0) h]
  simp only [h1, signalError_is, rangeError_is, errorIf_is, firstError4_is, bindO_val, h2, bif_ne, bif_dec]
  by_cases h : idxF l s p 0 < 0
  · rw [if_pos h]
    refine key _ ?_
    unfold sureE
    rw [if_pos h]
    simp
  · rw [if_neg h]
    refine key _ ?_
    unfold sureE
    rw [if_neg h]
    simp

theorem copyC_is (l : List Cl) (hl : l.length ≤ 1000000) : Fglidepathref08_CopyClasses [.list l.length (encL4 l)] = some (l.length, encL4 l) := by
  refine Fglidepathref08_CopyClasses_of _ _ ?_
  unfold tglidepathref08_CopyClasses
  by_cases h : l.length = 0
  · rw [bif_pos h]
    have := List.eq_nil_of_length_eq_zero h
    subst this
    rfl
  · rw [bif_neg h, bif_pos (encL4_len l), bif_pos ⟨rfl, by unfold big; omega⟩, bif_pos rfl]
    simp
theorem refSignal_is (x y : Int) : Fglidepathref08_SignalErr [.agg [.int .i64 x, .int .i64 y]] = some (sigE x y) := by
  refine Fglidepathref08_SignalErr_of _ _ ?_
  unfold tglidepathref08_SignalErr sigE both
  simp only [within_is, bindO_val, bif_dec]
  by_cases h1 : 0 ≤ x ∧ x ≤ 10000
  · rw [if_pos h1, rangeE_in h1, if_neg (c := (0 : Int) ≠ 0) (by simp)]
    by_cases h2 : 0 ≤ y ∧ y ≤ 1000
    · rw [if_pos h2, rangeE_in h2]
    · rw [if_neg h2, rangeE_out h2]
  · rw [if_neg h1, rangeE_out h1]
    rfl
theorem clE_eq (z : Cl) : clE z = if (0 ≤ z.1 ∧ z.1 ≤ 10000) ∧ (0 ≤ z.2.1 ∧ z.2.1 ≤ 10000) ∧ (0 ≤ z.2.2.1 ∧ z.2.2.1 ≤ 1000) ∧ 0 ≤ z.2.2.2 ∧ z.2.2.2 ≤ 1000 then if z.1 > z.2.1 ∨ z.2.2.1 > z.2.2.2 then 9 else 0 else 2 := by
  unfold clE sigE
  have hb : ∀ {a b c d : Int}, (a = 0 ∨ a = 2) → (b = 0 ∨ b = 2) → (c = 0 ∨ c = 2) → (d = 0 ∨ d = 2) → ∀ e : Int, first3 (both a c) (both b d) e = if a = 0 ∧ b = 0 ∧ c = 0 ∧ d = 0 then e else 2 := by
    intro a b c d ha hb hc hd e
    rcases ha with rfl | rfl <;> rcases hb with rfl | rfl <;> rcases hc with rfl | rfl <;> rcases hd with rfl | rfl <;> simp [first3, both]
  have hr : ∀ x a b : Int, rangeE x a b = 0 ∨ rangeE x a b = 2 := fun x a b => by
    unfold rangeE
    split
    · exact .inr rfl
    · exact .inl rfl
  have hi : ∀ x a b : Int, rangeE x a b = 0 ↔ a ≤ x ∧ x ≤ b := fun x a b => ⟨fun h => rangeE_ok h, fun h => rangeE_in h⟩
  rw [hb (hr _ _ _) (hr _ _ _) (hr _ _ _) (hr _ _ _)]
  simp only [hi]
theorem refClasses_loop (l : List Cl) (hl : l.length < 4294967296) : ∀ i, i ≤ l.length →
    Rglidepathref08_CheckClasses_0 (Tglidepathref08_CheckClasses_0a l.length (encL4 l) i) = (match findE clE (l.drop i) i with | some q => exO (Xglidepathref08_CheckClasses_0a q) | none => exO (Xglidepathref08_CheckClasses_0b ())) := by
  refine up_ind _ ?_ ?_
  · rw [List.drop_length]
    show _ = exO (Xglidepathref08_CheckClasses_0b ())
    refine Rglidepathref08_CheckClasses_0a_of _ _ _ ?_
    unfold Bglidepathref08_CheckClasses_0a
    rw [bif_neg (by omega)]
    rfl
  · intro i hi ih
    obtain ⟨z, hz, hd⟩ := get_drop hi
    rw [hd]
    have wk : w64 ((i : Int) + 1) = ((i + 1 : Nat) : Int) := by rw [w64_in (by omega)]; omega
    have hb1 : (decide (((0 : Int) ≤ (i : Int)) ∧ ((i : Int) < (l.length : Int)))) = true := decide_eq_true ⟨by omega, by omega⟩
    have hbody : Bglidepathref08_CheckClasses_0a (Fn env) Rglidepathref08_CheckClasses_0 exO Lglidepathref08_CheckClasses_0 l.length (encL4 l) i =
        (if clE z = 0 then Rglidepathref08_CheckClasses_0 (Tglidepathref08_CheckClasses_0a l.length (encL4 l) (i + 1 : Nat)) else exO (Xglidepathref08_CheckClasses_0a ((i : Int), clE z))) := by
      unfold Bglidepathref08_CheckClasses_0a
      rw [bif_pos (by omega)]
      simp only [hb1, cond_true, Int.toNat_natCast, Nat.add_zero, getC0 hz, getC1 hz, getC2 hz, getC3 hz, intC_int, bindO_val, within_is, Nat.add_assoc, Nat.reduceAdd, wk, bif_dec]
      rw [clE_eq]
      by_cases h1 : 0 ≤ z.1 ∧ z.1 ≤ 10000
      · rw [if_pos h1]
        by_cases h2 : 0 ≤ z.2.1 ∧ z.2.1 ≤ 10000
        · rw [if_pos h2]
          by_cases h3 : 0 ≤ z.2.2.1 ∧ z.2.2.1 ≤ 1000
          · rw [if_pos h3]
            by_cases h4 : 0 ≤ z.2.2.2 ∧ z.2.2.2 ≤ 1000
            · rw [if_pos h4]
              simp only [h1, h2, h3, h4, and_self, if_true]
              by_cases h5 : z.1 > z.2.1
              · simp only [h5, true_or, if_true]
                rw [if_neg (by decide)]
              · by_cases h6 : z.2.2.1 > z.2.2.2
                · simp only [h5, h6, or_true, if_true, if_false]
                  rw [if_neg (by decide)]
                · simp only [h5, h6, or_self, if_false, if_true]
            · rw [if_neg h4]
              simp only [h4, and_false, if_false]
              rw [if_neg (by decide)]
          · rw [if_neg h3]
            simp only [h3, false_and, and_false, if_false]
            rw [if_neg (by decide)]
        · rw [if_neg h2]
          simp only [h2, false_and, and_false, if_false]
          rw [if_neg (by decide)]
      · rw [if_neg h1]
        simp only [h1, false_and, if_false]
        rw [if_neg (by decide)]
    unfold findE
    by_cases he : clE z = 0
    · rw [if_pos he] at hbody
      rw [if_neg (c := clE z ≠ 0) (by simp [he])]
      cases hf : findE clE (l.drop (i + 1)) (i + 1) with
      | none => rw [hf] at ih; exact Rglidepathref08_CheckClasses_0a_of _ _ _ (hbody.trans ih)
      | some q => rw [hf] at ih; exact Rglidepathref08_CheckClasses_0a_of _ _ _ (hbody.trans ih)
    · rw [if_neg he] at hbody
      rw [if_pos (c := clE z ≠ 0) he]
      exact Rglidepathref08_CheckClasses_0a_of _ _ _ hbody
theorem refCheck_is (l : List Cl) (hl : l.length < 4294967296) : Fglidepathref08_CheckClasses [.list l.length (encL4 l)] = some (chkC l) := by
  refine Fglidepathref08_CheckClasses_of _ _ ?_
  unfold tglidepathref08_CheckClasses chkC
  simp only [bif_eq, bif_dec]
  by_cases h1 : l.length = 0
  · rw [if_pos (by omega), if_pos h1]
  · rw [if_neg (by omega), if_neg h1]
    by_cases h2 : 10 < l.length
    · rw [if_pos (by omega), if_pos h2]
    · rw [if_neg (by omega), if_neg h2]
      have hq := refClasses_loop l hl 0 (by omega)
      rw [List.drop_zero] at hq
      cases hf : findE clE l 0 with
      | none =>
        rw [hf] at hq
        have := Lglidepathref08_CheckClasses_0b_of (y := ()) hq
        have this : Lglidepathref08_CheckClasses_0 (Tglidepathref08_CheckClasses_0a l.length (encL4 l) 0) = _ := this
        simp only [this, bindO_val, Sum.elim_inr]
        rfl
      | some q =>
        rw [hf] at hq
        have := Lglidepathref08_CheckClasses_0a_of (y := q) hq
        have this : Lglidepathref08_CheckClasses_0 (Tglidepathref08_CheckClasses_0a l.length (encL4 l) 0) = _ := this
        simp only [this, bindO_val, Sum.elim_inl]
        rfl
end Gv
