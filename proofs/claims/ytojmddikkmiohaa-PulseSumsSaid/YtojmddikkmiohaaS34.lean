/- The sum of a stream that is continued by a piece: the specification's. -/
import Derived.Test.YtojmddikkmiohaaS33
import Derived.Test.YtojmddikkmiohaaP24
namespace Gv
open Go
set_option maxRecDepth 100000

theorem gsub_is (a b : ZZ) : Fglidepathbase_GSub [.agg [.int .i64 a.1, .int .i64 a.2], .agg [.int .i64 b.1, .int .i64 b.2]] = some (subZ a b) := Fglidepathbase_GSub_of _ _ _ _ rfl

section
variable (a t p : List ZZ) (c cc : Int)
def okN (j : Nat) : Prop := gaussE 1000000000000 (nwF a t p j) = 0
theorem refAdd_step (ht : t.length ≤ 400) (hp : p.length ≤ 400) {i : Nat} (hi : i < a.length) (ha : a.length ≤ 1000) :
    ∃ z : ZZ, a[i]? = some z ∧ Fglidepathref01_Correlation [.list (t ++ p).length (encG (t ++ p)), .int .i64 i] = some (sumC ((t ++ p).zip ((t ++ p).drop i)) (0, 0)) ∧
      Fglidepathref01_Correlation [.list t.length (encG t), .int .i64 i] = some (sumC (t.zip (t.drop i)) (0, 0)) ∧
      Fglidepathbase_GAdd [.agg [.int .i64 (corrF (t ++ p) i t.length).1, .int .i64 (corrF (t ++ p) i t.length).2], .agg [.int .i64 z.1, .int .i64 z.2]] = some (nwF a t p i) := by
  obtain ⟨z, hz, _⟩ := get_drop hi
  have hl : (t ++ p).length = t.length + p.length := List.length_append
  refine ⟨z, hz, refCorr_is _ i (by omega) (by omega), refCorr_is t i (by omega) (by omega), ?_⟩
  rw [gadd_is, addZ_comm]
  unfold nwF
  rw [List.getD_eq_getElem?_getD, hz]
  rfl
theorem refAdd_good (ha : a.length ≤ 1000) (ht : t.length ≤ 400) (hp : p.length ≤ 400) : ∀ i, i ≤ a.length → 1 ≤ i → (∀ j, i ≤ j → j < a.length → okN a t p j) →
    Rglidepathref01_Added_0 (Tglidepathref01_Added_0b (t ++ p).length (encG (t ++ p)) i a.length (encG a) t.length (encG t) c i (encG (tabZ (nwF a t p) i)) cc (t ++ p).length i) =
      exO (Xglidepathref01_Added_0d ((t ++ p).length, encG (t ++ p), a.length, encG a, t.length, encG t, c, a.length, encG (nwL a t p), cc, (t ++ p).length, a.length)) := by
  refine up_ind _ ?_ ?_
  · intro _ _
    refine Rglidepathref01_Added_0b_of _ _ _ _ _ _ _ _ _ _ _ _ _ ?_
    unfold Bglidepathref01_Added_0b
    rw [bif_neg (by omega)]
    rfl
  · intro i hi ih h1 hg
    obtain ⟨z, hz, k1, k2, k3⟩ := refAdd_step a t p ht hp hi ha
    refine Rglidepathref01_Added_0b_of _ _ _ _ _ _ _ _ _ _ _ _ _ ?_
    unfold Bglidepathref01_Added_0b
    rw [bif_pos (by omega)]
    simp only [k1, k2, gsub_is, corr_new, bindO_val]
    rw [bif_pos (by omega)]
    simp only [Int.toNat_natCast, encG_0, encG_1, hz, Option.map_some, intC_int, bindO_val, k3, isGauss_is (nwF a t p i) 1000000000000 (by omega)]
    have ok := hg i (Nat.le_refl _) hi
    unfold okN at ok
    rw [bif_pos ok, bif_pos ⟨trivial, by unfold big; omega⟩, w64_in (by omega)]
    have := ih (by omega) (fun j h2 h3 => hg j (by omega) h3)
    rw [tabZ_succ, encG_app (tabZ (nwF a t p) i)] at this
    exact this
theorem refAdd_bad (ha : a.length ≤ 1000) (ht : t.length ≤ 400) (hp : p.length ≤ 400) : ∀ i, i ≤ a.length → 1 ≤ i → (∃ j, i ≤ j ∧ j < a.length ∧ ¬ okN a t p j) →
    ∃ n', Rglidepathref01_Added_0 (Tglidepathref01_Added_0b (t ++ p).length (encG (t ++ p)) i a.length (encG a) t.length (encG t) c i (encG (tabZ (nwF a t p) i)) cc (t ++ p).length i) =
      exO (Xglidepathref01_Added_0c n') := by
  refine up_ind _ ?_ ?_
  · rintro _ ⟨j, h1, h2, _⟩
    omega
  · intro i hi ih h1 hb
    obtain ⟨z, hz, k1, k2, k3⟩ := refAdd_step a t p ht hp hi ha
    by_cases ok : gaussE 1000000000000 (nwF a t p i) = 0
    · obtain ⟨n', hn⟩ := ih (by omega) (by
        obtain ⟨j, h2, h3, h4⟩ := hb
        have : j ≠ i := fun e => h4 (by subst e; exact ok)
        exact ⟨j, by omega, h3, h4⟩)
      refine ⟨n', Rglidepathref01_Added_0b_of _ _ _ _ _ _ _ _ _ _ _ _ _ ?_⟩
      unfold Bglidepathref01_Added_0b
      rw [bif_pos (by omega)]
      simp only [k1, k2, gsub_is, corr_new, bindO_val]
      rw [bif_pos (by omega)]
      simp only [Int.toNat_natCast, encG_0, encG_1, hz, Option.map_some, intC_int, bindO_val, k3, isGauss_is (nwF a t p i) 1000000000000 (by omega)]
      rw [bif_pos ok, bif_pos ⟨trivial, by unfold big; omega⟩, w64_in (by omega)]
      rw [tabZ_succ, encG_app (tabZ (nwF a t p) i)] at hn
      exact hn
    · refine ⟨i, Rglidepathref01_Added_0b_of _ _ _ _ _ _ _ _ _ _ _ _ _ ?_⟩
      unfold Bglidepathref01_Added_0b
      rw [bif_pos (by omega)]
      simp only [k1, k2, gsub_is, corr_new, bindO_val]
      rw [bif_pos (by omega)]
      simp only [Int.toNat_natCast, encG_0, encG_1, hz, Option.map_some, intC_int, bindO_val, k3, isGauss_is (nwF a t p i) 1000000000000 (by omega)]
      rw [bif_neg ok]
      rfl
theorem refAdd_start (ha : 1 ≤ a.length ∧ a.length ≤ 1000) (ht : t.length ≤ 400) (hp : p.length ≤ 400) (r : Option (Ext × S)) (z0 : ZZ) (hz0 : a[0]? = some z0) :
    (okN a t p 0 → Rglidepathref01_Added_0 (Tglidepathref01_Added_0b (t ++ p).length (encG (t ++ p)) 1 a.length (encG a) t.length (encG t) c 1 (encG (tabZ (nwF a t p) 1)) cc (t ++ p).length 1) = r → ∀ q, r = some q → Rglidepathref01_Added_0 (Tglidepathref01_Added_0a (t ++ p).length (encG (t ++ p)) a.length (encG a) t.length (encG t) c cc (t ++ p).length) = r) ∧
    (¬ okN a t p 0 → Rglidepathref01_Added_0 (Tglidepathref01_Added_0a (t ++ p).length (encG (t ++ p)) a.length (encG a) t.length (encG t) c cc (t ++ p).length) = exO (Xglidepathref01_Added_0a ())) := by
  obtain ⟨z, hz, k1, k2, k3⟩ := refAdd_step a t p ht hp (show 0 < a.length by omega) ha.2
  have e0 := encG_0 a 0
  have e1 := encG_1 a 0
  rw [hz] at e0 e1
  simp only [Nat.zero_mul, Nat.zero_add, Option.map_some] at e0 e1
  rw [show ((0 : Nat) : Int) = 0 from rfl] at k1 k2
  constructor
  · intro ok hr q hq
    rw [hq] at hr ⊢
    refine Rglidepathref01_Added_0a_of _ _ _ _ _ _ _ _ _ ?_
    unfold Bglidepathref01_Added_0a
    rw [bif_pos (by omega)]
    simp only [k1, k2, gsub_is, corr_new, bindO_val]
    rw [bif_pos (by omega)]
    simp only [e0, e1, intC_int, bindO_val, k3, isGauss_is (nwF a t p 0) 1000000000000 (by omega)]
    unfold okN at ok
    rw [bif_pos ok]
    exact hr
  · intro ok
    refine Rglidepathref01_Added_0a_of _ _ _ _ _ _ _ _ _ ?_
    unfold Bglidepathref01_Added_0a
    rw [bif_pos (by omega)]
    simp only [k1, k2, gsub_is, corr_new, bindO_val]
    rw [bif_pos (by omega)]
    simp only [e0, e1, intC_int, bindO_val, k3, isGauss_is (nwF a t p 0) 1000000000000 (by omega)]
    unfold okN at ok
    rw [bif_neg ok]
    rfl
end

theorem refAdd_ends (a t p : List ZZ) (c cc : Int) (ha : 1 ≤ a.length ∧ a.length ≤ 1000) (ht : t.length ≤ 400) (hp : p.length ≤ 400) :
    ∃ z, Lglidepathref01_Added_0 (Tglidepathref01_Added_0a (t ++ p).length (encG (t ++ p)) a.length (encG a) t.length (encG t) c cc (t ++ p).length) = some z ∧
      (((∀ j, j < a.length → okN a t p j) ∧ z = .inr (.inr (.inr ((t ++ p).length, encG (t ++ p), a.length, encG a, t.length, encG t, c, a.length, encG (nwL a t p), cc, (t ++ p).length, a.length)))) ∨
       ((∃ j, j < a.length ∧ ¬ okN a t p j) ∧ (z = .inl () ∨ ∃ n', z = .inr (.inr (.inl n'))))) := by
  obtain ⟨z0, hz0, _⟩ := get_drop (show 0 < a.length by omega)
  by_cases h0 : okN a t p 0
  · by_cases hg : ∀ j, 1 ≤ j → j < a.length → okN a t p j
    · have h1 := refAdd_good a t p c cc ha.2 ht hp 1 ha.1 (by omega) hg
      have h2 := (refAdd_start a t p c cc ha ht hp _ z0 hz0).1 h0 h1 _ rfl
      refine ⟨_, Lglidepathref01_Added_0d_of h2, .inl ⟨fun j hj => ?_, rfl⟩⟩
      by_cases e : j = 0
      · subst e; exact h0
      · exact hg j (by omega) hj
    · have hb : ∃ j, 1 ≤ j ∧ j < a.length ∧ ¬ okN a t p j := by
        apply Classical.byContradiction
        intro hn
        exact hg fun j h1 h2 => Classical.byContradiction fun h3 => hn ⟨j, h1, h2, h3⟩
      obtain ⟨n', h1⟩ := refAdd_bad a t p c cc ha.2 ht hp 1 ha.1 (by omega) hb
      have h2 := (refAdd_start a t p c cc ha ht hp _ z0 hz0).1 h0 h1 _ rfl
      obtain ⟨j, _, h4, h5⟩ := hb
      exact ⟨_, Lglidepathref01_Added_0c_of h2, .inr ⟨⟨j, h4, h5⟩, .inr ⟨n', rfl⟩⟩⟩
  · have h2 := (refAdd_start a t p c cc ha ht hp none z0 hz0).2 h0
    exact ⟨_, Lglidepathref01_Added_0a_of h2, .inr ⟨⟨0, by omega, h0⟩, .inl rfl⟩⟩
end Gv
