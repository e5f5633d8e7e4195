/- Mixing and correlations. -/
import Derived.Test.YtojmddikkmiohaaS1
namespace Gv
open Go
set_option maxRecDepth 100000

theorem trn_small {m : Int} {z : ZZ} (q : Int) (h : Small m z) : Small m (trn z q) := by
  obtain ⟨h1, h2⟩ := h
  unfold trn Small
  split
  · exact ⟨by simpa using h2, by simp only; omega⟩
  · split
    · exact ⟨by simp only; omega, by simp only; omega⟩
    · split
      · exact ⟨by simp only; omega, by simpa using h1⟩
      · exact ⟨h1, h2⟩

theorem over_G (pre r : List ZZ) (a b : ZZ) : over (encG (pre ++ a :: r)) (0 + pre.length * 2) [.int .i64 b.1, .int .i64 b.2] = encG (pre ++ b :: r) := by
  unfold over
  have e : encG (pre ++ a :: r) = encG pre ++ (enc2 a ++ encG r) := by simp [encG]
  have h1 : (encG pre ++ (enc2 a ++ encG r)).take (pre.length * 2) = encG pre := by
    rw [List.take_append_of_le_length (by simp), List.take_of_length_le (by simp)]
  have h2 : (encG pre ++ (enc2 a ++ encG r)).drop (pre.length * 2 + 2) = encG r := by
    rw [← List.append_assoc]
    exact List.drop_left' (by simp [enc2_len])
  rw [e, Nat.zero_add, h1]
  show encG pre ++ (enc2 b ++ (encG pre ++ (enc2 a ++ encG r)).drop (pre.length * 2 + 2)) = _
  rw [h2]
  simp [encG]

def mixFrom (q : Int) : List ZZ → Nat → List ZZ
  | [], _ => []
  | z :: l, j => trn z (j * q) :: mixFrom q l (j + 1)

theorem mixFrom_len (q : Int) : ∀ (l : List ZZ) (j : Nat), (mixFrom q l j).length = l.length
  | [], _ => rfl
  | z :: l, j => by simp [mixFrom, mixFrom_len q l (j + 1)]

theorem rep_G : ∀ (n : Nat), rep [PV.int .i64 0, PV.int .i64 0] n = encG (List.replicate n (0, 0))
  | 0 => rfl
  | n + 1 => by simp only [rep, rep_G n, List.replicate_succ]; rfl

/-! The specification's -/

def stepT (z : ZZ) : ZZ := (z.2, -z.1)
def turnT : Nat → ZZ → ZZ
  | 0, z => z
  | n + 1, z => turnT n (stepT z)

theorem refTurned_loop (times : Int) (ht : 0 ≤ times ∧ times ≤ 4611686018427387904) (n : Nat) (hn : (n : Int) = times % 4) : ∀ i, i ≤ n → ∀ z : ZZ, Small 1000000000000 z →
    Rglidepathref01_Turned_0 (Tglidepathref01_Turned_0a times i z.1 z.2) = exO (Xglidepathref01_Turned_0a (turnT (n - i) z)) := by
  refine up_ind _ ?_ ?_
  · intro z hz
    refine Rglidepathref01_Turned_0a_of _ _ _ _ ?_
    unfold Bglidepathref01_Turned_0a
    simp only [mod_is times 4 (by omega) (by omega), bindO_val]
    rw [bif_neg (by omega), Nat.sub_self]
    rfl
  · intro i hi ih z hz
    refine Rglidepathref01_Turned_0a_of _ _ _ _ ?_
    unfold Bglidepathref01_Turned_0a
    obtain ⟨h1, h2⟩ := hz
    simp only [mod_is times 4 (by omega) (by omega), bindO_val]
    rw [bif_pos (by omega), w64_in (by omega), w64_in (by omega), Int.zero_sub]
    have := ih (stepT z) ⟨by simpa [stepT] using h2, by simp only [stepT]; omega⟩
    rw [show n - i = (n - (i + 1)) + 1 by omega]
    exact this

theorem turnT_trn (z : ZZ) (q : Int) (n : Nat) (hn : (n : Int) = q % 4) : turnT n z = trn z q := by
  have h4 : n = 0 ∨ n = 1 ∨ n = 2 ∨ n = 3 := by omega
  unfold trn
  rcases h4 with h | h | h | h <;> subst h
  · rw [if_neg (by omega), if_neg (by omega), if_neg (by omega)]; rfl
  · rw [if_pos (by omega)]; rfl
  · rw [if_neg (by omega), if_pos (by omega)]; rfl
  · rw [if_neg (by omega), if_neg (by omega), if_pos (by omega)]
    simp [turnT, stepT]

theorem refTurned_is (z : ZZ) (q : Int) (hq : 0 ≤ q ∧ q ≤ 4611686018427387904) (hz : Small 1000000000000 z) : Fglidepathref01_Turned [.agg [.int .i64 z.1, .int .i64 z.2], .int .i64 q] = some (trn z q) := by
  refine Fglidepathref01_Turned_of _ _ _ ?_
  unfold tglidepathref01_Turned
  have hn : (((q % 4).toNat : Nat) : Int) = q % 4 := by omega
  have := Lglidepathref01_Turned_0a_of (refTurned_loop q hq _ hn 0 (by omega) z hz)
  have this : Lglidepathref01_Turned_0 (Tglidepathref01_Turned_0a q 0 z.1 z.2) = some (turnT ((q % 4).toNat - 0) z) := this
  rw [this, Nat.sub_zero, turnT_trn z q _ hn]
  rfl

def accG (l : List ZZ) (n : Nat) : (Unit) ⊕ (Nat × List PV × Nat) := if n = 0 then .inl () else .inr (n, encG l, n)

/-! Lists that are the same -/

theorem gausses_loop (a : List ZZ) (hl : a.length < 4294967296) : ∀ i, i ≤ a.length →
    Rglidepathbase_Gausses_0 (Tglidepathbase_Gausses_0a a.length (encG a) a.length (encG a) i) = exO (Xglidepathbase_Gausses_0b ()) := by
  refine up_ind _ ?_ ?_
  · refine Rglidepathbase_Gausses_0a_of _ _ _ _ _ ?_
    unfold Bglidepathbase_Gausses_0a
    rw [bif_neg (by omega)]
    rfl
  · intro i hi ih
    refine Rglidepathbase_Gausses_0a_of _ _ _ _ _ ?_
    unfold Bglidepathbase_Gausses_0a
    obtain ⟨x, hx, hd⟩ := get_drop hi
    rw [bif_pos (by omega), bif_pos (by omega)]
    simp only [Int.toNat_natCast, encG_0, encG_1, hx, Option.map_some, intC_int, bindO_val]
    rw [bif_pos (by omega), w64_in (by omega)]
    simp only [beq_self_eq_true, Bool.and_self, Bool.not_true, cond_false]
    exact ih

theorem gausses_same (a : List ZZ) (hl : a.length < 4294967296) : Fglidepathbase_Gausses [.list a.length (encG a), .list a.length (encG a)] = some true := by
  refine Fglidepathbase_Gausses_of _ _ _ _ ?_
  unfold tglidepathbase_Gausses
  have := Lglidepathbase_Gausses_0b_of (gausses_loop a hl 0 (by omega))
  have this : Lglidepathbase_Gausses_0 (Tglidepathbase_Gausses_0a a.length (encG a) a.length (encG a) 0) = _ := this
  rw [this]
  simp

/-! Correlations -/

def addZ (a b : ZZ) : ZZ := (w64 (a.1 + b.1), w64 (a.2 + b.2))
def cmul (a b : ZZ) : ZZ := (w64 (a.1 * b.1 + a.2 * b.2), w64 (a.1 * b.2 - a.2 * b.1))
def sumC (ps : List (ZZ × ZZ)) (acc : ZZ) : ZZ := ps.foldl (fun acc p => addZ acc (cmul p.1 p.2)) acc

theorem plus_is (a b : ZZ) : Fpulse_plus [.agg [.int .i64 a.1, .int .i64 a.2], .agg [.int .i64 b.1, .int .i64 b.2]] = some (addZ a b) := Fpulse_plus_of _ _ _ _ rfl
theorem conj_is (a b : ZZ) : Fpulse_conjugateTimes [.agg [.int .i64 a.1, .int .i64 a.2], .agg [.int .i64 b.1, .int .i64 b.2]] = some (cmul a b) := by
  refine Fpulse_conjugateTimes_of _ _ _ _ ?_
  unfold tpulse_conjugateTimes cmul
  simp only [w64_add_l, w64_add_r, w64_sub_l, w64_sub_r]

theorem zip_get (l : List ZZ) (lag j : Nat) (h : j < (l.zip (l.drop lag)).length) : ∃ a b, l[j]? = some a ∧ l[j + lag]? = some b ∧ (l.zip (l.drop lag)).drop j = (a, b) :: (l.zip (l.drop lag)).drop (j + 1) := by
  obtain ⟨p, h1, h2⟩ := get_drop h
  refine ⟨p.1, p.2, ?_, ?_, h2⟩
  · have := List.getElem?_zip_eq_some.1 (show (l.zip (l.drop lag))[j]? = some (p.1, p.2) from h1)
    exact this.1
  · have := List.getElem?_zip_eq_some.1 (show (l.zip (l.drop lag))[j]? = some (p.1, p.2) from h1)
    rw [Nat.add_comm, ← List.getElem?_drop]
    exact this.2

theorem zip_len (l : List ZZ) (lag : Nat) : (l.zip (l.drop lag)).length = l.length - lag := by simp

theorem corr_loop (l : List ZZ) (lag : Nat) (hl : l.length ≤ 1000) (hg : lag ≤ 1000) : ∀ j, j ≤ (l.zip (l.drop lag)).length → ∀ acc : ZZ,
    Rpulse_correlation_0 (Tpulse_correlation_0a l.length (encG l) lag ((lag + j : Nat) : Int) acc.1 acc.2) = exO (Xpulse_correlation_0a (sumC ((l.zip (l.drop lag)).drop j) acc)) := by
  have hz := zip_len l lag
  refine up_ind _ ?_ ?_
  · intro acc
    refine Rpulse_correlation_0a_of _ _ _ _ _ _ ?_
    unfold Bpulse_correlation_0a
    rw [bif_neg (by omega), List.drop_length]
    rfl
  · intro j hj ih acc
    refine Rpulse_correlation_0a_of _ _ _ _ _ _ ?_
    unfold Bpulse_correlation_0a
    obtain ⟨a, b, ha, hb, hd⟩ := zip_get l lag j hj
    have e : w64 (((lag + j : Nat) : Int) - lag) = (j : Int) := by rw [w64_in (by omega)]; omega
    rw [bif_pos (by omega), e, bif_pos (by omega)]
    simp only [Int.toNat_natCast, encG_0, encG_1, ha, Option.map_some, intC_int, bindO_val]
    rw [bif_pos (by omega)]
    rw [Nat.add_comm] at hb
    simp only [hb, Option.map_some, intC_int, bindO_val, conj_is a b, plus_is acc (cmul a b)]
    rw [w64_in (by omega), hd]
    exact ih (addZ acc (cmul a b))

theorem correlation_is (l : List ZZ) (lag : Nat) (hl : l.length ≤ 1000) (hg : lag ≤ 1000) : Fpulse_correlation [.list l.length (encG l), .int .i64 lag, .int .i64 0] = some (sumC (l.zip (l.drop lag)) (0, 0)) := by
  refine Fpulse_correlation_of _ _ _ _ ?_
  unfold tpulse_correlation
  have := Lpulse_correlation_0a_of (corr_loop l lag hl hg 0 (by omega) (0, 0))
  rw [if_neg (by omega)]
  have this : Lpulse_correlation_0 (Tpulse_correlation_0a l.length (encG l) lag lag 0 0) = _ := this
  rw [this]
  rfl

theorem corrOf_is (l : List ZZ) (lag : Int) (hl : l.length ≤ 1000) : Fpulse_CorrelationOf [.list l.length (encG l), .int .i64 lag] =
    some (if both (blockE l) (rangeE lag 0 48) ≠ 0 then (0, 0, both (blockE l) (rangeE lag 0 48)) else ((sumC (l.zip (l.drop lag.toNat)) (0, 0)).1, (sumC (l.zip (l.drop lag.toNat)) (0, 0)).2, 0)) := by
  refine Fpulse_CorrelationOf_of _ _ _ ?_
  unfold tpulse_CorrelationOf
  simp only [blockError_is l (by omega), rangeError_is, firstError2_is, bindO_val, bif_ne]
  by_cases h : both (blockE l) (rangeE lag 0 48) = 0
  · rw [if_pos h, if_neg (by simpa using h)]
    have hb : blockE l = 0 ∧ rangeE lag 0 48 = 0 := by
      unfold both at h
      split at h
      · rename_i h1; exact absurd h h1
      · rename_i h1; exact ⟨by simpa using h1, h⟩
    have hq : 0 ≤ lag ∧ lag ≤ 48 := by
      have := hb.2
      unfold rangeE at this
      split at this
      · cases this
      · omega
    obtain ⟨g, rfl⟩ : ∃ g : Nat, lag = g := ⟨lag.toNat, by omega⟩
    simp only [correlation_is l g hl (by omega), Int.toNat_natCast, bindO_val]
  · rw [if_neg h, if_pos h]

theorem gadd_is (a b : ZZ) : Fglidepathbase_GAdd [.agg [.int .i64 a.1, .int .i64 a.2], .agg [.int .i64 b.1, .int .i64 b.2]] = some (addZ a b) := Fglidepathbase_GAdd_of _ _ _ _ rfl

theorem gmulconj (a b : ZZ) : (w64 (w64 (a.1 * b.1) - w64 (w64 (0 - a.2) * b.2)), w64 (w64 (a.1 * b.2) + w64 (w64 (0 - a.2) * b.1))) = cmul a b := by
  unfold cmul
  simp only [w64_add_l, w64_add_r, w64_sub_l, w64_sub_r, w64_mul_l]
  congr 2
  · rw [Int.zero_sub, Int.neg_mul]; omega
  · rw [Int.zero_sub, Int.neg_mul]; omega

theorem refCorr_loop (l : List ZZ) (lag : Nat) (hl : l.length ≤ 1000) (hg : lag ≤ 1000) : ∀ j, j ≤ (l.zip (l.drop lag)).length → ∀ acc : ZZ,
    Rglidepathref01_Correlation_0 (Tglidepathref01_Correlation_0a l.length (encG l) lag j acc.1 acc.2) = exO (Xglidepathref01_Correlation_0a (sumC ((l.zip (l.drop lag)).drop j) acc)) := by
  have hz := zip_len l lag
  refine up_ind _ ?_ ?_
  · intro acc
    refine Rglidepathref01_Correlation_0a_of _ _ _ _ _ _ ?_
    unfold Bglidepathref01_Correlation_0a
    rw [w64_in (by omega), bif_neg (by omega), List.drop_length]
    rfl
  · intro j hj ih acc
    refine Rglidepathref01_Correlation_0a_of _ _ _ _ _ _ ?_
    unfold Bglidepathref01_Correlation_0a
    obtain ⟨a, b, ha, hb, hd⟩ := zip_get l lag j hj
    have e : w64 ((j : Int) + lag) = ((j + lag : Nat) : Int) := by rw [w64_in (by omega)]; omega
    rw [e, bif_pos (by omega), bif_pos (by omega)]
    have h1 : Fglidepathbase_GConj [.agg [.int .i64 a.1, .int .i64 a.2]] = some (a.1, w64 (0 - a.2)) := Fglidepathbase_GConj_of _ _ rfl
    have h2 : Fglidepathbase_GMul [.agg [.int .i64 a.1, .int .i64 (w64 (0 - a.2))], .agg [.int .i64 b.1, .int .i64 b.2]] = some (cmul a b) := by
      refine Fglidepathbase_GMul_of _ _ _ _ ?_
      unfold tglidepathbase_GMul
      rw [gmulconj]
    simp only [Int.toNat_natCast, encG_0, encG_1, ha, Option.map_some, intC_int, bindO_val, h1]
    rw [bif_pos (by omega)]
    simp only [hb, Option.map_some, intC_int, bindO_val, h2, gadd_is acc (cmul a b)]
    rw [w64_in (by omega), hd]
    exact ih (addZ acc (cmul a b))

theorem refCorr_is (l : List ZZ) (lag : Nat) (hl : l.length ≤ 1000) (hg : lag ≤ 1000) : Fglidepathref01_Correlation [.list l.length (encG l), .int .i64 lag] = some (sumC (l.zip (l.drop lag)) (0, 0)) := by
  refine Fglidepathref01_Correlation_of _ _ _ ?_
  unfold tglidepathref01_Correlation
  have := Lglidepathref01_Correlation_0a_of (refCorr_loop l lag hl hg 0 (by omega) (0, 0))
  have this : Lglidepathref01_Correlation_0 (Tglidepathref01_Correlation_0a l.length (encG l) lag 0 0 0) = _ := this
  rw [this]
  rfl
end Gv
