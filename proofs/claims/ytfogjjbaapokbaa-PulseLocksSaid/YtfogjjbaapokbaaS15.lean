import Derived.Test.YtfogjjbaapokbaaS2
import Derived.Test.YtfogjjbaapokbaaP3
import Derived.Test.YtfogjjbaapokbaaP5

/- Gates: their errors, by the program and by the specification. -/
namespace Gv
open Go
set_option maxRecDepth 100000

def first3 (a b c : Int) : Int := if a ≠ 0 then a else if b ≠ 0 then b else c
theorem firstError3_is (a b c : Int) : Fpulse_firstError_3 [.list 3 [.int .i64 a, .int .i64 b, .int .i64 c]] = some (first3 a b c) :=
  Fpulse_firstError_3_of a b c (by
    unfold tpulse_firstError_3 first3
    simp only [bif_ne]
    by_cases h1 : a = 0 <;> by_cases h2 : b = 0 <;> by_cases h3 : c = 0 <;> simp [h1, h2, h3])
def first4 (a b c d : Int) : Int := if a ≠ 0 then a else if b ≠ 0 then b else if c ≠ 0 then c else d
theorem firstError4_is (a b c d : Int) : Fpulse_firstError_4 [.list 4 [.int .i64 a, .int .i64 b, .int .i64 c, .int .i64 d]] = some (first4 a b c d) :=
  Fpulse_firstError_4_of a b c d (by
    unfold tpulse_firstError_4 first4
    simp only [bif_ne]
    by_cases h1 : a = 0 <;> by_cases h2 : b = 0 <;> by_cases h3 : c = 0 <;> by_cases h4 : d = 0 <;> simp [h1, h2, h3, h4])

theorem number_is (x lo hi : Int) : Fpulse_numberError_1 [.int .i64 x, .imm [.int .i64 lo] 0, .imm [.int .i64 hi] 0] = some (rangeE x lo hi) :=
  Fpulse_numberError_1_of x lo hi (by
    unfold tpulse_numberError_1
    simp only [rangeError_is, bindO_val])

theorem itemI_loop (lo hi : Int) (l : List Int) (hl : l.length < 4294967296) : ∀ i, i ≤ l.length →
    Rpulse_itemError_int__0 (Tpulse_itemError_int__0a lo hi l.length (encI l) l.length i) = exO (XLpulse_itemError_int__0.fn (sumE (findE (fun x => rangeE x lo hi) (l.drop i) i))) := by
  refine up_ind _ ?_ ?_
  · refine Rpulse_itemError_int__0a_of _ _ _ _ _ _ ?_
    unfold Bpulse_itemError_int__0a
    rw [bif_neg (by omega), List.drop_length]
    rfl
  · intro i hi' ih
    refine Rpulse_itemError_int__0a_of _ _ _ _ _ _ ?_
    unfold Bpulse_itemError_int__0a
    obtain ⟨x, hx, hd⟩ := get_drop hi'
    rw [bif_pos (by omega), bif_pos (by omega)]
    simp only [Int.toNat_natCast, Nat.mul_one, encI_get, hx, Option.map_some, intC_int, bindO_val, number_is]
    rw [hd, w64_in (by omega), bif_ne]
    by_cases he : rangeE x lo hi = 0
    · rw [if_pos he]
      simp only [findE, he, ne_eq, not_true_eq_false, if_false]
      exact ih
    · rw [if_neg he]
      simp only [findE, ne_eq, he, not_false_eq_true, if_true]
      rfl

def listIE (m lo hi : Int) (l : List Int) : Int × Int := if l.length = 0 then (0, 10) else if m < l.length then (0, 8) else (findE (fun x => rangeE x lo hi) l 0).getD (0, 0)

theorem itemI_is (lo hi : Int) (l : List Int) (hl : l.length < 4294967296) :
    Fpulse_itemError_int_ [.list l.length (encI l), .fn 140 [.imm [.int .i64 lo] 0, .imm [.int .i64 hi] 0]] = some ((findE (fun x => rangeE x lo hi) l 0).getD (0, 0)) := by
  refine Fpulse_itemError_int__of _ _ _ _ ?_
  unfold tpulse_itemError_int_
  have := lpO_of Ipulse_itemError_int__0 XIpulse_itemError_int__0 (itemI_loop lo hi l hl 0 (by omega))
  have this : Lpulse_itemError_int__0 (Tpulse_itemError_int__0a lo hi l.length (encI l) l.length 0) = _ := this
  rw [this]
  simp only [bindO_val, List.drop_zero]
  cases findE (fun x => rangeE x lo hi) l 0 <;> rfl

theorem listI_is (m lo hi : Int) (l : List Int) (hl : l.length < 4294967296) :
    Fpulse_listError_int_ [.list l.length (encI l), .int .i64 m, .fn 140 [.imm [.int .i64 lo] 0, .imm [.int .i64 hi] 0]] = some (listIE m lo hi l) := by
  refine Fpulse_listError_int__of _ _ _ _ _ ?_
  unfold tpulse_listError_int_ listIE
  simp only [firstError2_is, bindO_val, itemI_is lo hi l hl, bif_eq, bif_ne, both]
  by_cases h1 : l.length = 0
  · simp [h1]
  · by_cases h2 : m < l.length <;> simp [h1, h2]

/-- Gates, and their error. -/
structure Gt where
  first : Int
  hop : Int
  count : Int
  ws : List Int
def encGt (g : Gt) : PV := .agg [.int .i64 g.first, .int .i64 g.hop, .int .i64 g.count, .list g.ws.length (encI g.ws)]
def gatesP (g : Gt) : Int × Int :=
  if first3 (rangeE g.first 0 48) (rangeE g.hop 1 48) (rangeE g.count 1 20) ≠ 0 then (0, first3 (rangeE g.first 0 48) (rangeE g.hop 1 48) (rangeE g.count 1 20)) else listIE 16 0 100 g.ws

theorem checkGates_is (g : Gt) (hl : g.ws.length < 4294967296) : Fpulse_CheckGates [encGt g] = some (gatesP g) := by
  refine Fpulse_CheckGates_of _ _ _ _ _ ?_
  unfold tpulse_CheckGates gatesP
  simp only [rangeError_is, firstError3_is, bindO_val, bif_ne, listI_is 16 0 100 g.ws hl]
  by_cases h : first3 (rangeE g.first 0 48) (rangeE g.hop 1 48) (rangeE g.count 1 20) = 0
  · rw [if_pos h, if_neg (by simpa using h)]
  · rw [if_neg h, if_pos h]

def gatesE (g : Gt) : Int := (gatesP g).2
theorem gatesError_is (g : Gt) (hl : g.ws.length < 4294967296) : Fpulse_gatesError [encGt g] = some (gatesE g) := by
  refine Fpulse_gatesError_of _ _ _ _ _ ?_
  unfold tpulse_gatesError
  have := checkGates_is g hl
  unfold encGt at this
  simp only [this, bindO_val]
  rfl

theorem copyI_is (l : List Int) (hl : l.length ≤ 1000000) : Fglidepathbase_CopyInts [.list l.length (encI l)] = some (l.length, encI l) := by
  refine Fglidepathbase_CopyInts_of _ _ ?_
  unfold tglidepathbase_CopyInts
  by_cases h : l.length = 0
  · rw [bif_pos h]
    have := List.eq_nil_of_length_eq_zero h
    subst this
    rfl
  · rw [bif_neg h, bif_pos (by simp), bif_pos (by simp only [big]; omega), bif_pos rfl]
    simp

theorem copyGt_is (g : Gt) (hl : g.ws.length ≤ 1000000) : Fglidepathref01_Copy [encGt g] = some (g.first, g.hop, g.count, g.ws.length, encI g.ws) := by
  refine Fglidepathref01_Copy_of _ _ _ _ _ ?_
  unfold tglidepathref01_Copy
  simp only [copyI_is g.ws hl, bindO_val]

theorem fewGt_is (g : Gt) : Fglidepathlaw01_few [encGt g] = some (decide (g.ws.length ≤ 18)) := by
  refine Fglidepathlaw01_few_of _ _ _ _ _ ?_
  unfold tglidepathlaw01_few
  by_cases h : g.ws.length ≤ 18
  · rw [bif_pos (by omega)]; simp [h]
  · rw [bif_neg (by omega)]; simp [h]

def gateE (g : Gt) (k : Int) : Int := if k < 0 ∨ g.count ≤ k then 6 else 0
theorem gateError_is (g : Gt) (k : Int) : Fpulse_gateError [encGt g, .int .i64 k] = some (gateE g k) := by
  refine Fpulse_gateError_of _ _ _ _ _ _ ?_
  unfold tpulse_gateError gateE
  by_cases h1 : k < 0
  · rw [bif_pos h1, if_pos (.inl h1)]
  · by_cases h2 : g.count ≤ k
    · rw [bif_neg h1, bif_pos (by omega), if_pos (.inr h2)]
    · rw [bif_neg h1, bif_neg (by omega), if_neg (by omega)]

theorem firstIndex_is (g : Gt) (k : Int) : Fpulse_firstIndex [encGt g, .int .i64 k] = some (w64 (g.first + w64 (k * g.hop))) := Fpulse_firstIndex_of _ _ _ _ _ _ rfl

theorem refGateErr_is (g : Gt) (k : Int) (hc : -4611686018427387904 ≤ g.count ∧ g.count ≤ 4611686018427387904) : Fglidepathref01_GateErr [encGt g, .int .i64 k] = some (gateE g k) := by
  refine Fglidepathref01_GateErr_of _ _ _ _ _ _ ?_
  unfold tglidepathref01_GateErr gateE
  rw [w64_in (by omega)]
  simp only [within_is, bindO_val]
  by_cases h : 0 ≤ k ∧ k ≤ g.count - 1
  · rw [bif_pos h, if_neg (by omega)]
  · rw [bif_neg h, if_pos (by omega)]
end Gv

/- Gates with their weights, and energies. -/
namespace Gv
open Go
set_option maxRecDepth 100000

/-- A sample times a weight; 0 where there is none. -/
def wz (l : List ZZ) (at' w : Int) : ZZ := if 0 ≤ at' ∧ at' < l.length then ((l[at'.toNat]?).map fun z => (w64 (w * z.1), w64 (w * z.2))).getD (0, 0) else (0, 0)
def wtd (l : List ZZ) (first : Int) : List Int → Nat → List ZZ
  | [], _ => []
  | w :: ws, j => wz l (w64 (first + j)) w :: wtd l first ws (j + 1)
theorem wtd_len (l : List ZZ) (first : Int) : ∀ (ws : List Int) (j : Nat), (wtd l first ws j).length = ws.length
  | [], _ => rfl
  | w :: ws, j => by simp [wtd, wtd_len l first ws (j + 1)]

theorem over_same (pre r : List ZZ) (a : ZZ) : over (encG (pre ++ a :: r)) (0 + pre.length * 2) [.int .i64 a.1, .int .i64 a.2] = encG (pre ++ a :: r) := over_G pre r a a

theorem wtd_loop (l : List ZZ) (first : Int) (ws : List Int) (hw : ws.length ≤ 1000) : ∀ i, i ≤ ws.length → ∀ pre : List ZZ, pre.length = i →
    Rpulse_weighted_0 (Tpulse_weighted_0a l.length (encG l) first ws.length ws.length (encI ws) ws.length i (encG (pre ++ List.replicate (ws.length - i) (0, 0)))) = exO (Xpulse_weighted_0a (ws.length, encG (pre ++ wtd l first (ws.drop i) i))) := by
  refine up_ind _ ?_ ?_
  · intro pre hp
    refine Rpulse_weighted_0a_of _ _ _ _ _ _ _ _ _ ?_
    unfold Bpulse_weighted_0a
    rw [bif_neg (by omega), List.drop_length, Nat.sub_self]
    rfl
  · intro i hi ih pre hp
    refine Rpulse_weighted_0a_of _ _ _ _ _ _ _ _ _ ?_
    unfold Bpulse_weighted_0a
    obtain ⟨x, hx, hd⟩ := get_drop hi
    have hr : List.replicate (ws.length - i) ((0, 0) : ZZ) = (0, 0) :: List.replicate (ws.length - (i + 1)) (0, 0) := by
      rw [show ws.length - i = (ws.length - (i + 1)) + 1 by omega, List.replicate_succ]
    have next := ih (pre ++ [wz l (w64 (first + i)) x]) (by simp [hp])
    rw [List.append_assoc, List.singleton_append, List.append_assoc, List.singleton_append] at next
    rw [bif_pos (by omega), bif_pos (by omega)]
    simp only [Int.toNat_natCast, Nat.mul_one, encI_get, hx, Option.map_some, intC_int, bindO_val, Nat.add_zero]
    rw [w64_in (n := (i : Int) + 1) (by omega), hd]
    simp only [wtd]
    generalize w64 (first + i) = q at next ⊢
    by_cases h0 : 0 ≤ q
    · rw [bif_pos h0]
      by_cases h1 : q < l.length
      · rw [bif_pos h1, bif_pos ⟨h0, h1⟩]
        obtain ⟨n, rfl⟩ : ∃ n : Nat, q = n := ⟨q.toNat, by omega⟩
        obtain ⟨z, hz, _⟩ := get_drop (l := l) (i := n) (by omega)
        have e : wz l n x = (w64 (x * z.1), w64 (x * z.2)) := by
          unfold wz
          rw [if_pos ⟨h0, h1⟩, Int.toNat_natCast, hz]
          rfl
        simp only [Int.toNat_natCast, encG_0, encG_1, hz, Option.map_some, intC_int, bindO_val]
        rw [bif_pos ⟨h0, h1⟩, bif_pos (by omega), bif_pos (by simp; omega), hr, ← hp]
        rw [e] at next ⊢
        have ov := over_G pre (List.replicate (ws.length - (pre.length + 1)) (0, 0)) (0, 0) (w64 (x * z.1), w64 (x * z.2))
        simp only at ov
        rw [ov]
        rw [← hp] at next
        exact next
      · rw [bif_neg h1, hr]
        have e : wz l q x = (0, 0) := by unfold wz; rw [if_neg (by omega)]
        rw [e] at next ⊢
        exact next
    · rw [bif_neg h0, hr]
      have e : wz l q x = (0, 0) := by unfold wz; rw [if_neg (by omega)]
      rw [e] at next ⊢
      exact next

theorem weighted_is (l : List ZZ) (first : Int) (ws : List Int) (hw : ws.length ≤ 1000) : Fpulse_weighted [.list l.length (encG l), .int .i64 first, .list ws.length (encI ws)] = some (ws.length, encG (wtd l first ws 0)) := by
  refine Fpulse_weighted_of _ _ _ _ _ ?_
  unfold tpulse_weighted
  rw [bif_pos ⟨rfl, by omega, by simp only [big]; omega⟩, Int.toNat_natCast, rep_G]
  have := Lpulse_weighted_0a_of (wtd_loop l first ws hw 0 (by omega) [] rfl)
  have this : Lpulse_weighted_0 (Tpulse_weighted_0a l.length (encG l) first ws.length ws.length (encI ws) ws.length 0 (encG (List.replicate ws.length (0, 0)))) = some (ws.length, encG (wtd l first ws 0)) := this
  rw [this]
  simp only [bindO_val]
  have hlen : (encG (wtd l first ws 0)).length = ws.length * 2 := by rw [encG_len, wtd_len]
  rw [bif_pos (by rw [hlen]; omega), List.drop_zero, List.take_of_length_le (by rw [hlen]; omega)]

/-! Energies -/
def normZ (z : ZZ) : Int := w64 (w64 (z.1 * z.1) + w64 (z.2 * z.2))
def energy : List ZZ → Int → Int
  | [], e => e
  | z :: l, e => energy l (w64 (e + normZ z))

theorem power_is (z : ZZ) : Fpulse_powerOf [.agg [.int .i64 z.1, .int .i64 z.2]] = some (normZ z) := Fpulse_powerOf_of _ _ rfl
theorem gnorm_is (z : ZZ) : Fglidepathbase_GNorm [.agg [.int .i64 z.1, .int .i64 z.2]] = some (normZ z) := Fglidepathbase_GNorm_of _ _ rfl

theorem energy_loop (l : List ZZ) (hl : l.length < 4294967296) : ∀ i, i ≤ l.length → ∀ e : Int,
    Rpulse_energyOf_0 (Tpulse_energyOf_0a e l.length (encG l) l.length i) = exO (Xpulse_energyOf_0a (energy (l.drop i) e)) := by
  refine up_ind _ ?_ ?_
  · intro e
    refine Rpulse_energyOf_0a_of _ _ _ _ _ ?_
    unfold Bpulse_energyOf_0a
    rw [bif_neg (by omega), List.drop_length]
    rfl
  · intro i hi ih e
    refine Rpulse_energyOf_0a_of _ _ _ _ _ ?_
    unfold Bpulse_energyOf_0a
    obtain ⟨x, hx, hd⟩ := get_drop hi
    rw [bif_pos (by omega), bif_pos (by omega)]
    simp only [Int.toNat_natCast, encG_0, encG_1, hx, Option.map_some, intC_int, bindO_val, power_is x]
    rw [w64_in (n := (i : Int) + 1) (by omega), hd]
    exact ih (w64 (e + normZ x))

theorem energyOf_is (l : List ZZ) (hl : l.length < 4294967296) : Fpulse_energyOf [.list l.length (encG l)] = some (energy l 0) := by
  refine Fpulse_energyOf_of _ _ ?_
  unfold tpulse_energyOf
  have := Lpulse_energyOf_0a_of (energy_loop l hl 0 (by omega) 0)
  have this : Lpulse_energyOf_0 (Tpulse_energyOf_0a 0 l.length (encG l) l.length 0) = some (energy l 0) := this
  rw [this]
  rfl

theorem refEnergy_loop (l : List ZZ) (hl : l.length < 4294967296) : ∀ i, i ≤ l.length → ∀ e : Int,
    Rglidepathref01_Energy_0 (Tglidepathref01_Energy_0a l.length (encG l) e i) = exO (Xglidepathref01_Energy_0a (energy (l.drop i) e)) := by
  refine up_ind _ ?_ ?_
  · intro e
    refine Rglidepathref01_Energy_0a_of _ _ _ _ ?_
    unfold Bglidepathref01_Energy_0a
    rw [bif_neg (by omega), List.drop_length]
    rfl
  · intro i hi ih e
    refine Rglidepathref01_Energy_0a_of _ _ _ _ ?_
    unfold Bglidepathref01_Energy_0a
    obtain ⟨x, hx, hd⟩ := get_drop hi
    rw [bif_pos (by omega), bif_pos (by omega)]
    simp only [Int.toNat_natCast, encG_0, encG_1, hx, Option.map_some, intC_int, bindO_val, gnorm_is x]
    rw [w64_in (n := (i : Int) + 1) (by omega), hd]
    exact ih (w64 (e + normZ x))

theorem refEnergy_is (l : List ZZ) (hl : l.length < 4294967296) : Fglidepathref01_Energy [.list l.length (encG l)] = some (energy l 0) := by
  refine Fglidepathref01_Energy_of _ _ ?_
  unfold tglidepathref01_Energy
  have := Lglidepathref01_Energy_0a_of (refEnergy_loop l hl 0 (by omega) 0)
  have this : Lglidepathref01_Energy_0 (Tglidepathref01_Energy_0a l.length (encG l) 0 0) = some (energy l 0) := this
  rw [this]
  rfl

/-! The specification's gates -/
theorem at_eq (F j s : Int) : w64 (w64 (F + j) + s) = w64 (w64 (F + s) + j) := by
  rw [w64_add_l, w64_add_l]
  congr 1
  omega

theorem refGate_step (l : List ZZ) (at' w : Int) (hl : 1 ≤ l.length ∧ l.length < 4294967296) {α : Type} (k : ZZ → Option α) (g1 g2 : Option α)
    (h1 : 0 ≤ at' ∧ at' < l.length → g1 = k (wz l at' w)) (h2 : ¬ (0 ≤ at' ∧ at' < l.length) → g2 = k (0, 0)) :
    (bif decide (0 ≤ at' ∧ at' ≤ w64 ((l.length : Int) - 1)) then g1 else g2) = k (wz l at' w) := by
  rw [w64_in (by omega)]
  by_cases h : 0 ≤ at' ∧ at' < l.length
  · rw [bif_pos (by omega)]
    exact h1 h
  · rw [bif_neg (by omega), h2 h]
    unfold wz
    rw [if_neg h]
end Gv

/- Gates of the specification, energies under jitter, clipped samples. -/
namespace Gv
open Go
set_option maxRecDepth 100000

theorem refGate_loop (l : List ZZ) (g : Gt) (k s : Int) (hl : 1 ≤ l.length ∧ l.length < 4294967296) (hw : g.ws.length ≤ 1000) : ∀ i, i ≤ g.ws.length → ∀ pre : List ZZ, pre.length = i →
    Rglidepathref01_Gate_0 (Tglidepathref01_Gate_0b l.length (encG l) k s i (encG pre) i g.first g.hop g.count g.ws.length (encI g.ws) i) =
      exO (Xglidepathref01_Gate_0b (g.ws.length, encG (pre ++ wtd l (w64 (w64 (g.first + w64 (k * g.hop)) + s)) (g.ws.drop i) i), g.first, g.hop, g.count, g.ws.length, encI g.ws, g.ws.length)) := by
  refine up_ind _ ?_ ?_
  · intro pre hp
    refine Rglidepathref01_Gate_0b_of _ _ _ _ _ _ _ _ _ _ _ _ _ ?_
    unfold Bglidepathref01_Gate_0b
    rw [bif_neg (by omega), List.drop_length]
    simp only [wtd, List.append_nil]
    rfl
  · intro i hi ih pre hp
    refine Rglidepathref01_Gate_0b_of _ _ _ _ _ _ _ _ _ _ _ _ _ ?_
    unfold Bglidepathref01_Gate_0b
    obtain ⟨x, hx, hd⟩ := get_drop hi
    have next := ih (pre ++ [wz l (w64 (w64 (w64 (g.first + w64 (k * g.hop)) + s) + i)) x]) (by simp [hp])
    rw [List.append_assoc, List.singleton_append, encG_app, ← encG_one] at next
    rw [bif_pos (by omega), hd]
    simp only [wtd]
    have hat : w64 (w64 (w64 (g.first + w64 (k * g.hop)) + i) + s) = w64 (w64 (w64 (g.first + w64 (k * g.hop)) + s) + i) := at_eq _ _ _
    rw [hat]
    generalize hq : w64 (w64 (w64 (g.first + w64 (k * g.hop)) + s) + i) = q at next ⊢
    simp only [within_is, bindO_val, Int.toNat_natCast, Nat.mul_one, encI_get, hx, Option.map_some, intC_int]
    rw [w64_in (n := (l.length : Int) - 1) (by omega), w64_in (n := (i : Int) + 1) (by omega)]
    by_cases h : 0 ≤ q ∧ q < l.length
    · obtain ⟨n, rfl⟩ : ∃ n : Nat, q = n := ⟨q.toNat, by omega⟩
      obtain ⟨z, hz, _⟩ := get_drop (l := l) (i := n) (by omega)
      have e : wz l n x = (w64 (x * z.1), w64 (x * z.2)) := by
        unfold wz
        rw [if_pos h, Int.toNat_natCast, hz]
        rfl
      rw [bif_pos (by omega), bif_pos (by omega), bif_pos h]
      simp only [Int.toNat_natCast, Nat.add_zero, encG_0, encG_1, hz, Option.map_some, intC_int, bindO_val]
      rw [bif_pos (by omega), bif_pos h, bif_pos ⟨trivial, by simp only [big]; omega⟩]
      rw [e] at next ⊢
      exact next
    · have e : wz l q x = (0, 0) := by unfold wz; rw [if_neg h]
      rw [bif_neg (by omega), bif_pos ⟨trivial, by simp only [big]; omega⟩]
      rw [e] at next ⊢
      exact next

/-! Sizes of samples -/
theorem size_is (x : Int) (h : -4611686018427387904 ≤ x ∧ x ≤ 4611686018427387904) : Fglidepathbase_Size [.int .i64 x] = some (if x < 0 then -x else x) := by
  refine Fglidepathbase_Size_of _ ?_
  unfold tglidepathbase_Size
  rw [w64_in (by omega), Int.zero_sub]
  congr 1
  split <;> split <;> omega
def absI (x : Int) : Int := if x < 0 then -x else x
def partZ (z : ZZ) : Int := if absI z.2 > absI z.1 then absI z.2 else absI z.1
theorem gpart_is (z : ZZ) (hz : Small 4611686018427387904 z) : Fglidepathbase_GPart [.agg [.int .i64 z.1, .int .i64 z.2]] = some (partZ z) := by
  refine Fglidepathbase_GPart_of _ _ ?_
  unfold tglidepathbase_GPart
  simp only [size_is z.1 hz.1, size_is z.2 hz.2, bindO_val]
  rfl
end Gv

/- Energies of a gate under jitter. -/
namespace Gv
open Go
set_option maxRecDepth 100000

def baseG (g : Gt) (k : Int) : Int := w64 (g.first + w64 (k * g.hop))

theorem refGate_is (l : List ZZ) (g : Gt) (k s : Int) (hl : 1 ≤ l.length ∧ l.length < 4294967296) (hw : 1 ≤ g.ws.length ∧ g.ws.length ≤ 1000) :
    Fglidepathref01_Gate [encGt g, .list l.length (encG l), .int .i64 k, .int .i64 s] = some (g.ws.length, encG (wtd l (w64 (baseG g k + s)) g.ws 0)) := by
  refine Fglidepathref01_Gate_of _ _ _ _ _ _ _ _ _ ?_
  unfold tglidepathref01_Gate
  have key : Rglidepathref01_Gate_0 (Tglidepathref01_Gate_0a l.length (encG l) k s g.first g.hop g.count g.ws.length (encI g.ws)) =
      exO (Xglidepathref01_Gate_0b (g.ws.length, encG (wtd l (w64 (baseG g k + s)) g.ws 0), g.first, g.hop, g.count, g.ws.length, encI g.ws, g.ws.length)) := by
    refine Rglidepathref01_Gate_0a_of _ _ _ _ _ _ _ _ _ ?_
    unfold Bglidepathref01_Gate_0a
    obtain ⟨x, hx, hd⟩ := get_drop (l := g.ws) (i := 0) (by omega)
    rw [List.drop_zero] at hd
    have next := refGate_loop l g k s hl hw.2 1 (by omega) [wz l (w64 (w64 (baseG g k + s) + ((0 : Nat) : Int))) x] rfl
    have e1 : wtd l (w64 (baseG g k + s)) g.ws 0 = wz l (w64 (w64 (baseG g k + s) + ((0 : Nat) : Int))) x :: wtd l (w64 (baseG g k + s)) (g.ws.drop 1) 1 := by
      conv => lhs; rw [hd]
      rfl
    have hat : w64 (w64 (w64 (g.first + w64 (k * g.hop)) + 0) + s) = w64 (w64 (baseG g k + s) + ((0 : Nat) : Int)) := at_eq _ _ _
    rw [e1, bif_pos (by omega), hat]
    rw [show w64 (w64 (g.first + w64 (k * g.hop)) + s) = w64 (baseG g k + s) from rfl] at next
    generalize hq : w64 (w64 (baseG g k + s) + ((0 : Nat) : Int)) = q at next ⊢
    simp only [within_is, bindO_val, encI_get, hx, Option.map_some, intC_int]
    rw [w64_in (n := (l.length : Int) - 1) (by omega)]
    by_cases h : 0 ≤ q ∧ q < l.length
    · obtain ⟨n, rfl⟩ : ∃ n : Nat, q = n := ⟨q.toNat, by omega⟩
      obtain ⟨z, hz, _⟩ := get_drop (l := l) (i := n) (by omega)
      have e : wz l n x = (w64 (x * z.1), w64 (x * z.2)) := by
        unfold wz
        rw [if_pos h, Int.toNat_natCast, hz]
        rfl
      rw [bif_pos (by omega), bif_pos (by omega), bif_pos h]
      simp only [Int.toNat_natCast, Nat.add_zero, encG_0, encG_1, hz, Option.map_some, intC_int, bindO_val]
      rw [bif_pos (by omega), bif_pos h]
      rw [e] at next ⊢
      exact next
    · have e : wz l q x = (0, 0) := by unfold wz; rw [if_neg h]
      rw [bif_neg (by omega)]
      rw [e] at next ⊢
      exact next
  have := Lglidepathref01_Gate_0b_of key
  rw [this]
  simp only [bindO_val, Sum.elim_inr]
  rw [bif_pos trivial]

/-- The energy of a gate that is shifted. -/
def eAt (l : List ZZ) (g : Gt) (k s : Int) : Int := energy (wtd l (w64 (baseG g k + s)) g.ws 0) 0

def rng (e : Int → Int) : Nat → Int → Int → Int → Int × Int
  | 0, _, lo, hi => (lo, hi)
  | n + 1, s, lo, hi => rng e n (s + 1) (if e s < lo then e s else lo) (if e s > hi then e s else hi)

theorem energyIn_loop (l : List ZZ) (g : Gt) (k off : Int) (hw : g.ws.length ≤ 1000) (ho : 0 ≤ off ∧ off ≤ 1000) : ∀ (n : Nat) (s lo hi : Int), s + n = off + 1 → -1000 ≤ s →
    Rpulse_EnergyIn_0 (Tpulse_EnergyIn_0a l.length (encG l) (baseG g k) s g.first g.hop g.count g.ws.length (encI g.ws) k off lo hi) =
      exO (Xpulse_EnergyIn_0a (g.first, g.hop, g.count, g.ws.length, encI g.ws, k, off, (rng (eAt l g k) n s lo hi).1, (rng (eAt l g k) n s lo hi).2))
  | 0, s, lo, hi, hs, h1 => by
    refine Rpulse_EnergyIn_0a_of _ _ _ _ _ _ _ _ _ _ _ _ _ ?_
    unfold Bpulse_EnergyIn_0a
    rw [bif_neg (by omega)]
    rfl
  | n + 1, s, lo, hi, hs, h1 => by
    refine Rpulse_EnergyIn_0a_of _ _ _ _ _ _ _ _ _ _ _ _ _ ?_
    unfold Bpulse_EnergyIn_0a
    rw [bif_pos (by omega)]
    have hwt := weighted_is l (w64 (baseG g k + s)) g.ws hw
    have hen := energyOf_is (wtd l (w64 (baseG g k + s)) g.ws 0) (by rw [wtd_len]; omega)
    rw [wtd_len] at hen
    simp only [hwt, hen, bindO_val]
    rw [w64_in (n := s + 1) (by omega)]
    exact energyIn_loop l g k off hw ho n (s + 1) _ _ (by omega) (by omega)

theorem energies_loop (l : List ZZ) (g : Gt) (k off : Int) (hl : 1 ≤ l.length ∧ l.length < 4294967296) (hw : 1 ≤ g.ws.length ∧ g.ws.length ≤ 1000) (ho : 0 ≤ off ∧ off ≤ 1000) : ∀ (n : Nat) (s lo hi : Int), s + n = off + 1 → -1000 ≤ s →
    Rglidepathref01_Energies_0 (Tglidepathref01_Energies_0a l.length (encG l) s g.first g.hop g.count g.ws.length (encI g.ws) k off lo hi) =
      exO (Xglidepathref01_Energies_0a (g.first, g.hop, g.count, g.ws.length, encI g.ws, k, off, (rng (eAt l g k) n s lo hi).1, (rng (eAt l g k) n s lo hi).2))
  | 0, s, lo, hi, hs, h1 => by
    refine Rglidepathref01_Energies_0a_of _ _ _ _ _ _ _ _ _ _ _ _ ?_
    unfold Bglidepathref01_Energies_0a
    rw [bif_neg (by omega)]
    rfl
  | n + 1, s, lo, hi, hs, h1 => by
    refine Rglidepathref01_Energies_0a_of _ _ _ _ _ _ _ _ _ _ _ _ ?_
    unfold Bglidepathref01_Energies_0a
    rw [bif_pos (by omega)]
    have hwt := refGate_is l g k s hl hw
    have hen := refEnergy_is (wtd l (w64 (baseG g k + s)) g.ws 0) (by rw [wtd_len]; omega)
    rw [wtd_len] at hen
    unfold encGt at hwt
    simp only [hwt, hen, bindO_val]
    rw [w64_in (n := s + 1) (by omega)]
    exact energies_loop l g k off hl hw ho n (s + 1) _ _ (by omega) (by omega)

theorem rng_le (e : Int → Int) : ∀ (n : Nat) (s lo hi : Int), (rng e n s lo hi).1 ≤ lo ∧ hi ≤ (rng e n s lo hi).2 ∧ ∀ t, s ≤ t → t < s + n → (rng e n s lo hi).1 ≤ e t ∧ e t ≤ (rng e n s lo hi).2
  | 0, s, lo, hi => ⟨Int.le_refl _, Int.le_refl _, fun t h1 h2 => by omega⟩
  | n + 1, s, lo, hi => by
    have hlo : (if e s < lo then e s else lo) ≤ lo ∧ (if e s < lo then e s else lo) ≤ e s := by split <;> omega
    have hhi : hi ≤ (if e s > hi then e s else hi) ∧ e s ≤ (if e s > hi then e s else hi) := by split <;> omega
    simp only [rng]
    generalize (if e s < lo then e s else lo) = lo' at hlo ⊢
    generalize (if e s > hi then e s else hi) = hi' at hhi ⊢
    obtain ⟨h1, h2, h3⟩ := rng_le e n (s + 1) lo' hi'
    refine ⟨by omega, by omega, fun t ht1 ht2 => ?_⟩
    by_cases ht : t = s
    · subst ht
      exact ⟨by omega, by omega⟩
    · exact h3 t (by omega) (by omega)

theorem rng_ge (e : Int → Int) (a b : Int) : ∀ (n : Nat) (s lo hi : Int), a ≤ lo → hi ≤ b → (∀ t, s ≤ t → t < s + n → a ≤ e t ∧ e t ≤ b) → a ≤ (rng e n s lo hi).1 ∧ (rng e n s lo hi).2 ≤ b
  | 0, s, lo, hi, h1, h2, _ => ⟨h1, h2⟩
  | n + 1, s, lo, hi, h1, h2, h3 => by
    simp only [rng]
    have := h3 s (by omega) (by omega)
    refine rng_ge e a b n (s + 1) _ _ ?_ ?_ fun t ht1 ht2 => h3 t (by omega) (by omega)
    · split <;> omega
    · split <;> omega
end Gv

/- Energies under jitter: the program's and the specification's; the errors of gates. -/
namespace Gv
open Go
set_option maxRecDepth 100000

def gEnd (g : Gt) : Option (Int × Int) → Option (Ext × S)
  | some p => exO (Xglidepathref01_CheckGates_0a p.1)
  | none => exO (Xglidepathref01_CheckGates_0b (g.first, g.hop, g.count, g.ws.length, encI g.ws))

theorem gEnd_some (g : Gt) (o : Option (Int × Int)) : ∃ r, gEnd g o = some r := by
  cases o
  · exact ⟨_, rfl⟩
  · exact ⟨_, rfl⟩

theorem refGates_loop (g : Gt) (hl : g.ws.length < 4294967296) : ∀ i, i ≤ g.ws.length →
    Rglidepathref01_CheckGates_0 (Tglidepathref01_CheckGates_0a i g.first g.hop g.count g.ws.length (encI g.ws)) =
      gEnd g (findE (fun x => rangeE x 0 100) (g.ws.drop i) i) := by
  refine up_ind _ ?_ ?_
  · rw [List.drop_length]
    show _ = exO (Xglidepathref01_CheckGates_0b (g.first, g.hop, g.count, g.ws.length, encI g.ws))
    refine Rglidepathref01_CheckGates_0a_of _ _ _ _ _ _ ?_
    unfold Bglidepathref01_CheckGates_0a
    rw [bif_neg (by omega)]
    rfl
  · intro i hi ih
    obtain ⟨x, hx, hd⟩ := get_drop hi
    by_cases he : 0 ≤ x ∧ x ≤ 100
    · have e0 := rangeE_in he
      rw [hd]
      simp only [findE, e0, ne_eq, not_true_eq_false, if_false]
      obtain ⟨r, hr⟩ := gEnd_some g (findE (fun x => rangeE x 0 100) (g.ws.drop (i + 1)) (i + 1))
      rw [hr] at ih ⊢
      refine Rglidepathref01_CheckGates_0a_of _ _ _ _ _ _ ?_
      unfold Bglidepathref01_CheckGates_0a
      rw [bif_pos (by omega), bif_pos (by omega)]
      simp only [Int.toNat_natCast, Nat.mul_one, encI_get, hx, Option.map_some, intC_int, bindO_val, within_is]
      rw [bif_pos he, w64_in (by omega)]
      exact ih
    · have e0 := rangeE_out he
      rw [hd]
      simp only [findE, e0]
      rw [if_pos (by decide)]
      show _ = exO (Xglidepathref01_CheckGates_0a i)
      refine Rglidepathref01_CheckGates_0a_of _ _ _ _ _ _ ?_
      unfold Bglidepathref01_CheckGates_0a
      rw [bif_pos (by omega), bif_pos (by omega)]
      simp only [Int.toNat_natCast, Nat.mul_one, encI_get, hx, Option.map_some, intC_int, bindO_val, within_is]
      rw [bif_neg he]
      rfl

theorem firstError4_zero {a b c d : Int} (h : first4 a b c d = 0) : a = 0 ∧ b = 0 ∧ c = 0 ∧ d = 0 := by
  unfold first4 at h
  split at h
  · contradiction
  · split at h
    · contradiction
    · split at h
      · contradiction
      · exact ⟨by omega, by omega, by omega, h⟩

def enE (l : List ZZ) (g : Gt) (k off : Int) : Int := first4 (gatesE g) (blockE l) (gateE g k) (rangeE off 0 8)
def enR (l : List ZZ) (g : Gt) (k off : Int) : Int × Int := rng (eAt l g k) (2 * off + 1).toNat (-off) (eAt l g k 0) (eAt l g k 0)

theorem eAt_zero (l : List ZZ) (g : Gt) (k : Int) : eAt l g k 0 = energy (wtd l (baseG g k) g.ws 0) 0 := by
  unfold eAt
  rw [Int.add_zero, show w64 (baseG g k) = baseG g k from w64_w64 _]

theorem energyIn_is (l : List ZZ) (g : Gt) (k off : Int) (hl : l.length ≤ 1000) (hw : g.ws.length ≤ 1000) : Fpulse_EnergyIn [encGt g, .list l.length (encG l), .agg [.int .i64 k, .int .i64 off]] =
    some (if enE l g k off ≠ 0 then (0, 0, enE l g k off) else ((enR l g k off).1, (enR l g k off).2, 0)) := by
  refine Fpulse_EnergyIn_of _ _ _ _ _ _ _ _ _ ?_
  unfold tpulse_EnergyIn
  have g1 := gatesError_is g (by omega)
  have g2 := gateError_is g k
  have g3 := firstIndex_is g k
  have g4 := weighted_is l (baseG g k) g.ws hw
  have g5 := energyOf_is (wtd l (baseG g k) g.ws 0) (by rw [wtd_len]; omega)
  rw [wtd_len] at g5
  unfold encGt at g1 g2 g3
  rw [show w64 (g.first + w64 (k * g.hop)) = baseG g k from rfl] at g3
  simp only [g1, g2, g3, g4, g5, blockError_is l (by omega), rangeError_is, firstError4_is, bindO_val, bif_ne]
  rw [show first4 (gatesE g) (blockE l) (gateE g k) (rangeE off 0 8) = enE l g k off from rfl]
  by_cases h : enE l g k off = 0
  · rw [if_pos h, if_neg (by simpa using h)]
    obtain ⟨_, _, _, h4⟩ := firstError4_zero h
    have ho : 0 ≤ off ∧ off ≤ 8 := by
      unfold rangeE at h4
      split at h4
      · cases h4
      · omega
    have := Lpulse_EnergyIn_0a_of (energyIn_loop l g k off hw (by omega) (2 * off + 1).toNat (-off) (eAt l g k 0) (eAt l g k 0) (by omega) (by omega))
    rw [w64_in (by omega), Int.zero_sub, ← eAt_zero, this]
    rfl
  · rw [if_neg h, if_pos h]

theorem energies_is (l : List ZZ) (g : Gt) (k off : Int) (hl : 1 ≤ l.length ∧ l.length ≤ 1000) (hw : 1 ≤ g.ws.length ∧ g.ws.length ≤ 1000) (ho : 0 ≤ off ∧ off ≤ 8) : Fglidepathref01_Energies [encGt g, .list l.length (encG l), .agg [.int .i64 k, .int .i64 off]] = some (enR l g k off) := by
  refine Fglidepathref01_Energies_of _ _ _ _ _ _ _ _ _ ?_
  unfold tglidepathref01_Energies
  have g4 := refGate_is l g k 0 (by omega) hw
  have g5 := refEnergy_is (wtd l (w64 (baseG g k + 0)) g.ws 0) (by rw [wtd_len]; omega)
  rw [wtd_len] at g5
  unfold encGt at g4
  have := Lglidepathref01_Energies_0a_of (energies_loop l g k off (by omega) hw (by omega) (2 * off + 1).toNat (-off) (eAt l g k 0) (eAt l g k 0) (by omega) (by omega))
  simp only [g4, g5, bindO_val]
  rw [w64_in (by omega), Int.zero_sub]
  rw [show energy (wtd l (w64 (baseG g k + 0)) g.ws 0) 0 = eAt l g k 0 from rfl, this]
  rfl
end Gv

/- The specification's errors of gates are the program's. -/
namespace Gv
open Go
set_option maxRecDepth 100000

theorem findE_rng (a b : Int) : ∀ (l : List Int) (i : Nat) (p : Int × Int), findE (fun x => rangeE x a b) l i = some p → p.2 = 2
  | [], _, p, h => by cases h
  | x :: l, i, p, h => by
    by_cases he : a ≤ x ∧ x ≤ b
    · simp only [findE, rangeE_in he, ne_eq, not_true_eq_false, if_false] at h
      exact findE_rng a b l (i + 1) p h
    · simp only [findE, rangeE_out he] at h
      rw [if_pos (by decide)] at h
      cases h
      rfl

theorem refCheckGates_is (g : Gt) (hl : g.ws.length < 4294967296) : Fglidepathref01_CheckGates [encGt g] = some (gatesP g) := by
  refine Fglidepathref01_CheckGates_of _ _ _ _ _ ?_
  unfold tglidepathref01_CheckGates gatesP
  simp only [within_is, bindO_val]
  by_cases h1 : 0 ≤ g.first ∧ g.first ≤ 48
  · by_cases h2 : 1 ≤ g.hop ∧ g.hop ≤ 48
    · by_cases h3 : 1 ≤ g.count ∧ g.count ≤ 20
      · have e : first3 (rangeE g.first 0 48) (rangeE g.hop 1 48) (rangeE g.count 1 20) = 0 := by
          rw [rangeE_in h1, rangeE_in h2, rangeE_in h3]; rfl
        rw [e, bif_pos h1, bif_pos h2, bif_pos h3, if_neg (by simp), bif_eq]
        unfold listIE
        by_cases h4 : g.ws.length = 0
        · rw [if_pos (by omega), if_pos h4]
        · rw [if_neg (by omega), if_neg h4]
          by_cases h5 : (16 : Int) < g.ws.length
          · rw [bif_pos (by omega), if_pos h5]
          · rw [bif_neg (by omega), if_neg h5]
            have hL := refGates_loop g hl 0 (by omega)
            rw [List.drop_zero] at hL
            cases hf : findE (fun x => rangeE x 0 100) g.ws 0 with
            | none =>
              rw [hf] at hL
              have := Lglidepathref01_CheckGates_0b_of hL
              rw [show ((0 : Nat) : Int) = 0 from rfl] at this
              rw [this]
              rfl
            | some p =>
              rw [hf] at hL
              have := Lglidepathref01_CheckGates_0a_of hL
              rw [show ((0 : Nat) : Int) = 0 from rfl] at this
              rw [this]
              have h2 := findE_rng 0 100 g.ws 0 p hf
              show some (p.1, (2 : Int)) = some p
              rw [← h2]
      · have e : first3 (rangeE g.first 0 48) (rangeE g.hop 1 48) (rangeE g.count 1 20) = 2 := by
          rw [rangeE_in h1, rangeE_in h2, rangeE_out h3]; rfl
        rw [e, bif_pos h1, bif_pos h2, bif_neg h3]
        rfl
    · have e : first3 (rangeE g.first 0 48) (rangeE g.hop 1 48) (rangeE g.count 1 20) = 2 := by
        rw [rangeE_in h1, rangeE_out h2]; rfl
      rw [e, bif_pos h1, bif_neg h2]
      rfl
  · have e : first3 (rangeE g.first 0 48) (rangeE g.hop 1 48) (rangeE g.count 1 20) = 2 := by
      rw [rangeE_out h1]; rfl
    rw [e, bif_neg h1]
    rfl

theorem refGatesErr_is (g : Gt) (hl : g.ws.length < 4294967296) : Fglidepathref01_GatesErr [encGt g] = some (gatesE g) := by
  refine Fglidepathref01_GatesErr_of _ _ _ _ _ ?_
  unfold tglidepathref01_GatesErr
  have := refCheckGates_is g hl
  unfold encGt at this
  simp only [this, bindO_val]
  rfl

end Gv

/- The indices of clipped readings: the specification's loop. -/
namespace Gv
open Go
set_option maxRecDepth 100000

def clipZ (a : Int) : List ZZ → Nat → List Int
  | [], _ => []
  | z :: l, i => if a ≤ partZ z then (i : Int) :: clipZ a l (i + 1) else clipZ a l (i + 1)

theorem clipZ_len (a : Int) : ∀ (l : List ZZ) (i : Nat), (clipZ a l i).length ≤ l.length
  | [], _ => Nat.le_refl 0
  | z :: l, i => by
    have := clipZ_len a l (i + 1)
    unfold clipZ
    split
    · simpa using this
    · simp only [List.length_cons]; omega

theorem encI_snoc (l : List Int) (x : Int) : encI l ++ [.int .i64 x] = encI (l ++ [x]) := by simp [encI]

theorem refClip_loopb (l : List ZZ) (a : Int) (hl : l.length ≤ 1000) (hz : ∀ z ∈ l, Small 4611686018427387904 z) : ∀ i, i ≤ l.length → ∀ acc : List Int, acc.length ≤ i →
    Rglidepathref01_Clipped_0 (Tglidepathref01_Clipped_0b l.length (encG l) a acc.length (encI acc) i acc.length) =
      exO (Xglidepathref01_Clipped_0b ((acc ++ clipZ a (l.drop i) i).length, encI (acc ++ clipZ a (l.drop i) i), (acc ++ clipZ a (l.drop i) i).length)) := by
  refine up_ind _ ?_ ?_
  · intro acc _
    refine Rglidepathref01_Clipped_0b_of _ _ _ _ _ _ _ ?_
    unfold Bglidepathref01_Clipped_0b
    rw [bif_neg (by omega), List.drop_length]
    simp only [clipZ, List.append_nil]
    rfl
  · intro i hi ih acc ha
    obtain ⟨z, hx, hd⟩ := get_drop hi
    refine Rglidepathref01_Clipped_0b_of _ _ _ _ _ _ _ ?_
    unfold Bglidepathref01_Clipped_0b
    rw [bif_pos (by omega), bif_pos (by omega)]
    simp only [Int.toNat_natCast, encG_0, encG_1, hx, Option.map_some, intC_int, ge_iff_le, bindO_val, gpart_is z (hz z (List.mem_of_getElem? hx)), hd, clipZ]
    by_cases h : a ≤ partZ z
    · rw [bif_pos h, if_pos h, bif_pos ⟨trivial, by simp only [big]; omega⟩, w64_in (by omega), encI_snoc]
      have := ih (acc ++ [(i : Int)]) (by simp; omega)
      rw [List.length_append, List.append_assoc] at this
      exact this
    · rw [bif_neg h, if_neg h, w64_in (by omega)]
      exact ih acc (by omega)

theorem refClip_loopa (l : List ZZ) (a : Int) (hl : l.length ≤ 1000) (hz : ∀ z ∈ l, Small 4611686018427387904 z) : ∀ i, i ≤ l.length →
    Rglidepathref01_Clipped_0 (Tglidepathref01_Clipped_0a l.length (encG l) a i) =
      (if clipZ a (l.drop i) i = [] then exO (Xglidepathref01_Clipped_0a ()) else
      exO (Xglidepathref01_Clipped_0b ((clipZ a (l.drop i) i).length, encI (clipZ a (l.drop i) i), (clipZ a (l.drop i) i).length))) := by
  refine up_ind _ ?_ ?_
  · rw [List.drop_length]
    rw [if_pos (by rfl)]
    refine Rglidepathref01_Clipped_0a_of _ _ _ _ ?_
    unfold Bglidepathref01_Clipped_0a
    rw [bif_neg (by omega)]
    rfl
  · intro i hi ih
    obtain ⟨z, hx, hd⟩ := get_drop hi
    rw [hd]
    by_cases h : a ≤ partZ z
    · simp only [clipZ, if_pos h]
      rw [if_neg (by simp)]
      refine Rglidepathref01_Clipped_0a_of _ _ _ _ ?_
      unfold Bglidepathref01_Clipped_0a
      rw [bif_pos (by omega), bif_pos (by omega)]
      simp only [Int.toNat_natCast, encG_0, encG_1, hx, Option.map_some, intC_int, ge_iff_le, bindO_val, gpart_is z (hz z (List.mem_of_getElem? hx))]
      rw [bif_pos h, w64_in (by omega)]
      exact refClip_loopb l a hl hz (i + 1) (by omega) [(i : Int)] (by simp)
    · simp only [clipZ, if_neg h]
      have key : ∀ r, Rglidepathref01_Clipped_0 (Tglidepathref01_Clipped_0a l.length (encG l) a (i + 1 : Nat)) = some r → Rglidepathref01_Clipped_0 (Tglidepathref01_Clipped_0a l.length (encG l) a i) = some r := by
        intro r hr
        refine Rglidepathref01_Clipped_0a_of _ _ _ _ ?_
        unfold Bglidepathref01_Clipped_0a
        rw [bif_pos (by omega), bif_pos (by omega)]
        simp only [Int.toNat_natCast, encG_0, encG_1, hx, Option.map_some, intC_int, ge_iff_le, bindO_val, gpart_is z (hz z (List.mem_of_getElem? hx))]
        rw [bif_neg h, w64_in (by omega)]
        exact hr
      by_cases hc : clipZ a (l.drop (i + 1)) (i + 1) = []
      · rw [if_pos hc] at ih ⊢
        exact key _ ih
      · rw [if_neg hc] at ih ⊢
        exact key _ ih

theorem refClipped_is (l : List ZZ) (a : Int) (hl : l.length ≤ 1000) (hz : ∀ z ∈ l, Small 4611686018427387904 z) : Fglidepathref01_Clipped [.list l.length (encG l), .int .i64 a] = some ((clipZ a l 0).length, encI (clipZ a l 0)) := by
  refine Fglidepathref01_Clipped_of _ _ _ ?_
  unfold tglidepathref01_Clipped
  have hL := refClip_loopa l a hl hz 0 (by omega)
  rw [List.drop_zero] at hL
  by_cases hc : clipZ a l 0 = []
  · rw [if_pos hc] at hL
    have := Lglidepathref01_Clipped_0a_of hL
    rw [show ((0 : Nat) : Int) = 0 from rfl] at this
    rw [this, hc]
    rfl
  · rw [if_neg hc] at hL
    have := Lglidepathref01_Clipped_0b_of hL
    rw [show ((0 : Nat) : Int) = 0 from rfl] at this
    rw [this]
    simp only [bindO_val, Sum.elim_inr]
    rw [bif_pos trivial]

end Gv

/- The indices of clipped readings: the program's loop. -/
namespace Gv
open Go
set_option maxRecDepth 100000

theorem chain_is (z : ZZ) (hz : Small 4611686018427387904 z) : (let x0 := z.1; let x1 := z.2; (if ((w64 ((0 : Int) - x1)) > (if (x1 > (if ((w64 ((0 : Int) - x0)) > x0) then (w64 ((0 : Int) - x0)) else x0)) then x1 else (if ((w64 ((0 : Int) - x0)) > x0) then (w64 ((0 : Int) - x0)) else x0))) then (w64 ((0 : Int) - x1)) else (if (x1 > (if ((w64 ((0 : Int) - x0)) > x0) then (w64 ((0 : Int) - x0)) else x0)) then x1 else (if ((w64 ((0 : Int) - x0)) > x0) then (w64 ((0 : Int) - x0)) else x0)))) = partZ z := by
  obtain ⟨⟨a1, a2⟩, b1, b2⟩ := hz
  show ((if ((w64 ((0 : Int) - z.2)) > (if (z.2 > (if ((w64 ((0 : Int) - z.1)) > z.1) then (w64 ((0 : Int) - z.1)) else z.1)) then z.2 else (if ((w64 ((0 : Int) - z.1)) > z.1) then (w64 ((0 : Int) - z.1)) else z.1))) then (w64 ((0 : Int) - z.2)) else (if (z.2 > (if ((w64 ((0 : Int) - z.1)) > z.1) then (w64 ((0 : Int) - z.1)) else z.1)) then z.2 else (if ((w64 ((0 : Int) - z.1)) > z.1) then (w64 ((0 : Int) - z.1)) else z.1)))) = _
  rw [w64_in (by omega), w64_in (by omega)]
  unfold partZ absI
  repeat' split
  all_goals omega

theorem clip_loopb (l : List ZZ) (a : Int) (hl : l.length ≤ 1000) (hz : ∀ z ∈ l, Small 4611686018427387904 z) : ∀ i, i ≤ l.length → ∀ acc : List Int, acc.length ≤ i →
    Rpulse_ClippedIn_0 (Tpulse_ClippedIn_0b a acc.length (encI acc) l.length (encG l) l.length i acc.length) =
      exO (Xpulse_ClippedIn_0b ((acc ++ clipZ a (l.drop i) i).length, encI (acc ++ clipZ a (l.drop i) i), (acc ++ clipZ a (l.drop i) i).length)) := by
  refine up_ind _ ?_ ?_
  · intro acc _
    refine Rpulse_ClippedIn_0b_of _ _ _ _ _ _ _ _ ?_
    unfold Bpulse_ClippedIn_0b
    rw [bif_neg (by omega), List.drop_length]
    simp only [clipZ, List.append_nil]
    rfl
  · intro i hi ih acc ha
    obtain ⟨z, hx, hd⟩ := get_drop hi
    have hc := chain_is z (hz z (List.mem_of_getElem? hx))
    simp only [] at hc
    refine Rpulse_ClippedIn_0b_of _ _ _ _ _ _ _ _ ?_
    unfold Bpulse_ClippedIn_0b
    rw [bif_pos (by omega), bif_pos (by omega)]
    simp only [Int.toNat_natCast, encG_0, encG_1, hx, Option.map_some, intC_int, ge_iff_le, bindO_val, hc, hd, clipZ]
    by_cases h : a ≤ partZ z
    · rw [bif_pos h, if_pos h, bif_pos ⟨trivial, by simp only [big]; omega⟩, w64_in (by omega), encI_snoc]
      have := ih (acc ++ [(i : Int)]) (by simp; omega)
      rw [List.length_append, List.append_assoc] at this
      exact this
    · rw [bif_neg h, if_neg h, w64_in (by omega)]
      exact ih acc (by omega)

theorem clip_loopa (l : List ZZ) (a : Int) (hl : l.length ≤ 1000) (hz : ∀ z ∈ l, Small 4611686018427387904 z) : ∀ i, i ≤ l.length →
    Rpulse_ClippedIn_0 (Tpulse_ClippedIn_0a a l.length (encG l) l.length i) =
      (if clipZ a (l.drop i) i = [] then exO (Xpulse_ClippedIn_0a ()) else
      exO (Xpulse_ClippedIn_0b ((clipZ a (l.drop i) i).length, encI (clipZ a (l.drop i) i), (clipZ a (l.drop i) i).length))) := by
  refine up_ind _ ?_ ?_
  · rw [List.drop_length]
    rw [if_pos (by rfl)]
    refine Rpulse_ClippedIn_0a_of _ _ _ _ _ ?_
    unfold Bpulse_ClippedIn_0a
    rw [bif_neg (by omega)]
    rfl
  · intro i hi ih
    obtain ⟨z, hx, hd⟩ := get_drop hi
    have hc := chain_is z (hz z (List.mem_of_getElem? hx))
    simp only [] at hc
    rw [hd]
    by_cases h : a ≤ partZ z
    · simp only [clipZ, if_pos h]
      rw [if_neg (by simp)]
      refine Rpulse_ClippedIn_0a_of _ _ _ _ _ ?_
      unfold Bpulse_ClippedIn_0a
      rw [bif_pos (by omega), bif_pos (by omega)]
      simp only [Int.toNat_natCast, encG_0, encG_1, hx, Option.map_some, intC_int, ge_iff_le, bindO_val, hc]
      rw [bif_pos h, w64_in (by omega)]
      exact clip_loopb l a hl hz (i + 1) (by omega) [(i : Int)] (by simp)
    · simp only [clipZ, if_neg h]
      have key : ∀ r, Rpulse_ClippedIn_0 (Tpulse_ClippedIn_0a a l.length (encG l) l.length (i + 1 : Nat)) = some r → Rpulse_ClippedIn_0 (Tpulse_ClippedIn_0a a l.length (encG l) l.length i) = some r := by
        intro r hr
        refine Rpulse_ClippedIn_0a_of _ _ _ _ _ ?_
        unfold Bpulse_ClippedIn_0a
        rw [bif_pos (by omega), bif_pos (by omega)]
        simp only [Int.toNat_natCast, encG_0, encG_1, hx, Option.map_some, intC_int, ge_iff_le, bindO_val, hc]
        rw [bif_neg h, w64_in (by omega)]
        exact hr
      by_cases hc : clipZ a (l.drop (i + 1)) (i + 1) = []
      · rw [if_pos hc] at ih ⊢
        exact key _ ih
      · rw [if_neg hc] at ih ⊢
        exact key _ ih

end Gv

/- What the program's ClippedIn gives. -/
namespace Gv
open Go
set_option maxRecDepth 100000

def ciE (l : List ZZ) (a : Int) : Int := both (blockE l) (rangeE a 1 1000)

theorem clippedIn_is (l : List ZZ) (a : Int) (hl : l.length ≤ 1000) (hz : blockE l = 0 → ∀ z ∈ l, Small 4611686018427387904 z) : Fpulse_ClippedIn [.list l.length (encG l), .int .i64 a] =
    some (if ciE l a ≠ 0 then ((0, []), ciE l a) else (((clipZ a l 0).length, encI (clipZ a l 0)), 0)) := by
  refine Fpulse_ClippedIn_of _ _ _ ?_
  unfold tpulse_ClippedIn
  simp only [blockError_is l (by omega), rangeError_is, firstError2_is, bindO_val, bif_ne]
  rw [show both (blockE l) (rangeE a 1 1000) = ciE l a from rfl]
  by_cases h : ciE l a = 0
  · rw [if_pos h, if_neg (by simpa using h)]
    have hb : blockE l = 0 := by
      unfold ciE both at h
      by_cases hb : blockE l = 0
      · exact hb
      · rw [if_pos hb] at h
        exact absurd h hb
    have hL := clip_loopa l a hl (hz hb) 0 (by omega)
    rw [List.drop_zero] at hL
    by_cases hc : clipZ a l 0 = []
    · rw [if_pos hc] at hL
      have := Lpulse_ClippedIn_0a_of hL
      rw [show ((0 : Nat) : Int) = 0 from rfl] at this
      rw [this, hc]
      rfl
    · rw [if_neg hc] at hL
      have := Lpulse_ClippedIn_0b_of hL
      rw [show ((0 : Nat) : Int) = 0 from rfl] at this
      rw [this]
      rfl
  · rw [if_neg h, if_pos h]

end Gv

/- A list of ints is the same as itself. -/
namespace Gv
open Go
set_option maxRecDepth 100000

theorem ints_loop (l : List Int) (hl : l.length < 4294967296) : ∀ i, i ≤ l.length →
    Rglidepathbase_Ints_0 (Tglidepathbase_Ints_0a l.length (encI l) l.length (encI l) i) = exO (Xglidepathbase_Ints_0b ()) := by
  refine up_ind _ ?_ ?_
  · refine Rglidepathbase_Ints_0a_of _ _ _ _ _ ?_
    unfold Bglidepathbase_Ints_0a
    rw [bif_neg (by omega)]
    rfl
  · intro i hi ih
    obtain ⟨x, hx, hd⟩ := get_drop hi
    refine Rglidepathbase_Ints_0a_of _ _ _ _ _ ?_
    unfold Bglidepathbase_Ints_0a
    rw [bif_pos (by omega), bif_pos (by omega)]
    simp only [Int.toNat_natCast, Nat.mul_one, encI_get, hx, Option.map_some, intC_int, bindO_val]
    rw [bif_pos (by omega), bif_ne, if_pos rfl, w64_in (by omega)]
    exact ih

theorem ints_refl (l : List Int) (hl : l.length < 4294967296) : Fglidepathbase_Ints [.list l.length (encI l), .list l.length (encI l)] = some true := by
  refine Fglidepathbase_Ints_of _ _ _ _ ?_
  unfold tglidepathbase_Ints
  rw [bif_ne, if_pos rfl]
  have := Lglidepathbase_Ints_0b_of (ints_loop l hl 0 (by omega))
  rw [show ((0 : Nat) : Int) = 0 from rfl] at this
  rw [this]
  rfl

end Gv
