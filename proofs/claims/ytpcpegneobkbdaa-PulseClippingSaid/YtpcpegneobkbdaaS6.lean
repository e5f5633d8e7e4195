/- Gates: their errors, by the program and by the specification. -/
import Derived.Test.YtpcpegneobkbdaaS2
import Derived.Test.YtpcpegneobkbdaaP3
namespace Gv
open Go
set_option maxRecDepth 100000

def first3 (a b c : Int) : Int := if a ≠ 0 then a else if b ≠ 0 then b else c
theorem firstError3_is (a b c : Int) : Fpulse_firstError_3 [.list 3 [.int .i64 a, .int .i64 b, .int .i64 c]] = some (first3 a b c) :=
  Fpulse_firstError_3_of a b c (by
    unfold tpulse_firstError_3 first3
    simp only [bif_ne]
    by_cases h1 : a = 0 <;> by_cases h2 : b = 0 <;> by_cases h3 : c = 0 <;> simp [h1, h2, h3])
def first4 (a b c d : Int) : Int := if a ≠ 0 then a else if b ≠ 0 then b else if c ≠ 0 then c else d
theorem firstError4_is (a b c d : Int) : Fpulse_firstError_4 [.list 4 [.int .i64 a, .int .i64 b, .int .i64 c, .int .i64 d]] = some (first4 a b c d) :=
  Fpulse_firstError_4_of a b c d (by
    unfold tpulse_firstError_4 first4
    simp only [bif_ne]
    by_cases h1 : a = 0 <;> by_cases h2 : b = 0 <;> by_cases h3 : c = 0 <;> by_cases h4 : d = 0 <;> simp [h1, h2, h3, h4])

theorem number_is (x lo hi : Int) : Fpulse_numberError_1 [.int .i64 x, .imm [.int .i64 lo] 0, .imm [.int .i64 hi] 0] = some (rangeE x lo hi) :=
  Fpulse_numberError_1_of x lo hi (by
    unfold tpulse_numberError_1
    simp only [rangeError_is, bindO_val])

theorem itemI_loop (lo hi : Int) (l : List Int) (hl : l.length < 4294967296) : ∀ i, i ≤ l.length →
    Rpulse_itemError_int__0 (Tpulse_itemError_int__0a lo hi l.length (encI l) l.length i) = exO (XLpulse_itemError_int__0.fn (sumE (findE (fun x => rangeE x lo hi) (l.drop i) i))) := by
  refine up_ind _ ?_ ?_
  · refine Rpulse_itemError_int__0a_of _ _ _ _ _ _ ?_
    unfold Bpulse_itemError_int__0a
    rw [bif_neg (by omega), List.drop_length]
    rfl
  · intro i hi' ih
    refine Rpulse_itemError_int__0a_of _ _ _ _ _ _ ?_
    unfold Bpulse_itemError_int__0a
    obtain ⟨x, hx, hd⟩ := get_drop hi'
    rw [bif_pos (by omega), bif_pos (by omega)]
    simp only [Int.toNat_natCast, Nat.mul_one, encI_get, hx, Option.map_some, intC_int, bindO_val, number_is]
    rw [hd, w64_in (by omega), bif_ne]
    by_cases he : rangeE x lo hi = 0
    · rw [if_pos he]
      simp only [findE, he, ne_eq, not_true_eq_false, if_false]
      exact ih
    · rw [if_neg he]
      simp only [findE, ne_eq, he, not_false_eq_true, if_true]
      rfl

def listIE (m lo hi : Int) (l : List Int) : Int × Int := if l.length = 0 then (0, 10) else if m < l.length then (0, 8) else (findE (fun x => rangeE x lo hi) l 0).getD (0, 0)

theorem itemI_is (lo hi : Int) (l : List Int) (hl : l.length < 4294967296) :
    Fpulse_itemError_int_ [.list l.length (encI l), .fn 140 [.imm [.int .i64 lo] 0, .imm [.int .i64 hi] 0]] = some ((findE (fun x => rangeE x lo hi) l 0).getD (0, 0)) := by
  refine Fpulse_itemError_int__of _ _ _ _ ?_
  unfold tpulse_itemError_int_
  have := lpO_of Ipulse_itemError_int__0 XIpulse_itemError_int__0 (itemI_loop lo hi l hl 0 (by omega))
  have this : Lpulse_itemError_int__0 (Tpulse_itemError_int__0a lo hi l.length (encI l) l.length 0) = _ := this
  rw [this]
  simp only [bindO_val, List.drop_zero]
  cases findE (fun x => rangeE x lo hi) l 0 <;> rfl

theorem listI_is (m lo hi : Int) (l : List Int) (hl : l.length < 4294967296) :
    Fpulse_listError_int_ [.list l.length (encI l), .int .i64 m, .fn 140 [.imm [.int .i64 lo] 0, .imm [.int .i64 hi] 0]] = some (listIE m lo hi l) := by
  refine Fpulse_listError_int__of _ _ _ _ _ ?_
  unfold tpulse_listError_int_ listIE
  simp only [firstError2_is, bindO_val, itemI_is lo hi l hl, bif_eq, bif_ne, both]
  by_cases h1 : l.length = 0
  · simp [h1]
  · by_cases h2 : m < l.length <;> simp [h1, h2]

/-- Gates, and their error. -/
structure Gt where
  first : Int
  hop : Int
  count : Int
  ws : List Int
def encGt (g : Gt) : PV := .agg [.int .i64 g.first, .int .i64 g.hop, .int .i64 g.count, .list g.ws.length (encI g.ws)]
def gatesP (g : Gt) : Int × Int :=
  if first3 (rangeE g.first 0 48) (rangeE g.hop 1 48) (rangeE g.count 1 20) ≠ 0 then (0, first3 (rangeE g.first 0 48) (rangeE g.hop 1 48) (rangeE g.count 1 20)) else listIE 16 0 100 g.ws

theorem checkGates_is (g : Gt) (hl : g.ws.length < 4294967296) : Fpulse_CheckGates [encGt g] = some (gatesP g) := by
  refine Fpulse_CheckGates_of _ _ _ _ _ ?_
  unfold tpulse_CheckGates gatesP
  simp only [rangeError_is, firstError3_is, bindO_val, bif_ne, listI_is 16 0 100 g.ws hl]
  by_cases h : first3 (rangeE g.first 0 48) (rangeE g.hop 1 48) (rangeE g.count 1 20) = 0
  · rw [if_pos h, if_neg (by simpa using h)]
  · rw [if_neg h, if_pos h]

def gatesE (g : Gt) : Int := (gatesP g).2
theorem gatesError_is (g : Gt) (hl : g.ws.length < 4294967296) : Fpulse_gatesError [encGt g] = some (gatesE g) := by
  refine Fpulse_gatesError_of _ _ _ _ _ ?_
  unfold tpulse_gatesError
  have := checkGates_is g hl
  unfold encGt at this
  simp only [this, bindO_val]
  rfl

theorem copyI_is (l : List Int) (hl : l.length ≤ 1000000) : Fglidepathbase_CopyInts [.list l.length (encI l)] = some (l.length, encI l) := by
  refine Fglidepathbase_CopyInts_of _ _ ?_
  unfold tglidepathbase_CopyInts
  by_cases h : l.length = 0
  · rw [bif_pos h]
    have := List.eq_nil_of_length_eq_zero h
    subst this
    rfl
  · rw [bif_neg h, bif_pos (by simp), bif_pos (by simp only [big]; omega), bif_pos rfl]
    simp

theorem copyGt_is (g : Gt) (hl : g.ws.length ≤ 1000000) : Fglidepathref01_Copy [encGt g] = some (g.first, g.hop, g.count, g.ws.length, encI g.ws) := by
  refine Fglidepathref01_Copy_of _ _ _ _ _ ?_
  unfold tglidepathref01_Copy
  simp only [copyI_is g.ws hl, bindO_val]

theorem fewGt_is (g : Gt) : Fglidepathlaw01_few [encGt g] = some (decide (g.ws.length ≤ 18)) := by
  refine Fglidepathlaw01_few_of _ _ _ _ _ ?_
  unfold tglidepathlaw01_few
  by_cases h : g.ws.length ≤ 18
  · rw [bif_pos (by omega)]; simp [h]
  · rw [bif_neg (by omega)]; simp [h]

def gateE (g : Gt) (k : Int) : Int := if k < 0 ∨ g.count ≤ k then 6 else 0
theorem gateError_is (g : Gt) (k : Int) : Fpulse_gateError [encGt g, .int .i64 k] = some (gateE g k) := by
  refine Fpulse_gateError_of _ _ _ _ _ _ ?_
  unfold tpulse_gateError gateE
  by_cases h1 : k < 0
  · rw [bif_pos h1, if_pos (.inl h1)]
  · by_cases h2 : g.count ≤ k
    · rw [bif_neg h1, bif_pos (by omega), if_pos (.inr h2)]
    · rw [bif_neg h1, bif_neg (by omega), if_neg (by omega)]

theorem firstIndex_is (g : Gt) (k : Int) : Fpulse_firstIndex [encGt g, .int .i64 k] = some (w64 (g.first + w64 (k * g.hop))) := Fpulse_firstIndex_of _ _ _ _ _ _ rfl

theorem refGateErr_is (g : Gt) (k : Int) (hc : -4611686018427387904 ≤ g.count ∧ g.count ≤ 4611686018427387904) : Fglidepathref01_GateErr [encGt g, .int .i64 k] = some (gateE g k) := by
  refine Fglidepathref01_GateErr_of _ _ _ _ _ _ ?_
  unfold tglidepathref01_GateErr gateE
  rw [w64_in (by omega)]
  simp only [within_is, bindO_val]
  by_cases h : 0 ≤ k ∧ k ≤ g.count - 1
  · rw [bif_pos h, if_neg (by omega)]
  · rw [bif_neg h, if_pos (by omega)]
end Gv
