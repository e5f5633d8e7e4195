/- Blind stretches: the program's and the specification's; the lead. -/
import Derived.Test.YtggnifebabjoiaaS11
import Derived.Test.YtggnifebabjoiaaS6
namespace Gv
open Go
set_option maxRecDepth 100000
instance (g : Int) (l : List Z3) (x : Int) : Decidable (far g l x) := by unfold far; infer_instance
def blindB (l : List Z3) (g x : Int) : Bool := decide (far g l x)
theorem bSize_is {x : Int} (h : -1000000 ≤ x ∧ x ≤ 1000000) : FbSize [.int .i64 x] = some (if -x > x then -x else x) := by
  refine FbSize_of _ ?_
  unfold tbSize
  rw [w64_in (by omega), show 0 - x = -x by omega]
theorem rIsB_loop (l : List Z3) (g x : Int) (hl : l.length < 1000) (hx : 0 ≤ x ∧ x ≤ 60000) (hb : ∀ z ∈ l, 0 ≤ z.1 ∧ z.1 ≤ 50000) : ∀ i, i ≤ l.length →
    RrIsB_0 (TrIsB_0a l.length (encT l) g x i) = exO (XLrIsB_0.fn (if far g (l.drop i) x then .inr () else .inl ())) := by
  refine up_ind _ ?_ ?_
  · refine RrIsB_0a_of _ _ _ _ _ ?_
    unfold BrIsB_0a
    rw [bif_neg (by omega), List.drop_length, if_pos (show far g [] x from fun z hz => by simp at hz)]
    rfl
  · intro i hi ih
    obtain ⟨e, he, hd⟩ := get_drop hi
    have hm := hb e (List.mem_of_getElem? he)
    refine RrIsB_0a_of _ _ _ _ _ ?_
    unfold BrIsB_0a
    rw [bif_pos (by omega), bif_pos (by omega)]
    simp only [Int.toNat_natCast, encT_0', he, Option.map_some, intC_int, bindO_val]
    rw [w64_in (n := e.1 - x) (by omega)]
    have hs : FbSize [.int .i64 (e.1 - x)] = _ := bSize_is (by omega)
    simp only [hs, bindO_val]
    rw [hd]
    by_cases hc : g < e.1 - x ∨ g < x - e.1
    · rw [bif_neg (by split <;> omega), w64_in (by omega)]
      have : far g (e :: l.drop (i + 1)) x ↔ far g (l.drop (i + 1)) x := by
        unfold far
        rw [List.forall_mem_cons]
        exact and_iff_right hc
      simp only [this]
      exact ih
    · rw [bif_pos (by split <;> omega), if_neg (fun h => hc (h e (by simp)))]
      rfl
theorem rIsB_is (l : List Z3) (g x : Int) (hl : l.length < 1000) (hx : 0 ≤ x ∧ x ≤ 60000) (hb : ∀ z ∈ l, 0 ≤ z.1 ∧ z.1 ≤ 50000) : FrIsB [.list l.length (encT l), .int .i64 g, .int .i64 x] = some (blindB l g x) := by
  refine FrIsB_of _ _ _ _ ?_
  unfold trIsB
  have h : LrIsB_0 (TrIsB_0a l.length (encT l) g x 0) = _ := lpO_of IrIsB_0 XIrIsB_0 (rIsB_loop l g x hl hx hb 0 (by omega))
  rw [h, List.drop_zero]
  unfold blindB
  by_cases hc : far g l x
  · simp [hc]
  · simp [hc]
theorem over_lastG (pre : List ZZ) (z : ZZ) (x : Int) : over (encG (pre ++ [z])) (pre.length * 2 + 1) [.int .i64 x] = encG (pre ++ [(z.1, x)]) := by
  unfold over
  have hl0 : (encG pre).length = pre.length * 2 := flat_len enc2 2 enc2_len pre
  have e : encG (pre ++ [z]) = (encG pre ++ [PV.int .i64 z.1]) ++ [.int .i64 z.2] := by simp [encG, enc2]
  have hl : (encG pre ++ [PV.int .i64 z.1]).length = pre.length * 2 + 1 := by simp [hl0]
  rw [e, List.take_left' hl, List.drop_of_length_le (by rw [List.length_append, hl]; simp)]
  simp [encG, enc2]
theorem overO_lastG (pre : List ZZ) (z : ZZ) (x : Int) : overO (encG (pre ++ [z])) (pre.length * 2 + 1) [.int .i64 x] = some (encG (pre ++ [(z.1, x)])) := by
  rw [overO_of (by rw [encG_len]; simp; omega), over_lastG]
theorem encG_snoc2 (l : List ZZ) (a b : Int) : encG l ++ [.int .i64 a, .int .i64 b] = encG (l ++ [(a, b)]) := by simp [encG, enc2]
def endBl (lo hi : Int) (out : List ZZ) : YrBl_0 := if out = [] then .inl (lo, hi) else .inr (out.length, lo, hi, out.length, encG out)
theorem rBl_loop (l : List Z3) (g lo hi : Int) (hl : l.length < 1000) (hlo : 0 ≤ lo) (hhi : hi ≤ 50000) (hb : ∀ z ∈ l, 0 ≤ z.1 ∧ z.1 ≤ 50000) : ∀ (k : Nat) (a : Int) (out : List ZZ), nf hi a = k → lo ≤ a → a ≤ 50001 → (out.length : Int) ≤ a →
    RrBl_0 (if out = [] then TrBl_0a l.length (encT l) g a lo hi else TrBl_0b l.length (encT l) g out.length a lo hi out.length (encG out)) = exO (XLrBl_0.fn (endBl lo hi (refF (blindB l g) k a out)))
  | 0, a, out, hk, h1, h2, h3 => by
    unfold nf at hk
    simp only [refF]
    by_cases ho : out = []
    · rw [if_pos ho, endBl, if_pos ho]
      refine RrBl_0a_of _ _ _ _ _ _ ?_
      unfold BrBl_0a
      rw [bif_neg (by omega)]
      rfl
    · rw [if_neg ho, endBl, if_neg ho]
      refine RrBl_0b_of _ _ _ _ _ _ _ _ _ ?_
      unfold BrBl_0b
      rw [bif_neg (by omega)]
      rfl
  | k + 1, a, out, hk, h1, h2, h3 => by
    have hk' : nf hi (a + 1) = k := by unfold nf at *; omega
    have ha : a ≤ hi := by unfold nf at hk; omega
    have hi1 := rIsB_is l g a hl (by omega) hb
    have ih := rBl_loop l g lo hi hl hlo hhi hb k (a + 1)
    have wa : w64 (a + 1) = a + 1 := w64_in (by omega)
    simp only [refF]
    by_cases ho : out = []
    · subst ho
      rw [if_pos rfl]
      refine RrBl_0a_of _ _ _ _ _ _ ?_
      unfold BrBl_0a
      rw [bif_pos ha]
      simp only [hi1, bindO_val, wa]
      cases hp : blindB l g a with
      | true =>
        simp only [cond_true, if_true]
        have := ih [(a, a)] hk' (by omega) (by omega) (by simp; omega)
        rw [if_neg (by simp)] at this
        exact this
      | false =>
        simp only [cond_false, Bool.false_eq_true, if_false]
        have := ih [] hk' (by omega) (by omega) (by simp; omega)
        rw [if_pos rfl] at this
        exact this
    · obtain ⟨pre, z, rfl⟩ := snocG ho
      rw [if_neg ho]
      have hlen : (pre ++ [z]).length = pre.length + 1 := by simp
      have a1 : w64 (((pre ++ [z]).length : Int) - 1) = (pre.length : Int) := by rw [w64_in (by omega)]; omega
      have c1 : (0 : Int) ≤ (pre.length : Int) ∧ (pre.length : Int) < ((pre ++ [z]).length : Int) := by omega
      have c2 : ((pre ++ [z]).length : Int) > 0 := by omega
      have c0 : True ∧ (pre ++ [z]).length + 1 ≤ big := ⟨trivial, by unfold big; omega⟩
      have hg : (encG (pre ++ [z]))[pre.length * 2 + 1]? = some (.int .i64 z.2) := by rw [encG_1]; simp
      have wb : w64 (a - 1) = a - 1 := w64_in (by omega)
      refine RrBl_0b_of _ _ _ _ _ _ _ _ _ ?_
      unfold BrBl_0b
      rw [bif_pos ha]
      simp only [hi1, bindO_val, wa]
      cases hp : blindB l g a with
      | true =>
        simp only [cond_true, if_true, bif_dec, c2, a1, c1, and_self, Int.toNat_natCast, hg, intC_int, bindO_val, wb, bif_eq]
        rw [addP_snoc]
        by_cases hz : z.2 = a - 1
        · simp only [hz, if_true]
          rw [overO_lastG]
          simp only [bindO_val]
          have := ih (pre ++ [(z.1, a)]) hk' (by omega) (by omega) (by simp at h3 ⊢; omega)
          rw [if_neg (by simp)] at this
          have e : (pre ++ [(z.1, a)]).length = (pre ++ [z]).length := by simp
          rw [e] at this
          exact this
        · simp only [hz, if_false, c0, and_self, if_true, encG_snoc2]
          have := ih (pre ++ [z] ++ [(a, a)]) hk' (by omega) (by omega) (by simp at h3 ⊢; omega)
          rw [if_neg (by simp)] at this
          have e : (pre ++ [z] ++ [(a, a)]).length = (pre ++ [z]).length + 1 := by simp
          rw [e] at this
          exact this
      | false =>
        simp only [cond_false, Bool.false_eq_true, if_false]
        have := ih (pre ++ [z]) hk' (by omega) (by omega) (by omega)
        rw [if_neg ho] at this
        exact this
def blV (l : List Z3) (lo hi g : Int) : List ZZ := refF (blindB l g) (nf hi lo) lo []
theorem rBl_is (l : List Z3) (lo hi g : Int) (hl : l.length < 1000) (hlo : 0 ≤ lo) (h : lo ≤ hi) (hhi : hi ≤ 50000) (hb : ∀ z ∈ l, 0 ≤ z.1 ∧ z.1 ≤ 50000) : FrBl [.list l.length (encT l), .agg [.int .i64 lo, .int .i64 hi], .int .i64 g] = some ((blV l lo hi g).length, encG (blV l lo hi g)) := by
  refine FrBl_of _ _ _ _ _ ?_
  unfold trBl
  have hlp := rBl_loop l g lo hi hl hlo hhi hb (nf hi lo) lo [] rfl (by omega) (by omega) (by simp; omega)
  rw [if_pos rfl] at hlp
  have h' : LrBl_0 (TrBl_0a l.length (encT l) g lo lo hi) = _ := lpO_of IrBl_0 XIrBl_0 hlp
  rw [h']
  show bindO (some (endBl lo hi (blV l lo hi g))) _ = _
  unfold endBl
  by_cases ho : blV l lo hi g = []
  · rw [if_pos ho, ho]
    rfl
  · rw [if_neg ho]
    simp
def endI (lo hi : Int) (q : Int × List ZZ) : YblindIn_0 := if q.2 = [] then .inl (q.1, lo, hi) else .inr (q.2.length, encG q.2, q.1, lo, hi, q.2.length)
theorem bI_loop (l : List Z3) (g lo hi : Int) (hl : l.length < 1000) (hg : 0 ≤ g ∧ g ≤ 50000) (_hh : 0 ≤ hi ∧ hi ≤ 50000) (hb : ∀ z ∈ l, 0 ≤ z.1 ∧ z.1 ≤ 50000) : ∀ i, i ≤ l.length → ∀ (next : Int) (out : List ZZ), out.length ≤ i →
    RblindIn_0 (if out = [] then TblindIn_0a g next l.length (encT l) l.length i lo hi else TblindIn_0b g out.length (encG out) next l.length (encT l) l.length i lo hi out.length) =
    exO (XLblindIn_0.fn (endI lo hi ((l.drop i).foldl (stepB g hi) (next, out)))) := by
  refine up_ind _ ?_ ?_
  · intro next out _
    rw [List.drop_length, List.foldl_nil]
    by_cases ho : out = []
    · rw [if_pos ho, endI, if_pos ho]
      refine RblindIn_0a_of _ _ _ _ _ _ _ _ ?_
      unfold BblindIn_0a
      rw [bif_neg (by omega)]
      rfl
    · rw [if_neg ho, endI, if_neg ho]
      refine RblindIn_0b_of _ _ _ _ _ _ _ _ _ _ _ ?_
      unfold BblindIn_0b
      rw [bif_neg (by omega)]
      rfl
  · intro i hi' ih next out hn
    obtain ⟨e, he, hd⟩ := get_drop hi'
    have hm := hb e (List.mem_of_getElem? he)
    rw [hd, List.foldl_cons]
    have w1 : w64 (e.1 - g) = e.1 - g := w64_in (by omega)
    have w2 : w64 (e.1 - g - 1) = e.1 - g - 1 := w64_in (by omega)
    have w3 : w64 (e.1 + g) = e.1 + g := w64_in (by omega)
    have w4 : w64 (e.1 + g + 1) = e.1 + g + 1 := w64_in (by omega)
    have w5 : w64 ((i : Int) + 1) = ((i + 1 : Nat) : Int) := by rw [w64_in (by omega)]; omega
    rw [show stepB g hi (next, out) e = (mxI next (e.1 + g + 1), if next > mnI hi (e.1 - g - 1) then out else out ++ [(next, mnI hi (e.1 - g - 1))]) from rfl]
    have em : (if e.1 - g - 1 < hi then e.1 - g - 1 else hi) = mnI hi (e.1 - g - 1) := rfl
    have ex : (if e.1 + g + 1 > next then e.1 + g + 1 else next) = mxI next (e.1 + g + 1) := rfl
    by_cases ho : out = []
    · subst ho
      rw [if_pos rfl]
      refine RblindIn_0a_of _ _ _ _ _ _ _ _ ?_
      unfold BblindIn_0a
      rw [bif_pos (by omega), bif_pos (by omega)]
      simp only [Int.toNat_natCast, encT_0, encT_1, encT_2, he, Option.map_some, intC_int, bindO_val, w1, w2, w3, w4, w5, em, ex]
      by_cases hc : next > mnI hi (e.1 - g - 1)
      · rw [bif_pos hc, if_pos hc]
        have := ih (mxI next (e.1 + g + 1)) [] (by simp)
        rw [if_pos rfl] at this
        exact this
      · rw [bif_neg hc, if_neg hc]
        have := ih (mxI next (e.1 + g + 1)) [(next, mnI hi (e.1 - g - 1))] (by simp)
        rw [if_neg (by simp)] at this
        exact this
    · rw [if_neg ho]
      refine RblindIn_0b_of _ _ _ _ _ _ _ _ _ _ _ ?_
      unfold BblindIn_0b
      rw [bif_pos (by omega), bif_pos (by omega)]
      simp only [Int.toNat_natCast, encT_0, encT_1, encT_2, he, Option.map_some, intC_int, bindO_val, w1, w2, w3, w4, w5, em, ex]
      by_cases hc : next > mnI hi (e.1 - g - 1)
      · rw [bif_pos hc, if_pos hc]
        have := ih (mxI next (e.1 + g + 1)) out (by omega)
        rw [if_neg ho] at this
        exact this
      · have c0 : True ∧ out.length + 1 ≤ big := ⟨trivial, by unfold big; omega⟩
        rw [bif_neg hc, if_neg hc, bif_pos c0]
        have := ih (mxI next (e.1 + g + 1)) (out ++ [(next, mnI hi (e.1 - g - 1))]) (by simp; omega)
        rw [if_neg (by simp), List.length_append] at this
        simp only [encG_snoc2]
        exact this
theorem gates_bd : ∀ {l : List Z3} {b : Int}, AscG l b → ∀ z ∈ l, 0 ≤ z.1 ∧ z.1 ≤ 50000
  | [], _, _, z, hz => by simp at hz
  | e :: l, b, h, z, hz => by
    obtain ⟨h1, h2, h3⟩ := h
    rcases List.mem_cons.1 hz with rfl | hz
    · have := gateE_ok h2; omega
    · exact gates_bd h3 z hz
def bIE (l : List Z3) (lo hi g : Int) : Int := first3 (gtsE l) (endE 0 50000 lo hi) (rangeE g 0 50000)
theorem blindIn_is (l : List Z3) (lo hi g : Int) (hl : l.length < 1000) : FblindIn [.list l.length (encT l), .agg [.int .i64 lo, .int .i64 hi], .int .i64 g] =
    some (if bIE l lo hi g = 0 then (((blV l lo hi g).length, encG (blV l lo hi g)), 0) else ((0, []), bIE l lo hi g)) := by
  refine FblindIn_of _ _ _ _ _ ?_
  unfold tblindIn
  simp only [pE_is l hl, eeA_is, lenE_is, fE3_is, bindO_val, bif_ne]
  show (if bIE l lo hi g = 0 then _ else _) = _
  by_cases h : bIE l lo hi g = 0
  · rw [if_pos h, if_pos h]
    obtain ⟨h1, h2, h3⟩ := first3_nil h
    obtain ⟨k1, ha⟩ := gtsE_ok h1
    have k2 := endE_ok h2
    have k3 := rangeE_ok h3
    have hb := gates_bd ha
    have hlp := bI_loop l g lo hi hl k3 (by omega) hb 0 (by omega) lo [] (by simp)
    rw [if_pos rfl, List.drop_zero] at hlp
    have h' : LblindIn_0 (TblindIn_0a g lo l.length (encT l) l.length 0 lo hi) = _ := lpO_of IblindIn_0 XIblindIn_0 hlp
    have hs : blV l lo hi g = finB hi (l.foldl (stepB g hi) (lo, [])) := gates_same (blindB l g) k3.1 l (-1) lo [] ha (fun x _ => by unfold blindB; exact decide_eq_true_iff) (fun pre z e => by simp at e)
    have hlen : ∀ (l : List Z3) (q : Int × List ZZ), (l.foldl (stepB g hi) q).2.length ≤ q.2.length + l.length := by
      intro l
      induction l with
      | nil => intro q; simp
      | cons e l ih =>
        intro q
        rw [List.foldl_cons]
        have h1 := ih (stepB g hi q e)
        have h2 : (stepB g hi q e).2.length ≤ q.2.length + 1 := by
          unfold stepB
          dsimp only
          split <;> simp
        simp only [List.length_cons]
        omega
    have hq := hlen l (lo, [])
    rw [h', hs]
    generalize l.foldl (stepB g hi) (lo, []) = q at *
    obtain ⟨n, out⟩ := q
    unfold endI finB
    dsimp only at hq ⊢
    by_cases ho : out = []
    · subst ho
      simp only [if_true, bindO_val]
      by_cases hc : n > hi
      · simp [hc]
      · simp [hc]
        rfl
    · rw [if_neg ho]
      have c0 : True ∧ out.length + 1 ≤ big := ⟨trivial, by unfold big; simp at hq; omega⟩
      simp only [bindO_val, Sum.elim]
      by_cases hc : n > hi
      · rw [bif_pos hc, if_pos hc]
      · rw [bif_neg hc, if_neg hc, bif_pos c0]
        simp only [encG_snoc2, List.length_append]
        rfl
  · rw [if_neg h, if_neg h]
    rfl
def ldE (d lo hi : Int) : Int := both (rangeE d 0 50000) (endE 1 1000 lo hi)
theorem leadOf_is (d lo hi : Int) : FleadOf [.int .i64 d, .agg [.int .i64 lo, .int .i64 hi]] = some (if ldE d lo hi = 0 then (d / hi, -(-d / lo), 0) else (0, 0, ldE d lo hi)) := by
  refine FleadOf_of _ _ _ ?_
  unfold tleadOf
  simp only [lenE_is, eeA_is, fE2_is, bindO_val, bif_ne]
  show (if ldE d lo hi = 0 then _ else _) = _
  by_cases h : ldE d lo hi = 0
  · rw [if_pos h, if_pos h]
    obtain ⟨h1, h2⟩ := both_nil h
    have k1 := rangeE_ok h1
    have k2 := endE_ok h2
    have hA : FrDn [.int .i64 d, .int .i64 hi] = _ := rDn_is (by omega) (by omega)
    have hB : FrUp [.int .i64 d, .int .i64 lo] = _ := rUp_is (by omega) (by omega)
    simp only [hA, hB, bindO_val]
  · rw [if_neg h, if_neg h]
    rfl
theorem rLdE_is (d lo hi : Int) : FrLdE [.int .i64 d, .agg [.int .i64 lo, .int .i64 hi]] = some (ldE d lo hi) := by
  refine FrLdE_of _ _ _ ?_
  unfold trLdE ldE both
  simp only [rAtE_is, bWi_is, bindO_val, bif_dec, bif_ne, rangeE_iff, endE_of]
  by_cases h1 : 0 ≤ d ∧ d ≤ 50000 <;> by_cases h2 : 1 ≤ lo ∧ lo ≤ 1000 <;> by_cases h3 : 1 ≤ hi ∧ hi ≤ 1000 <;> by_cases h4 : lo > hi <;> simp [h1, h2, h3, h4]
theorem rLead_is {d lo hi : Int} (h : ldE d lo hi = 0) : FrLead [.int .i64 d, .agg [.int .i64 lo, .int .i64 hi]] = some (d / hi, -(-d / lo)) := by
  refine FrLead_of _ _ _ ?_
  unfold trLead
  obtain ⟨h1, h2⟩ := both_nil h
  have k1 := rangeE_ok h1
  have k2 := endE_ok h2
  have hA : FbFloor [.int .i64 d, .int .i64 hi] = _ := bFloor_is (by omega) (by omega)
  have hB : FbCeil [.int .i64 d, .int .i64 lo] = _ := bCeil_is (by omega) (by omega)
  simp only [hA, hB, bindO_val]
theorem rSpE_is (lo hi : Int) : FrSpE [.agg [.int .i64 lo, .int .i64 hi]] = some (endE 0 50000 lo hi) := by
  refine FrSpE_of _ _ ?_
  unfold trSpE
  simp only [rAtE_is, bindO_val, bif_dec, bif_ne, rangeE_iff, endE_of]
  by_cases h1 : 0 ≤ lo ∧ lo ≤ 50000 <;> by_cases h2 : 0 ≤ hi ∧ hi ≤ 50000 <;> by_cases h4 : lo > hi <;> simp [h1, h2, h4]
theorem bRgs_loop (l : List ZZ) (hl : l.length < 1000000) : ∀ i, i ≤ l.length → RbRgs_0 (TbRgs_0a l.length (encG l) l.length (encG l) i) = exO (XLbRgs_0.fn (.inr ())) := by
  refine up_ind _ ?_ ?_
  · refine RbRgs_0a_of _ _ _ _ _ ?_
    unfold BbRgs_0a
    rw [bif_neg (by omega)]
    rfl
  · intro i hi ih
    obtain ⟨e, he, _⟩ := get_drop hi
    refine RbRgs_0a_of _ _ _ _ _ ?_
    unfold BbRgs_0a
    rw [bif_pos (by omega), bif_pos (by omega)]
    simp only [Int.toNat_natCast, encG_0, encG_1, he, Option.map_some, intC_int, bindO_val]
    rw [bif_pos (by omega), w64_in (by omega)]
    simp only [beq_self_eq_true, Bool.and_self, Bool.not_true, cond_false]
    exact ih
theorem bRgs_is (l : List ZZ) (hl : l.length < 1000000) : FbRgs [.list l.length (encG l), .list l.length (encG l)] = some true := by
  refine FbRgs_of _ _ _ _ ?_
  unfold tbRgs
  have h' : LbRgs_0 (TbRgs_0a l.length (encG l) l.length (encG l) 0) = _ := lpO_of IbRgs_0 XIbRgs_0 (bRgs_loop l hl 0 (by omega))
  rw [h']
  simp
instance (l : List ZZ) (x : Int) : Decidable (inG l x) := by unfold inG; infer_instance
theorem lIn_loop (l : List ZZ) (x : Int) (hl : l.length < 1000000) : ∀ i, i ≤ l.length → RlIn_0 (TlIn_0a l.length (encG l) x i) = exO (XLlIn_0.fn (if inG (l.drop i) x then .inl () else .inr ())) := by
  refine up_ind _ ?_ ?_
  · refine RlIn_0a_of _ _ _ _ ?_
    unfold BlIn_0a
    rw [bif_neg (by omega), List.drop_length, if_neg (fun ⟨r, hr, _⟩ => by simp at hr)]
    rfl
  · intro i hi ih
    obtain ⟨e, he, hd⟩ := get_drop hi
    refine RlIn_0a_of _ _ _ _ ?_
    unfold BlIn_0a
    have c1 : (0 : Int) ≤ (i : Int) ∧ (i : Int) < l.length := by omega
    rw [bif_pos (by omega)]
    have g0 : (encG l)[i * 2 + 0]? = some (.int .i64 e.1) := by rw [Nat.add_zero, encG_0, he]; rfl
    simp only [bif_dec, c1, and_self, if_true, Int.toNat_natCast, g0, encG_1, he, Option.map_some, intC_int, bindO_val, bWi_is]
    rw [hd, w64_in (by omega)]
    by_cases hc : e.1 ≤ x ∧ x ≤ e.2
    · rw [if_pos hc, if_pos ⟨e, by simp, hc⟩]
      rfl
    · have : inG (e :: l.drop (i + 1)) x ↔ inG (l.drop (i + 1)) x := by
        unfold inG
        constructor
        · rintro ⟨r, hr, h⟩
          rcases List.mem_cons.1 hr with rfl | hr
          · exact absurd h hc
          · exact ⟨r, hr, h⟩
        · rintro ⟨r, hr, h⟩
          exact ⟨r, by simp [hr], h⟩
      rw [if_neg hc]
      simp only [this]
      exact ih
theorem lIn_is (l : List ZZ) (x : Int) (hl : l.length < 1000000) : FlIn [.list l.length (encG l), .int .i64 x] = some (decide (inG l x)) := by
  refine FlIn_of _ _ _ ?_
  unfold tlIn
  have h' : LlIn_0 (TlIn_0a l.length (encG l) x 0) = _ := lpO_of IlIn_0 XIlIn_0 (lIn_loop l x hl 0 (by omega))
  rw [h', List.drop_zero]
  by_cases hc : inG l x
  · simp [hc]
  · simp [hc]
end Gv
