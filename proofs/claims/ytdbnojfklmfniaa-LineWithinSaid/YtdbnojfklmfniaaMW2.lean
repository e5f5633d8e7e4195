/- Where estimates lie: the law. -/
import Derived.Test.YtdbnojfklmfniaaMC3
import Derived.Test.YtdbnojfklmfniaaM11
namespace Gv
open Go
set_option maxRecDepth 100000

theorem lo_eo {l : List Int} {f : Int × Int} (h : Eo l f) : loQ f.1 f.2 := ⟨h.den, h.gcd⟩
theorem small_is {n d : Int} (h : 1 ≤ d ∧ d ≤ 1000000000) (h2 : -1000000000 ≤ n ∧ n ≤ 1000000000) : FBsIsSmall [.agg [.int .i64 n, .int .i64 d]] = some true := by
  rw [refIsSmall_is, decide_eq_true (by unfold laQ; omega)]
theorem lowest_tt {n d : Int} (h : loQ n d) (hd : d ≤ 1000000000) : FBsIsLowest [.agg [.int .i64 n, .int .i64 d]] = some true := by
  have := h.1
  rw [refIsLowest_is (by unfold I64; omega), decide_eq_true h]

/-! ### Times and mirror -/

def tW0 (l : List Int) (b : Int) (i : Nat) : Q :=
  if i = 0 then TLwLineWithin_0a l.length (encI l) b
  else TLwLineWithin_0b l.length (encI l) b i (encI ((tmL b l).take i)) i (encI (l.reverse.take i)) i i i
theorem wi0 {l : List Int} (sp : Sp l) {b : Int} (hb : 1 ≤ b ∧ b ≤ 5) : ∀ i, i ≤ l.length →
    RLwLineWithin_0 (tW0 l b i) = exO (XLwLineWithin_0b (l.length, encI l, l.length, encI (tmL b l), l.length, encI l.reverse, l.length, l.length)) := by
  have hl := sp.len; have hp := sp.pos
  refine up_ind _ ?_ ?_
  · unfold tW0
    rw [if_neg (by omega)]
    refine RLwLineWithin_0b_of _ _ _ _ _ _ _ _ _ _ ?_
    unfold BLwLineWithin_0b
    rw [bif_neg (by omega), List.take_of_length_le (by simp), List.take_of_length_le (by simp)]
    rfl
  · intro i hi ih
    have m := sp.sm.getD (by omega) i
    have pb := mul_in (a := b) (b := l.getD i 0) (p := 5) (q := 10000) (by omega) (by omega) (by omega)
    have g0 := get_getD (l := l) (i := i) 0 hi
    have g1 := get_getD (l := l) (i := l.length - 1 - i) 0 (by omega)
    have w1 : w64 (w64 ((l.length : Int) - 1) - (i : Int)) = ((l.length - 1 - i : Nat) : Int) := by
      rw [w64_in (n := (l.length : Int) - 1) (by omega), w64_in (by omega)]; omega
    have t1 : encI ((tmL b l).take i) ++ [.int .i64 (b * l.getD i 0)] = encI ((tmL b l).take (i + 1)) := by
      rw [encI_snoc, List.take_add_one, get_getD (l := tmL b l) (i := i) 0 (by simpa using hi), tm_getD]
      rfl
    have t2 : encI (l.reverse.take i) ++ [.int .i64 (l.getD (l.length - 1 - i) 0)] = encI (l.reverse.take (i + 1)) := by
      rw [encI_snoc, List.take_add_one, get_getD (l := l.reverse) (i := i) 0 (by simpa using hi), rev_getD l hi]
      rfl
    unfold tW0 at ih ⊢
    rw [if_neg (by omega)] at ih
    by_cases hz : i = 0
    · subst hz
      rw [if_pos rfl]
      refine RLwLineWithin_0a_of _ _ _ ?_
      unfold BLwLineWithin_0a
      rw [show ((0 : Nat) : Int) = 0 from rfl] at w1
      rw [bif_pos (by omega), bif_pos (by omega)]
      simp only [w1, encI_get, g0, g1, Option.map_some, intC_int, bindO_val, Int.toNat_natCast, Nat.mul_one]
      rw [bif_pos (by omega), w64_in (n := b * l.getD 0 0) (by omega)]
      rw [show [PV.int IntKind.i64 (b * l.getD 0 0)] = encI ((tmL b l).take (0 + 1)) by rw [← t1]; rfl, show [PV.int IntKind.i64 (l.getD (l.length - 1 - 0) 0)] = encI (l.reverse.take (0 + 1)) by rw [← t2]; rfl]
      exact ih
    · rw [if_neg hz]
      refine RLwLineWithin_0b_of _ _ _ _ _ _ _ _ _ _ ?_
      unfold BLwLineWithin_0b
      rw [bif_pos (by omega), bif_pos (by omega)]
      simp only [w1, encI_get, g0, g1, Option.map_some, intC_int, bindO_val, Int.toNat_natCast, Nat.mul_one]
      rw [bif_pos ⟨trivial, by simp only [big]; omega⟩, bif_pos (by omega), bif_pos ⟨trivial, by simp only [big]; omega⟩, w64_in (n := b * l.getD i 0) (by omega), t1, t2, w64_in (by omega)]
      exact ih

theorem wi57 {l : List Int} (sp : Sp l) (c3 c5 : List PV) :
    RLwLineWithin_1000057 (TLwLineWithin_1000057b l.length (encI l) l.length c3 l.length c5 (pkL l : Int) 0 l.length l.length) =
      exO (XLwLineWithin_1000057c (l.length, encI l, l.length, c3, l.length, c5, (pkL l : Int), l.length, l.length)) := by
  have hl := sp.len
  obtain ⟨_, p1, _, _⟩ := pkL_spec sp.pos
  refine RLwLineWithin_1000057b_of _ _ _ _ _ _ _ _ _ _ ?_
  unfold BLwLineWithin_1000057b
  rw [w64_in (by omega)]
  simp only [bif_ne, if_true, within_is, bindO_val, rangeE_in (x := (pkL l : Int)) (a := 0) (b := (l.length : Int) - 1) (by omega), decide_true, cond_true]
  rfl
theorem wi35 {l : List Int} (sp : Sp l) (k kind : Int) (c3 c5 : List PV) :
    RLwLineWithin_1000035 (TLwLineWithin_1000035b l.length (encI l) l.length c3 l.length c5 k kind 0 (est l kind).1 (est l kind).2 l.length l.length) =
      exO (XLwLineWithin_1000035c (l.length, encI l, l.length, c3, l.length, c5, k, kind, (est l kind).1, (est l kind).2, l.length, l.length)) := by
  have hl := sp.len; have hp := sp.pos
  have o := est_ok sp kind
  have o1 := o.den; have o2 := o.num; have o3 := o.top; have o4 := o.nb; have o5 := o.db
  have pm := mul_in (a := (l.length : Int) - 1) (b := (est l kind).2) (p := 16) (q := 160000) (by omega) (by omega) (by omega)
  refine RLwLineWithin_1000035b_of _ _ _ _ _ _ _ _ _ _ _ _ _ ?_
  unfold BLwLineWithin_1000035b
  rw [w64_in (n := (l.length : Int) - 1) (by omega)]
  have cm := cmp_is (f := est l kind) (g := ((l.length : Int) - 1, 1)) (w64_in (by simp only []; omega)) (w64_in (by simp only []; omega))
  have cl : cmpF (est l kind) ((l.length : Int) - 1, 1) ≤ 0 := by
    unfold cmpF
    simp only [Int.mul_one]
    by_cases h : (est l kind).1 < ((l.length : Int) - 1) * (est l kind).2
    · rw [if_pos h]; omega
    · rw [if_neg h, if_neg (by omega)]; omega
  simp only [bif_ne, if_true, lowest_tt (lo_eo o) (show (est l kind).2 ≤ 1000000000 by omega), small_is (n := (est l kind).1) (d := (est l kind).2) (by omega) (by omega), bindO_val, cond_true, refWhole_is, cm]
  rw [bif_neg (by omega), bif_neg (by omega)]
  rfl
theorem wi28 {l : List Int} (sp : Sp l) (kind : Int) (c3 c5 : List PV) :
    RLwLineWithin_1000028 (TLwLineWithin_1000028b l.length (encI l) l.length c3 l.length c5 (pkL l : Int) kind (est l kind).1 (est l kind).2 l.length l.length) =
      exO (XLwLineWithin_1000028b (l.length, encI l, l.length, c3, l.length, c5, (pkL l : Int), kind, (est l kind).1, (est l kind).2, l.length, l.length)) := by
  have hl := sp.len; have hp := sp.pos
  have o := est_ok sp kind
  have o1 := o.den; have o2 := o.num; have o4 := o.nb; have o5 := o.db
  obtain ⟨_, p1, _, _⟩ := pkL_spec hp
  refine RLwLineWithin_1000028b_of _ _ _ _ _ _ _ _ _ _ _ _ ?_
  unfold BLwLineWithin_1000028b
  rw [bif_eq]
  by_cases hk : kind = 2
  · subst hk
    rw [if_pos rfl]
    simp only [refSum_is l (by omega) sp.sm, bindO_val]
    by_cases hs : sumL l > 0
    · rw [bif_pos hs]
      have hm : maxL l ≠ 0 := fun q => by have := (sum_zero sp).2 q; omega
      have e : est l 2 = estPar l := by unfold est; rw [if_neg hm, if_neg (by omega), if_pos rfl]
      obtain ⟨h1, h2⟩ := par_half sp
      rw [← e] at h1 h2
      have pm := mul_in (a := (pkL l : Int)) (b := (est l 2).2) (p := 16) (q := 160000) (by omega) (by omega) (by omega)
      rw [w64_in (n := (pkL l : Int) * (est l 2).2) (by omega), w64_in (n := (est l 2).1 - (pkL l : Int) * (est l 2).2) (by omega), w64_in (n := 2 * ((est l 2).1 - (pkL l : Int) * (est l 2).2)) (by omega)]
      simp only [size_is (c := 2 * ((est l 2).1 - (pkL l : Int) * (est l 2).2)) (by unfold Bd; omega), bindO_val]
      rw [bif_neg (by omega)]
      rfl
    · rw [bif_neg hs]
      rfl
  · rw [if_neg hk]
    rfl
theorem est_of {l : List Int} (sp : Sp l) {kind : Int} (hk : rangeE kind 0 3 = 0) : Fline_Estimated [.list l.length (encI l), .int .i64 kind] = some ((est l kind).1, ((est l kind).2, 0)) := by
  rw [estimated_is l kind (by have := sp.len; omega)]
  have e : estE l kind = 0 := by unfold estE; rw [sp_in sp, if_pos hk]; rfl
  unfold estR
  rw [if_neg (by rw [e]; exact fun h => h rfl)]
  rfl
theorem wi21 {l : List Int} (sp : Sp l) {b : Int} (hb : 1 ≤ b ∧ b ≤ 5) {kind : Int} (hk : rangeE kind 0 3 = 0) (k : Int) (c5 : List PV) :
    RLwLineWithin_1000021 (TLwLineWithin_1000021b l.length (encI l) l.length (encI (tmL b l)) l.length c5 k kind (est l kind).1 (est l kind).2 l.length l.length) =
      exO (XLwLineWithin_1000021c (l.length, encI l, l.length, encI (tmL b l), l.length, c5, k, kind, (est l kind).1, (est l kind).2, l.length, l.length)) := by
  have hl := sp.len
  refine RLwLineWithin_1000021b_of _ _ _ _ _ _ _ _ _ _ _ _ ?_
  unfold BLwLineWithin_1000021b
  have e1 := refSpErr_is (tmL b l)
  rw [tm_len] at e1
  have e2 := lcopyI_is (tmL b l) (by rw [tm_len]; omega)
  rw [tm_len] at e2
  simp only [e1, bindO_val, bif_eq]
  by_cases h : spE (tmL b l) = 0
  · have s2 := sp_ok h
    have e3 := est_of s2 hk
    rw [tm_len, tm_est (by omega) sp s2] at e3
    simp only [h, if_true, e2, e3, bindO_val, bif_ne, eq2, Bool.not_true, cond_false]
    rfl
  · simp only [h, if_false]
    rfl
theorem wi40 {l : List Int} (sp : Sp l) {b : Int} (hb : 1 ≤ b ∧ b ≤ 5) {kind : Int} (hk : rangeE kind 0 3 = 0) :
    RLwLineWithin_1000040 (TLwLineWithin_1000040b l.length (encI l) l.length (encI (tmL b l)) l.length (encI l.reverse) (pkL l : Int) kind l.length l.length) =
      exO (XLwLineWithin_1000040c (l.length, encI l, l.length, encI (tmL b l), l.length, encI l.reverse, (pkL l : Int), kind, l.length, l.length)) := by
  have hl := sp.len; have hp := sp.pos
  refine RLwLineWithin_1000040b_of _ _ _ _ _ _ _ _ _ _ ?_
  unfold BLwLineWithin_1000040b
  have l35 := LLwLineWithin_1000035c_of (wi35 sp (pkL l : Int) kind (encI (tmL b l)) (encI l.reverse))
  have l28 := LLwLineWithin_1000028b_of (wi28 sp kind (encI (tmL b l)) (encI l.reverse))
  have l21 := LLwLineWithin_1000021c_of (wi21 sp hb hk (pkL l : Int) (encI l.reverse))
  simp only [lcopyI_is l (by omega), est_of sp hk, bindO_val, l35, l28, l21, Sum.elim_inl, Sum.elim_inr, bif_eq]
  by_cases h1 : kind = 1
  · subst h1
    simp only [if_true, refSum_is l (by omega) sp.sm, bindO_val]
    by_cases hs : sumL l > 0
    · have hm : maxL l ≠ 0 := fun q => by have := (sum_zero sp).2 q; omega
      have cr := lcopyI_is l.reverse (by rw [List.length_reverse]; omega)
      have er := est_of (rev_sp sp) hk
      rw [List.length_reverse] at cr er
      rw [rev_cen sp hm] at er
      have o := est_ok sp 1
      have o1 := o.den; have o2 := o.num; have o4 := o.nb; have o5 := o.db
      have pm := mul_in (a := (l.length : Int) - 1) (b := (est l 1).2) (p := 16) (q := 160000) (by omega) (by omega) (by omega)
      rw [bif_pos hs]
      simp only [cr, er, bindO_val, bif_ne, if_true]
      rw [w64_in (n := (l.length : Int) - 1) (by omega), w64_in (n := ((l.length : Int) - 1) * (est l 1).2) (by omega), w64_in (n := ((l.length : Int) - 1) * (est l 1).2 - (est l 1).1) (by omega)]
      simp only [refLowest_is (n := ((l.length : Int) - 1) * (est l 1).2 - (est l 1).1) (d := (est l 1).2) (by unfold Bd; omega) (by unfold Bd; omega) o1, bindO_val, eq2, Bool.not_true, cond_false]
      rfl
    · rw [bif_neg hs]
      rfl
  · simp only [h1, if_false]
    rfl
theorem wi2 {l : List Int} (sp : Sp l) {b : Int} (hb : 1 ≤ b ∧ b ≤ 5) : ∀ k : Nat, k ≤ 4 →
    RLwLineWithin_2 (TLwLineWithin_2b l.length (encI l) l.length (encI (tmL b l)) l.length (encI l.reverse) (pkL l : Int) k l.length l.length) = exO (XLwLineWithin_2c (l.length, l.length)) := by
  refine up_ind _ ?_ ?_
  · refine RLwLineWithin_2b_of _ _ _ _ _ _ _ _ _ _ ?_
    unfold BLwLineWithin_2b
    rw [bif_neg (by omega)]
    rfl
  · intro k hk ih
    refine RLwLineWithin_2b_of _ _ _ _ _ _ _ _ _ _ ?_
    unfold BLwLineWithin_2b
    rw [bif_pos (by omega), LLwLineWithin_1000040c_of (wi40 sp hb (kind := (k : Int)) (rangeE_in (by omega)))]
    simp only [bindO_val, Sum.elim_inr]
    rw [w64_in (by omega)]
    exact ih

def q81 (l : List Int) (b : Int) : Unit ⊕ (Nat × List PV × Int) := if spE l = 0 ∧ rangeE b 1 5 = 0 then .inr (l.length, encI l, b) else .inl ()
theorem wi81 (l : List Int) (b : Int) : RLwLineWithin_1000081 (TLwLineWithin_1000081a l.length (encI l) b) = exO (XLLwLineWithin_1000081.fn (q81 l b)) := by
  refine RLwLineWithin_1000081a_of _ _ _ ?_
  unfold BLwLineWithin_1000081a q81
  simp only [refSpErr_is, within_is, bindO_val, bif_ne, bif_dec]
  by_cases h1 : spE l = 0
  · by_cases h2 : rangeE b 1 5 = 0
    · simp only [h1, h2, if_true, and_self]
      rfl
    · simp only [h1, h2, if_true, if_false, and_false]
      rfl
  · simp only [h1, if_false, false_and]
    rfl
theorem withinLaw (l : List Int) (b : Int) : FLwLineWithin [.list l.length (encI l), .int .i64 b] = some true := by
  refine FLwLineWithin_of _ _ _ ?_
  unfold tLwLineWithin
  have q := lpO_of ILwLineWithin_1000081 XILwLineWithin_1000081 (wi81 l b)
  have q : LLwLineWithin_1000081 (TLwLineWithin_1000081a l.length (encI l) b) = _ := q
  simp only [awakeL_is, bindO_val, cond_true, q]
  unfold q81
  by_cases h : spE l = 0 ∧ rangeE b 1 5 = 0
  · rw [if_pos h]
    have sp := sp_ok h.1
    have hb := rangeE_ok h.2
    have hl := sp.len
    have pk : pkR l = ((pkL l : Int), 0) := by unfold pkR; rw [if_neg (by rw [h.1]; exact fun h => h rfl)]
    have l0 := LLwLineWithin_0b_of (wi0 sp hb 0 (by omega))
    rw [show tW0 l b 0 = _ from if_pos rfl] at l0
    have l57 := LLwLineWithin_1000057c_of (wi57 sp (encI (tmL b l)) (encI l.reverse))
    have l2 := LLwLineWithin_2c_of (wi2 sp hb 0 (by omega))
    rw [show ((0 : Nat) : Int) = 0 from rfl] at l2
    simp only [Sum.elim_inr, Sum.elim_inl, l0, bindO_val, lcopyI_is l (by omega), peakOf_is l (by omega), pk, l57, l2]
  · rw [if_neg h]
    rfl
end Gv
