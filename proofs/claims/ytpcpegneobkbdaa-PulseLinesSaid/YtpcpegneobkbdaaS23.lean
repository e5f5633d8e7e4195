/- Lines, powers and spectra, by the program and by the specification. -/
import Derived.Test.YtpcpegneobkbdaaS22
namespace Gv
open Go
set_option maxRecDepth 100000

theorem power4_is (a b c d : ZZ) : F_glidepath_pulse_lines__powers [.agg [.int .i64 a.1, .int .i64 a.2, .int .i64 b.1, .int .i64 b.2, .int .i64 c.1, .int .i64 c.2, .int .i64 d.1, .int .i64 d.2]] = some (normZ a, normZ b, normZ c, normZ d) := by
  refine F_glidepath_pulse_lines__powers_of _ _ _ _ _ _ _ _ ?_
  unfold t_glidepath_pulse_lines__powers
  simp only [power_is a, power_is b, power_is c, power_is d, bindO_val]

/-- Powers of the four lines. -/
def powZ (l : List ZZ) : Int × Int × Int × Int := (normZ (lineX 0 l 0), normZ (lineX 1 l 0), normZ (lineX 2 l 0), normZ (lineX 3 l 0))

theorem powersOf_is (l : List ZZ) (hl : l.length < 4294967296) : Fpulse_PowersOf [.list l.length (encG l)] =
    some (if blockE l ≠ 0 then (0, 0, 0, 0, blockE l) else ((powZ l).1, (powZ l).2.1, (powZ l).2.2.1, (powZ l).2.2.2, 0)) := by
  refine Fpulse_PowersOf_of _ _ ?_
  unfold tpulse_PowersOf
  simp only [blockError_is l hl, bindO_val, bif_ne]
  by_cases h : blockE l = 0
  · obtain ⟨k1, k2, k3⟩ := block_ok h
    rw [if_pos h, if_neg (by simpa using h)]
    simp only [linesOf_is l (by omega) (fun z hz => Small.mono (k3 z hz) (by omega)), power4_is (lineX 0 l 0) (lineX 1 l 0) (lineX 2 l 0) (lineX 3 l 0), bindO_val]
    rfl
  · rw [if_neg h, if_pos h]

theorem linesOf2_is (l : List ZZ) (hl : l.length < 4294967296) : Fpulse_LinesOf [.list l.length (encG l)] =
    some (if blockE l ≠ 0 then (0, 0, 0, 0, 0, 0, 0, 0, blockE l) else ((lineX 0 l 0).1, (lineX 0 l 0).2, (lineX 1 l 0).1, (lineX 1 l 0).2, (lineX 2 l 0).1, (lineX 2 l 0).2, (lineX 3 l 0).1, (lineX 3 l 0).2, 0)) := by
  by_cases h : blockE l = 0
  · rw [LinesOf_is l h, if_neg (by simpa using h)]
  · refine Fpulse_LinesOf_of _ _ ?_
    unfold tpulse_LinesOf
    simp only [blockError_is l hl, bindO_val, bif_ne]
    rw [if_neg h, if_pos h]

/-! The specification's lines -/
theorem refLine_loop (l : List ZZ) (hl : l.length ≤ 1000) (hs : ∀ z ∈ l, Small 1000000 z) (pre r : List ZZ) (hp : pre.length ≤ 3) (hr : pre.length + r.length = 3) : ∀ j, j ≤ l.length → ∀ a : ZZ, Small (1000000 * j) a →
    Rglidepathref01_Lines_2 (Tglidepathref01_Lines_2a l.length (encG l) pre.length j (encG (pre ++ a :: r))) =
      exO (Xglidepathref01_Lines_2a (l.length, encG l, pre.length, encG (pre ++ eadd a (lineX pre.length (l.drop j) j) :: r))) := by
  refine up_ind _ ?_ ?_
  · intro a _
    refine Rglidepathref01_Lines_2a_of _ _ _ _ _ ?_
    unfold Bglidepathref01_Lines_2a
    rw [bif_neg (by omega), List.drop_length]
    simp only [lineX, eadd, Int.add_zero]
    rfl
  · intro j hj ih a ha
    refine Rglidepathref01_Lines_2a_of _ _ _ _ _ ?_
    unfold Bglidepathref01_Lines_2a
    obtain ⟨x, hx, hd⟩ := get_drop hj
    have hxs : Small 1000000 x := hs x (List.mem_of_getElem? hx)
    have ha' : (pre ++ a :: r)[pre.length]? = some a := by simp
    have h0 : 0 ≤ (j : Int) * pre.length ∧ (j : Int) * pre.length ≤ 3000 := by
      refine ⟨Int.mul_nonneg (by omega) (by omega), ?_⟩
      have h1 : (j : Int) * pre.length ≤ j * 3 := Int.mul_le_mul_of_nonneg_left (by omega) (by omega)
      omega
    rw [bif_pos (by omega), bif_pos (by omega)]
    simp only [Int.toNat_natCast, Nat.zero_add, encG_0, encG_1, ha', Option.map_some, intC_int, bindO_val]
    rw [bif_pos (by omega)]
    simp only [hx, Option.map_some, intC_int, bindO_val]
    rw [w64_in (n := (j : Int) * pre.length) (by omega)]
    simp only [refTurned_is x ((j : Int) * pre.length) (by omega) (hxs.mono (by omega)), gadd_is a, bindO_val]
    rw [bif_pos (by omega), bif_pos (by simp only [encG_len, List.length_append, List.length_cons]; omega), w64_in (by omega)]
    have e0 := addZ_eq ha (trn_small (j * pre.length) hxs) (by omega)
    rw [e0]
    have ho := over_G pre r a (eadd a (trn x (j * pre.length)))
    rw [Nat.zero_add] at ho
    rw [ho, hd]
    have := ih (eadd a (trn x (j * pre.length))) ((eadd_small ha (trn_small _ hxs)).mono (by omega))
    rw [eadd_assoc] at this
    exact this

theorem refLines_is (l : List ZZ) (hl : l.length ≤ 1000) (hs : ∀ z ∈ l, Small 1000000 z) : Fglidepathref01_Lines [.list l.length (encG l)] =
    some ((lineX 0 l 0).1, (lineX 0 l 0).2, (lineX 1 l 0).1, (lineX 1 l 0).2, (lineX 2 l 0).1, (lineX 2 l 0).2, (lineX 3 l 0).1, (lineX 3 l 0).2) := by
  refine Fglidepathref01_Lines_of _ _ ?_
  unfold tglidepathref01_Lines
  have z0 : Small (1000000 * ((0 : Nat) : Int)) ((0, 0) : ZZ) := by unfold Small; simp
  have e0 : ∀ a : ZZ, eadd (0, 0) a = a := fun a => by simp [eadd]
  have step : ∀ (pre r : List ZZ) (h : pre.length + r.length = 3), ∀ s, Rglidepathref01_Lines_0 (Tglidepathref01_Lines_0a l.length (encG l) ((pre.length : Int) + 1) (encG (pre ++ lineX pre.length l 0 :: r))) = some s →
      Rglidepathref01_Lines_0 (Tglidepathref01_Lines_0a l.length (encG l) (pre.length : Int) (encG (pre ++ (0, 0) :: r))) = some s := by
    intro pre r h s hs'
    refine Rglidepathref01_Lines_0a_of _ _ _ _ ?_
    unfold Bglidepathref01_Lines_0a
    have q := Lglidepathref01_Lines_2a_of (refLine_loop l hl hs pre r (by omega) h 0 (by omega) (0, 0) z0)
    rw [e0, List.drop_zero, show ((0 : Nat) : Int) = 0 from rfl] at q
    rw [bif_pos (by omega)]
    simp only [q, bindO_val]
    rw [w64_in (by omega)]
    exact hs'
  have last : Rglidepathref01_Lines_0 (Tglidepathref01_Lines_0a l.length (encG l) 4 (encG [lineX 0 l 0, lineX 1 l 0, lineX 2 l 0, lineX 3 l 0])) = exO (Xglidepathref01_Lines_0a (encG [lineX 0 l 0, lineX 1 l 0, lineX 2 l 0, lineX 3 l 0])) := by
    refine Rglidepathref01_Lines_0a_of _ _ _ _ ?_
    unfold Bglidepathref01_Lines_0a
    rw [bif_neg (by omega)]
    rfl
  have s3 := step [lineX 0 l 0, lineX 1 l 0, lineX 2 l 0] [] rfl _ last
  have s2 := step [lineX 0 l 0, lineX 1 l 0] [(0, 0)] rfl _ s3
  have s1 := step [lineX 0 l 0] [(0, 0), (0, 0)] rfl _ s2
  have s0 := step [] [(0, 0), (0, 0), (0, 0)] rfl _ s1
  have q := Lglidepathref01_Lines_0a_of s0
  have q : Lglidepathref01_Lines_0 (Tglidepathref01_Lines_0a l.length (encG l) 0 [(.int .i64 0), (.int .i64 0), (.int .i64 0), (.int .i64 0), (.int .i64 0), (.int .i64 0), (.int .i64 0), (.int .i64 0)]) = _ := q
  rw [q]
  rfl

theorem refPowers_is (l : List ZZ) (hl : l.length ≤ 1000) (hs : ∀ z ∈ l, Small 1000000 z) : Fglidepathref01_Powers [.list l.length (encG l)] = some (powZ l) := by
  refine Fglidepathref01_Powers_of _ _ ?_
  unfold tglidepathref01_Powers
  simp only [refLines_is l hl hs, gnorm_is (lineX 0 l 0), gnorm_is (lineX 1 l 0), gnorm_is (lineX 2 l 0), gnorm_is (lineX 3 l 0), bindO_val]
  rfl
end Gv
