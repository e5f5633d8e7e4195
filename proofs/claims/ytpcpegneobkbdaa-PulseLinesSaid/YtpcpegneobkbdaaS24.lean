/- The spectrum of blocks in a gate, and its errors. -/
import Derived.Test.YtpcpegneobkbdaaS23
namespace Gv
open Go
set_option maxRecDepth 100000

theorem gates_ws {g : Gt} (h : gatesE g = 0) : ∀ w ∈ g.ws, 0 ≤ w ∧ w ≤ 100 := by
  unfold gatesE gatesP at h
  split at h
  · rename_i h1
    exact absurd h h1
  · unfold listIE at h
    split at h
    · cases h
    · split at h
      · cases h
      · intro w hw
        have := findE_nil h w hw
        unfold rangeE at this
        split at this
        · cases this
        · omega

theorem wz_small (l : List ZZ) (i w : Int) (hw : 0 ≤ w ∧ w ≤ 100) (hl : ∀ z ∈ l, Small 1000 z) : Small 1000000 (wz l i w) := by
  have z0 : Small 1000000 ((0, 0) : ZZ) := by unfold Small; simp
  unfold wz
  split
  · cases h : l[i.toNat]? with
    | none => exact z0
    | some z =>
      obtain ⟨h1, h2⟩ := hl z (List.mem_of_getElem? h)
      have a1 := mul_abs (x := w) (y := z.1) (m := 1000) (by omega) h1 (by omega)
      have a2 := mul_abs (x := w) (y := z.2) (m := 1000) (by omega) h2 (by omega)
      simp only [Option.map_some, Option.getD_some]
      rw [w64_in (by omega), w64_in (by omega)]
      exact ⟨by simp only; omega, by simp only; omega⟩
  · exact z0

theorem wtd_small (l : List ZZ) (f : Int) (hl : ∀ z ∈ l, Small 1000 z) : ∀ (ws : List Int) (j : Nat), (∀ w ∈ ws, 0 ≤ w ∧ w ≤ 100) → ∀ z ∈ wtd l f ws j, Small 1000000 z
  | [], _, _, z, hz => by simp [wtd] at hz
  | w :: ws, j, hw, z, hz => by
    simp only [wtd, List.mem_cons] at hz
    rcases hz with rfl | hz
    · exact wz_small _ _ _ (hw w (by simp)) hl
    · exact wtd_small l f hl ws (j + 1) (fun v hv => hw v (List.mem_cons_of_mem _ hv)) z hz

def specZ (g : Gt) (k : Int) : List (List ZZ) → Int → Int → Int → Int → Int × Int × Int × Int
  | [], a, b, c, d => (a, b, c, d)
  | l :: r, a, b, c, d => specZ g k r (w64 (a + (powZ (wtd l (baseG g k) g.ws 0)).1)) (w64 (b + (powZ (wtd l (baseG g k) g.ws 0)).2.1)) (w64 (c + (powZ (wtd l (baseG g k) g.ws 0)).2.2.1)) (w64 (d + (powZ (wtd l (baseG g k) g.ws 0)).2.2.2))

theorem spec_loop (g : Gt) (k : Int) (bs : List (List ZZ)) (hg : gatesE g = 0) (hl : bs.length ≤ 1000) (hb : ∀ b ∈ bs, blockE b = 0) : ∀ i, i ≤ bs.length → ∀ a b c d : Int,
    Rpulse_SpectrumOf_0 (Tpulse_SpectrumOf_0a bs.length (encB bs) bs.length i g.first g.hop g.count g.ws.length (encI g.ws) k a b c d) =
      exO (Xpulse_SpectrumOf_0a (g.first, g.hop, g.count, g.ws.length, encI g.ws, k, (specZ g k (bs.drop i) a b c d).1, (specZ g k (bs.drop i) a b c d).2.1, (specZ g k (bs.drop i) a b c d).2.2.1, (specZ g k (bs.drop i) a b c d).2.2.2)) := by
  obtain ⟨_, _, _, n7, n8⟩ := gate_nums hg
  have hws := gates_ws hg
  refine up_ind _ ?_ ?_
  · intro a b c d
    refine Rpulse_SpectrumOf_0a_of _ _ _ _ _ _ _ _ _ _ _ _ _ _ ?_
    unfold Bpulse_SpectrumOf_0a
    rw [bif_neg (by omega), List.drop_length]
    rfl
  · intro i hi ih a b c d
    refine Rpulse_SpectrumOf_0a_of _ _ _ _ _ _ _ _ _ _ _ _ _ _ ?_
    unfold Bpulse_SpectrumOf_0a
    obtain ⟨x, hx, hd⟩ := get_drop hi
    obtain ⟨k1, k2, k3⟩ := block_ok (hb x (List.mem_of_getElem? hx))
    have hsm := wtd_small x (baseG g k) k3 g.ws 0 hws
    have f5 := firstIndex_is g k
    unfold encGt at f5
    rw [show w64 (g.first + w64 (k * g.hop)) = baseG g k from rfl] at f5
    have f6 := weighted_is x (baseG g k) g.ws (by omega)
    have f7 := linesOf_is (wtd x (baseG g k) g.ws 0) (by rw [wtd_len]; omega) hsm
    rw [wtd_len] at f7
    rw [bif_pos (by omega), bif_pos (by omega)]
    simp only [Int.toNat_natCast, Nat.mul_one, encB_get, hx, Option.map_some, listC_list, bindO_val, f5, f6, f7,
      power4_is (lineX 0 (wtd x (baseG g k) g.ws 0) 0) (lineX 1 (wtd x (baseG g k) g.ws 0) 0) (lineX 2 (wtd x (baseG g k) g.ws 0) 0) (lineX 3 (wtd x (baseG g k) g.ws 0) 0)]
    rw [hd, w64_in (n := (i : Int) + 1) (by omega)]
    exact ih _ _ _ _

theorem refSpec_loop (g : Gt) (k : Int) (bs : List (List ZZ)) (hg : gatesE g = 0) (hl : bs.length ≤ 1000) (hb : ∀ b ∈ bs, blockE b = 0) : ∀ i, i ≤ bs.length → ∀ a b c d : Int,
    Rglidepathref01_Spectrum_0 (Tglidepathref01_Spectrum_0a bs.length (encB bs) k i g.first g.hop g.count g.ws.length (encI g.ws) a b c d) =
      exO (Xglidepathref01_Spectrum_0a (g.first, g.hop, g.count, g.ws.length, encI g.ws, (specZ g k (bs.drop i) a b c d).1, (specZ g k (bs.drop i) a b c d).2.1, (specZ g k (bs.drop i) a b c d).2.2.1, (specZ g k (bs.drop i) a b c d).2.2.2)) := by
  obtain ⟨_, _, _, n7, n8⟩ := gate_nums hg
  have hws := gates_ws hg
  refine up_ind _ ?_ ?_
  · intro a b c d
    refine Rglidepathref01_Spectrum_0a_of _ _ _ _ _ _ _ _ _ _ _ _ _ ?_
    unfold Bglidepathref01_Spectrum_0a
    rw [bif_neg (by omega), List.drop_length]
    rfl
  · intro i hi ih a b c d
    refine Rglidepathref01_Spectrum_0a_of _ _ _ _ _ _ _ _ _ _ _ _ _ ?_
    unfold Bglidepathref01_Spectrum_0a
    obtain ⟨x, hx, hd⟩ := get_drop hi
    obtain ⟨k1, k2, k3⟩ := block_ok (hb x (List.mem_of_getElem? hx))
    have hsm := wtd_small x (baseG g k) k3 g.ws 0 hws
    have f5 := refGate_is x g k 0 (by omega) (by omega)
    rw [show w64 (baseG g k + 0) = baseG g k from by unfold baseG; rw [Int.add_zero, w64_w64]] at f5
    unfold encGt at f5
    have f7 := refPowers_is (wtd x (baseG g k) g.ws 0) (by rw [wtd_len]; omega) hsm
    rw [wtd_len] at f7
    rw [bif_pos (by omega), bif_pos (by omega)]
    simp only [Int.toNat_natCast, Nat.mul_one, encB_get, hx, Option.map_some, listC_list, bindO_val, f5, f7]
    rw [hd, w64_in (n := (i : Int) + 1) (by omega)]
    exact ih _ _ _ _

theorem refSpectrum_is (g : Gt) (k : Int) (bs : List (List ZZ)) (hg : gatesE g = 0) (hl : bs.length ≤ 1000) (hb : ∀ b ∈ bs, blockE b = 0) :
    Fglidepathref01_Spectrum [encGt g, .list bs.length (encB bs), .int .i64 k] = some (specZ g k bs 0 0 0 0) := by
  refine Fglidepathref01_Spectrum_of _ _ _ _ _ _ _ _ ?_
  unfold tglidepathref01_Spectrum
  have q := Lglidepathref01_Spectrum_0a_of (refSpec_loop g k bs hg hl hb 0 (by omega) 0 0 0 0)
  rw [List.drop_zero, show ((0 : Nat) : Int) = 0 from rfl] at q
  simp only [q, bindO_val]

/-! Errors -/
theorem findE_ne {β : Type} {f : β → Int} : ∀ {l : List β} {i : Nat} {p : Int × Int}, findE f l i = some p → p.2 ≠ 0
  | [], _, _, h => by simp [findE] at h
  | x :: l, i, p, h => by
    simp only [findE] at h
    by_cases hx : f x = 0
    · rw [if_neg (by simpa using hx)] at h
      exact findE_ne h
    · rw [if_pos hx] at h
      cases h
      exact hx

section
variable (g : Gt) (k : Int) (bs : List (List ZZ))

def xSE0 (o : Option (Int × Int)) : Ext × Q := match o with
  | some p => Xglidepathref01_SpectrumErr_0a p.2
  | none => Xglidepathref01_SpectrumErr_0b (bs.length, encB bs, k, g.first, g.hop, g.count, g.ws.length, encI g.ws)
def xSE2 (o : Option (Int × Int)) : Ext × Q := match o with
  | some p => Xglidepathref01_SpectrumErr_2a p.2
  | none => Xglidepathref01_SpectrumErr_2b (g.first, g.hop, g.count, g.ws.length, encI g.ws)

theorem specErr0_loop (hl : bs.length ≤ 1000) : ∀ i, i ≤ bs.length →
    Rglidepathref01_SpectrumErr_0 (Tglidepathref01_SpectrumErr_0a bs.length (encB bs) k i g.first g.hop g.count g.ws.length (encI g.ws)) = exO (xSE0 g k bs (findE blockE (bs.drop i) i)) := by
  refine up_ind _ ?_ ?_
  · refine Rglidepathref01_SpectrumErr_0a_of _ _ _ _ _ _ _ _ _ ?_
    unfold Bglidepathref01_SpectrumErr_0a
    rw [bif_neg (by omega), List.drop_length]
    rfl
  · intro i hi ih
    refine Rglidepathref01_SpectrumErr_0a_of _ _ _ _ _ _ _ _ _ ?_
    unfold Bglidepathref01_SpectrumErr_0a
    obtain ⟨x, hx, hd⟩ := get_drop hi
    rw [bif_pos (by omega), bif_pos (by omega)]
    simp only [Int.toNat_natCast, Nat.mul_one, encB_get, hx, Option.map_some, listC_list, bindO_val, refBlockErr_is x]
    rw [hd, w64_in (by omega), bif_ne]
    by_cases he : blockE x = 0
    · rw [if_pos he]
      simp only [findE, he, ne_eq, not_true_eq_false, if_false]
      exact ih
    · rw [if_neg he]
      simp only [findE, ne_eq, he, not_false_eq_true, if_true]
      rfl

theorem specErr2_loop (hl : bs.length ≤ 1000) : ∀ i, i ≤ bs.length →
    Rglidepathref01_SpectrumErr_2 (Tglidepathref01_SpectrumErr_2a bs.length (encB bs) k i g.first g.hop g.count g.ws.length (encI g.ws)) = exO (xSE2 g (findE (fun b : List ZZ => openE g b.length k) (bs.drop i) i)) := by
  refine up_ind _ ?_ ?_
  · refine Rglidepathref01_SpectrumErr_2a_of _ _ _ _ _ _ _ _ _ ?_
    unfold Bglidepathref01_SpectrumErr_2a
    rw [bif_neg (by omega), List.drop_length]
    rfl
  · intro i hi ih
    refine Rglidepathref01_SpectrumErr_2a_of _ _ _ _ _ _ _ _ _ ?_
    unfold Bglidepathref01_SpectrumErr_2a
    obtain ⟨x, hx, hd⟩ := get_drop hi
    have f1 := refOpenErr_is g x k
    unfold encGt at f1
    rw [bif_pos (by omega), bif_pos (by omega)]
    simp only [Int.toNat_natCast, Nat.mul_one, encB_get, hx, Option.map_some, listC_list, bindO_val, f1]
    rw [hd, w64_in (by omega), bif_ne]
    by_cases he : openE g x.length k = 0
    · rw [if_pos he]
      simp only [findE, he, ne_eq, not_true_eq_false, if_false]
      exact ih
    · rw [if_neg he]
      simp only [findE, ne_eq, he, not_false_eq_true, if_true]
      rfl

def specErr : Int := if 12 < bs.length then 8 else first3 (errOf blockE bs) (gateE g k) (errOf (fun b : List ZZ => openE g b.length k) bs)

theorem refSpectrumErr_is (hg : gatesE g = 0) (hl : bs.length ≤ 1000) : Fglidepathref01_SpectrumErr [encGt g, .list bs.length (encB bs), .int .i64 k] = some (specErr g k bs) := by
  refine Fglidepathref01_SpectrumErr_of _ _ _ _ _ _ _ _ ?_
  unfold tglidepathref01_SpectrumErr specErr
  obtain ⟨_, _, ⟨n5, n6⟩, _⟩ := gate_nums hg
  by_cases hn : 12 < bs.length
  · rw [bif_pos (by omega), if_pos hn]
  · rw [bif_neg (by omega), if_neg hn]
    have h0 := specErr0_loop g k bs hl 0 (by omega)
    rw [List.drop_zero, show ((0 : Nat) : Int) = 0 from rfl] at h0
    unfold errOf
    cases ho : findE blockE bs 0 with
    | some p =>
      rw [ho] at h0
      have q := Lglidepathref01_SpectrumErr_0a_of (y := p.2) h0
      simp only [q, bindO_val, Sum.elim_inl, Option.getD_some, first3]
      rw [if_pos (findE_ne ho)]
    | none =>
      rw [ho] at h0
      have q := Lglidepathref01_SpectrumErr_0b_of h0
      have f1 := refGateErr_is g k (by omega)
      unfold encGt at f1
      simp only [q, bindO_val, Sum.elim_inr, f1, bif_ne, Option.getD_none, first3, ne_eq, not_true_eq_false, if_false]
      by_cases hk : gateE g k = 0
      · rw [if_pos hk, if_neg (by simpa using hk)]
        have h2 := specErr2_loop g k bs hl 0 (by omega)
        rw [List.drop_zero, show ((0 : Nat) : Int) = 0 from rfl] at h2
        cases ho2 : findE (fun b : List ZZ => openE g b.length k) bs 0 with
        | some p =>
          rw [ho2] at h2
          have q2 := Lglidepathref01_SpectrumErr_2a_of (y := p.2) h2
          simp only [q2, bindO_val, Sum.elim_inl, Option.getD_some]
        | none =>
          rw [ho2] at h2
          have q2 := Lglidepathref01_SpectrumErr_2b_of h2
          simp only [q2, bindO_val, Sum.elim_inr, Option.getD_none]
      · rw [if_neg hk, if_pos hk]

theorem firstError5_is (a b c d e : Int) : Fpulse_firstError_5 [.list 5 [.int .i64 a, .int .i64 b, .int .i64 c, .int .i64 d, .int .i64 e]] = some (both a (both b (first3 c d e))) :=
  Fpulse_firstError_5_of a b c d e (by
    unfold tpulse_firstError_5 both first3
    simp only [bif_ne]
    by_cases h1 : a = 0 <;> by_cases h2 : b = 0 <;> by_cases h3 : c = 0 <;> by_cases h4 : d = 0 <;> by_cases h5 : e = 0 <;> simp [h1, h2, h3, h4, h5])

def spE : Int := both (gatesE g) (specErr g k bs)

theorem both_nil2 {x y : Int} (h : both x y = 0) : x = 0 ∧ y = 0 := by
  unfold both at h
  split at h
  · contradiction
  · exact ⟨by omega, h⟩

theorem spE_ok (h : spE g k bs = 0) : gatesE g = 0 ∧ bs.length ≤ 12 ∧ (∀ b ∈ bs, blockE b = 0) := by
  obtain ⟨h1, h2⟩ := both_nil2 h
  unfold specErr at h2
  split at h2
  · cases h2
  · rename_i hn
    unfold first3 at h2
    by_cases hb : errOf blockE bs = 0
    · exact ⟨h1, by omega, findE_nil hb⟩
    · rw [if_pos hb] at h2
      exact absurd h2 hb

theorem spectrumOf_is (hw : g.ws.length < 4294967296) (hl : bs.length ≤ 1000) (hb : ∀ b ∈ bs, b.length ≤ 1000) : Fpulse_SpectrumOf [encGt g, .list bs.length (encB bs), .int .i64 k] =
    some (if spE g k bs ≠ 0 then (0, 0, 0, 0, spE g k bs) else ((specZ g k bs 0 0 0 0).1, (specZ g k bs 0 0 0 0).2.1, (specZ g k bs 0 0 0 0).2.2.1, (specZ g k bs 0 0 0 0).2.2.2, 0)) := by
  refine Fpulse_SpectrumOf_of _ _ _ _ _ _ _ _ ?_
  unfold tpulse_SpectrumOf
  have f1 := itemB_is bs (by omega) (fun b h => by have := hb b h; omega)
  have f2 := itemO_is g k bs (by omega)
  have f3 := gatesError_is g hw
  have f4 := gateError_is g k
  unfold encGt at f3 f4
  simp only [f1, f2, f3, f4, errorIf_is, firstError5_is, bindO_val, bif_ne]
  have fin : ∀ e : Int, e = spE g k bs → (if e = 0 then (bindO (Lpulse_SpectrumOf_0 (Tpulse_SpectrumOf_0a bs.length (encB bs) bs.length 0 g.first g.hop g.count g.ws.length (encI g.ws) k 0 0 0 0)) fun y6 =>
      some (y6.2.2.2.2.2.2.1, (y6.2.2.2.2.2.2.2.1, (y6.2.2.2.2.2.2.2.2.1, (y6.2.2.2.2.2.2.2.2.2, (0 : Int)))))) else some (0, 0, 0, 0, e)) =
      some (if spE g k bs ≠ 0 then (0, 0, 0, 0, spE g k bs) else ((specZ g k bs 0 0 0 0).1, (specZ g k bs 0 0 0 0).2.1, (specZ g k bs 0 0 0 0).2.2.1, (specZ g k bs 0 0 0 0).2.2.2, 0)) := by
    rintro e rfl
    by_cases he : spE g k bs = 0
    · obtain ⟨hg, _, hbs⟩ := spE_ok g k bs he
      have q := Lpulse_SpectrumOf_0a_of (spec_loop g k bs hg hl hbs 0 (by omega) 0 0 0 0)
      rw [List.drop_zero, show ((0 : Nat) : Int) = 0 from rfl] at q
      rw [if_pos he, if_neg (by simpa using he)]
      simp only [q, bindO_val]
    · rw [if_neg he, if_pos he]
  by_cases hn : 12 < bs.length
  · rw [bif_pos (by omega)]
    refine fin _ ?_
    unfold spE specErr
    rw [if_pos hn]
    unfold both
    simp
  · rw [bif_neg (by omega)]
    refine fin _ ?_
    unfold spE specErr errOf
    rw [if_neg hn]
    unfold both
    simp
end
end Gv
