/- PulseCheck: blocks, gates and a gate of a block. -/
import Derived.Test.YtpcpegneobkbdaaS3
import Derived.Test.YtpcpegneobkbdaaS18
import Derived.Test.YtpcpegneobkbdaaP9
namespace Gv
open Go
set_option maxRecDepth 100000

theorem both_is (x y : Int) : Fglidepathlaw01_both [.int .i64 x, .int .i64 y] = some (both x y) := Fglidepathlaw01_both_of x y (by
  unfold tglidepathlaw01_both both
  rw [bif_ne]
  by_cases h : x = 0
  · rw [if_pos h, if_neg (by simpa using h)]
  · rw [if_neg h, if_pos h])

theorem both_first4 (x y z u : Int) : both (both (both x y) z) u = first4 x y z u := by
  unfold both first4
  by_cases h1 : x = 0 <;> by_cases h2 : y = 0 <;> by_cases h3 : z = 0 <;> simp [h1, h2, h3]

theorem both_nil {x y : Int} (h : both x y = 0) : x = 0 ∧ y = 0 := by
  unfold both at h
  split at h
  · contradiction
  · exact ⟨by omega, h⟩

section
variable (g : Gt) (l : List ZZ) (x0 x1 : Int)

theorem chk57 : Rglidepathlaw01_PulseCheck_1000057 (Tglidepathlaw01_PulseCheck_1000057a l.length (encG l) g.first g.hop g.count g.ws.length (encI g.ws) x0 x1) =
    if g.ws.length ≤ 18 ∧ l.length ≤ 50 then exO (Xglidepathlaw01_PulseCheck_1000057a (l.length, encG l, g.first, g.hop, g.count, g.ws.length, encI g.ws, x0, x1)) else exO (Xglidepathlaw01_PulseCheck_1000057b ()) := by
  have f1 := fewGt_is g
  unfold encGt at f1
  by_cases h1 : g.ws.length ≤ 18
  · by_cases h2 : l.length ≤ 50
    · rw [if_pos ⟨h1, h2⟩]
      refine Rglidepathlaw01_PulseCheck_1000057a_of _ _ _ _ _ _ _ _ _ ?_
      unfold Bglidepathlaw01_PulseCheck_1000057a
      simp only [f1, few_is, bindO_val]
      rw [bif_pos h1, bif_pos h2]
      rfl
    · rw [if_neg (fun h => h2 h.2)]
      refine Rglidepathlaw01_PulseCheck_1000057a_of _ _ _ _ _ _ _ _ _ ?_
      unfold Bglidepathlaw01_PulseCheck_1000057a
      simp only [f1, few_is, bindO_val]
      rw [bif_pos h1, bif_neg h2]
      rfl
  · rw [if_neg (fun h => h1 h.1)]
    refine Rglidepathlaw01_PulseCheck_1000057a_of _ _ _ _ _ _ _ _ _ ?_
    unfold Bglidepathlaw01_PulseCheck_1000057a
    simp only [f1, bindO_val]
    rw [bif_neg h1]
    rfl

theorem chk38 (n0 : Nat) (c1 : List PV) (i e k f : Int) (n6 : Nat) (c7 : List PV) (h : Int) (n9 : Nat) (c10 : List PV) (m fi ho co : Int) (n : Nat) (cs : List PV) :
    Rglidepathlaw01_PulseCheck_1000038 (Tglidepathlaw01_PulseCheck_1000038a n0 c1 i e k f n6 c7 h n9 c10 m i e k f fi ho co n cs x0 x1) =
    exO (Xglidepathlaw01_PulseCheck_1000038b (n0, c1, n6, c7, h, n9, c10, m, e, f, fi, ho, co, n, cs, x0, x1)) := by
  refine Rglidepathlaw01_PulseCheck_1000038a_of _ _ _ _ _ _ _ _ _ _ _ _ _ _ _ _ _ _ _ _ _ _ _ ?_
  unfold Bglidepathlaw01_PulseCheck_1000038a
  simp only [bif_ne, if_true]
  rfl

theorem chk29 (n0 : Nat) (c1 : List PV) (n6 : Nat) (c7 : List PV) (h : Int) (n9 : Nat) (c10 : List PV) (m c d fi ho co : Int) (n : Nat) (cs : List PV) :
    Rglidepathlaw01_PulseCheck_1000029 (Tglidepathlaw01_PulseCheck_1000029a n0 c1 n6 c7 h n9 c10 m c d d fi ho co n cs x0 x1) =
    exO (Xglidepathlaw01_PulseCheck_1000029a (n0, c1, n6, c7, h, n9, c10, m, c, d, both d (rangeE x1 0 47), fi, ho, co, n, cs, x0, x1)) := by
  refine Rglidepathlaw01_PulseCheck_1000029a_of _ _ _ _ _ _ _ _ _ _ _ _ _ _ _ _ _ _ ?_
  unfold Bglidepathlaw01_PulseCheck_1000029a both
  rw [bif_eq]
  by_cases hd : d = 0
  · rw [if_pos hd, if_neg (by simpa using hd)]
    simp only [within_is, bindO_val]
    by_cases h1 : 0 ≤ x1 ∧ x1 ≤ 47
    · rw [bif_pos h1, rangeE_in h1, hd]
      rfl
    · rw [bif_neg h1, rangeE_out h1]
      rfl
  · rw [if_neg hd, if_pos hd]
    rfl

theorem chk25 (n2 : Nat) (c3 : List PV) (h c d : Int) :
    Rglidepathlaw01_PulseCheck_1000025 (Tglidepathlaw01_PulseCheck_1000025a l.length (encG l) n2 c3 h
      (if both (gatesE g) (rangeE x1 0 47) ≠ 0 then ((0, []), both (gatesE g) (rangeE x1 0 47)) else (((withZ g x1 g.count.toNat 0).length, encI (withZ g x1 g.count.toNat 0)), 0)).1.1
      (if both (gatesE g) (rangeE x1 0 47) ≠ 0 then ((0, []), both (gatesE g) (rangeE x1 0 47)) else (((withZ g x1 g.count.toNat 0).length, encI (withZ g x1 g.count.toNat 0)), 0)).1.2
      (if both (gatesE g) (rangeE x1 0 47) ≠ 0 then ((0, []), both (gatesE g) (rangeE x1 0 47)) else (((withZ g x1 g.count.toNat 0).length, encI (withZ g x1 g.count.toNat 0)), 0)).2
      c d (both (gatesE g) (rangeE x1 0 47)) g.first g.hop g.count g.ws.length (encI g.ws) x0 x1) =
    exO (Xglidepathlaw01_PulseCheck_1000025b (l.length, encG l, n2, c3, h, c, d, g.first, g.hop, g.count, g.ws.length, encI g.ws, x0, x1)) := by
  refine Rglidepathlaw01_PulseCheck_1000025a_of _ _ _ _ _ _ _ _ _ _ _ _ _ _ _ _ _ _ ?_
  unfold Bglidepathlaw01_PulseCheck_1000025a
  by_cases hr : both (gatesE g) (rangeE x1 0 47) = 0
  · obtain ⟨hg, _⟩ := both_nil hr
    have h1 := refWith_is g x1 hg
    have hlen := withZ_len g x1 g.count.toNat 0
    obtain ⟨_, _, ⟨n5, n6⟩, _⟩ := gate_nums hg
    have h2 := ints_refl (withZ g x1 g.count.toNat 0) (by omega)
    unfold encGt at h1
    simp only [bif_ne, bif_eq, hr, ne_eq, not_true_eq_false, if_false, if_true, h1, h2, bindO_val, cond_true]
    rfl
  · simp only [bif_ne, bif_eq, hr, ne_eq, not_false_eq_true, if_true, if_false, Int.natCast_zero]
    rfl

theorem chk16 (n2 : Nat) (c3 : List PV) (h d : Int) (hd : d = 0 → gatesE g = 0) :
    Rglidepathlaw01_PulseCheck_1000016 (Tglidepathlaw01_PulseCheck_1000016a l.length (encG l) n2 c3 h d g.first g.hop g.count g.ws.length (encI g.ws) x0 x1) =
    exO (Xglidepathlaw01_PulseCheck_1000016a (l.length, encG l, n2, c3, h, both d (gateE g x0), g.first, g.hop, g.count, g.ws.length, encI g.ws, x0, x1)) := by
  refine Rglidepathlaw01_PulseCheck_1000016a_of _ _ _ _ _ _ _ _ _ _ _ _ _ ?_
  unfold Bglidepathlaw01_PulseCheck_1000016a both
  rw [bif_eq]
  by_cases hz : d = 0
  · obtain ⟨_, _, ⟨n5, n6⟩, _⟩ := gate_nums (hd hz)
    have f1 := refGateErr_is g x0 (by omega)
    unfold encGt at f1
    rw [if_pos hz, if_neg (by simpa using hz)]
    simp only [f1, bindO_val]
    rfl
  · rw [if_neg hz, if_pos hz]
    rfl

theorem chk12 (n2 : Nat) (c3 : List PV) (h d : Int) :
    Rglidepathlaw01_PulseCheck_1000012 (Tglidepathlaw01_PulseCheck_1000012a l.length (encG l) n2 c3 h d g.first g.hop g.count g.ws.length (encI g.ws) x0 x1) =
    exO (Xglidepathlaw01_PulseCheck_1000012a (l.length, encG l, n2, c3, h, both d (openE g l.length x0), g.first, g.hop, g.count, g.ws.length, encI g.ws, x0, x1)) := by
  refine Rglidepathlaw01_PulseCheck_1000012a_of _ _ _ _ _ _ _ _ _ _ _ _ _ ?_
  unfold Bglidepathlaw01_PulseCheck_1000012a both
  rw [bif_eq]
  by_cases hz : d = 0
  · have f1 := refOpenErr_is g l x0
    unfold encGt at f1
    rw [if_pos hz, if_neg (by simpa using hz)]
    simp only [f1, bindO_val]
    rfl
  · rw [if_neg hz, if_pos hz]
    rfl

theorem check : Fglidepathlaw01_PulseCheck [encGt g, .list l.length (encG l), .agg [.int .i64 x0, .int .i64 x1]] = some true := by
  refine Fglidepathlaw01_PulseCheck_of _ _ _ _ _ _ _ _ _ ?_
  unfold tglidepathlaw01_PulseCheck
  simp only [awake_is, bindO_val, cond_true]
  have p57 := chk57 g l x0 x1
  by_cases hf : g.ws.length ≤ 18 ∧ l.length ≤ 50
  · rw [if_pos hf] at p57
    have L57 := Lglidepathlaw01_PulseCheck_1000057a_of p57
    have c1 := copyG_is l (by omega)
    have c2 := copyGt_is g (by omega)
    have c3 := checkBlock_is l (by omega)
    have c4 := checkGates_is g (by omega)
    have c5 := gateOf_is l g x0 (by omega) (by omega)
    have c6 := gatesWith_is g x1 (by omega)
    have c7 := refCheckBlock_is l
    have c8 := refCheckGates_is g (by omega)
    unfold encGt at c2 c4 c5 c6 c8
    simp only [L57, bindO_val, Sum.elim_inl, c1, c2, c3, c4, c5, c6, c7, c8]
    have q38 : ∀ n6 c7 h n9 c10 m, _ = _ := fun n6 c7 h n9 c10 m => Lglidepathlaw01_PulseCheck_1000038b_of (chk38 x0 x1 l.length (encG l) (listE 48 1000 l).1 (listE 48 1000 l).2 (gatesP g).1 (gatesP g).2 n6 c7 h n9 c10 m g.first g.hop g.count g.ws.length (encI g.ws))
    simp only [q38, bindO_val, Sum.elim_inr]
    have q29 : ∀ n6 c7 h n9 c10 m c d, _ = _ := fun n6 c7 h n9 c10 m c d => Lglidepathlaw01_PulseCheck_1000029a_of (chk29 x0 x1 l.length (encG l) n6 c7 h n9 c10 m c d g.first g.hop g.count g.ws.length (encI g.ws))
    simp only [q29, bindO_val]
    rw [show (gatesP g).2 = gatesE g from rfl, show (listE 48 1000 l).2 = blockE l from rfl]
    have q25 : ∀ n2 c3 h c d, _ = _ := fun n2 c3 h c d => Lglidepathlaw01_PulseCheck_1000025b_of (chk25 g l x0 x1 n2 c3 h c d)
    simp only [q25, bindO_val, Sum.elim_inr, both_is]
    have q16 : ∀ n2 c3 h, _ = _ := fun n2 c3 h => Lglidepathlaw01_PulseCheck_1000016a_of (chk16 g l x0 x1 n2 c3 h (both (gatesE g) (blockE l)) (fun hd => (both_nil hd).1))
    have q12 : ∀ n2 c3 h d, _ = _ := fun n2 c3 h d => Lglidepathlaw01_PulseCheck_1000012a_of (chk12 g l x0 x1 n2 c3 h d)
    simp only [q16, q12, bindO_val, both_first4]
    rw [show first4 (gatesE g) (blockE l) (gateE g x0) (openE g l.length x0) = goE l g x0 from rfl]
    by_cases he : goE l g x0 = 0
    · obtain ⟨h1, h2, h3, h4⟩ := firstError4_zero he
      obtain ⟨_, _, _, w1, w2⟩ := gate_nums h1
      obtain ⟨l1, l2, _⟩ := block_ok h2
      have c9 := refGate_is l g x0 0 (by omega) (by omega)
      rw [show w64 (baseG g x0 + 0) = baseG g x0 from by unfold baseG; rw [Int.add_zero, w64_w64]] at c9
      have c10 := gausses_same (wtd l (baseG g x0) g.ws 0) (by rw [wtd_len]; omega)
      rw [wtd_len] at c10
      unfold encGt at c9
      simp only [bif_ne, bif_eq, he, if_true, ne_eq, not_true_eq_false, if_false, c9, c10, bindO_val, cond_true]
    · simp only [bif_ne, bif_eq, he, if_true, ne_eq, not_false_eq_true, if_false, Int.natCast_zero]
  · rw [if_neg hf] at p57
    have L57 := Lglidepathlaw01_PulseCheck_1000057b_of p57
    simp only [L57, bindO_val, Sum.elim_inr]
end
end Gv
