/- PulseLines holds: whatever the gates, the blocks and the gate, the law answers true. -/
import Derived.Test.YtpcpegneobkbdaaGvZb
import Derived.Test.YtpcpegneobkbdaaS25
namespace Go.Proofs.Ytpcpegneobkbdaa
open Go Gv Go.ChangeShapes Go.WideShapes Go.ChangeAt Go.RowKit
set_option maxRecDepth 100000

theorem fits_blocks {p : PV} {cs : List PV} (h : Fits (.sl (.sl gaussS)) cs) (hp : [p] = cs) : ∃ bs : List (List ZZ), p = .list bs.length (encB bs) := by
  obtain ⟨l, rfl, _, hx⟩ := h
  obtain ⟨r, hr, hf⟩ := fits_rows (fun b : List ZZ => [PV.list b.length (encG b)]) l (fun x hx' => by
    obtain ⟨m, rfl, k1, k2⟩ := hx x hx'
    obtain ⟨z, hz⟩ := fits_gausses (p := PV.list m.length m.flatten) ⟨m, rfl, k1, k2⟩ rfl
    exact ⟨z, by rw [hz]⟩)
  refine ⟨r, ?_⟩
  cases hp
  rw [hf, hr]
  have : ∀ q : List (List ZZ), q.flatMap (fun b : List ZZ => [PV.list b.length (encG b)]) = encB q := fun q => by
    induction q with
    | nil => rfl
    | cons x q ih => simp only [List.flatMap_cons, ih, encB, List.map_cons, List.singleton_append]
  rw [this]

theorem pulseLines_run (qs : List PV) (h : FitsArgs [gatesS, .sl (.sl gaussS), .int .i64] qs) : run env 5 qs = some (.val (.bool true)) := by
  obtain ⟨p1, r1, c1, rfl, f1, e1, p2, r2, c2, rfl, f2, e2, p3, r3, c3, rfl, f3, e3, hr⟩ := h
  simp only [FitsArgs] at hr
  subst hr
  obtain ⟨a, b, c, ws, rfl⟩ := fits_gates f1
  obtain ⟨l, rfl⟩ := fits_blocks f2 e2
  obtain ⟨x, rfl, _⟩ := fits_num f3 e3
  have e1 : p1 = .agg _ := e1
  subst e1
  exact run_true (Gv.linesLaw ⟨a, b, c, ws⟩ x l)

theorem pulseLines_tells : Tells Rows.pulseLinesSpec 3 := by
  refine ⟨rfl, fun H ds hl => ?_, fun H ds hl => ?_, fun H ds hl => ?_⟩ <;>
  · match ds, hl with
    | [d1, d2, d3], _ => rfl

theorem pulseLines_lifted (os : Os) (started : os.Started) (H : Type) (enc : TypeId × Value → H) :
    ReturnsInHanded {} Try.checked os 5 .any (Rows.pulseLinesSpec.pre6 enc Try.prog Try.f5 Rows.pulseLinesRow.domain false) (Rows.pulseLinesSpec.post enc Try.prog Try.f5 false true false false) := by
  refine returnsInHanded_of_change (C := Try.checked) own started (by kernel_rfl) Try.func5
    (ChangeSpec.witness6 (enc := enc) (C := Try.checked) false ⟨#[], #[.agg #[.int .i64 0, .int .i64 0, .int .i64 0, .slice none 0 0], .slice none 0 0, .int .i64 0], []⟩ 8 (by kernel_rfl) (by kernel_rfl) (by kernel_rfl) (by kernel_rfl)) ?_
  intro W base args ds gs before hval hW _ _
  exact contract_true mixed env_ok laid (d := 20) (ss := [gatesS, .sl (.sl gaussS), .int .i64]) (by kernel_rfl) rfl Try.underlying4 pulseLines_tells pulseLines_run W base args ds gs before hval hW

theorem pulseLines : Rows.PulseLinesSaid :=
  OpenClaim.holds_of_wide 5 Try.f5 rfl rfl rfl rfl rfl rfl rfl ⟨rfl, rfl, rfl, rfl, rfl⟩ rfl rfl rfl rfl rfl (by kernel_rfl) Try.func5 (by kernel_rfl)
    (of_decide_eq_true (by kernel_rfl)) (by unfold Func.isWrapper; first | (rw [if_pos (by decide +kernel)]; kernel_rfl) | (rw [if_neg (by decide +kernel)]; exact ⟨rfl, rfl⟩))
    (fun os started H enc _ => pulseLines_lifted os started H enc)
#print axioms pulseLines
end Go.Proofs.Ytpcpegneobkbdaa
