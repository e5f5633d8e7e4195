/- ScanWays holds: whatever the head and both directions, the law answers true. -/
import Derived.Test.YtnoifjomlmadkaaWH
import Derived.Test.YtnoifjomlmadkaaSW4
namespace Go.Proofs.Ytnoifjomlmadkaa
open Go Gv Go.ChangeShapes Go.WideShapes Go.ChangeAt Go.RowKit
set_option maxRecDepth 100000

theorem scanWays_run (qs : List PV) (h : FitsArgs [headS, axS, axS] qs) : run env 8 qs = some (.val (.bool true)) := by
  obtain ⟨p1, r1, c1, rfl, f1, e1, p2, r2, c2, rfl, f2, e2, p3, r3, c3, rfl, f3, e3, hr⟩ := h
  simp only [FitsArgs] at hr
  subst hr
  have e1 : p1 = .agg _ := e1
  obtain ⟨h, hh⟩ := fits_head f1
  rw [hh] at e1
  subst e1
  obtain ⟨x, y, rfl⟩ := fits_ax f2
  have e2 : p2 = .agg _ := e2
  subst e2
  obtain ⟨z, v, rfl⟩ := fits_ax f3
  have e3 : p3 = .agg _ := e3
  subst e3
  exact run_true (waysLaw h (x, y) (z, v))

theorem scanWays_tells : Tells Rows.scanWaysSpec 3 := by
  refine ⟨rfl, fun H ds hl => ?_, fun H ds hl => ?_, fun H ds hl => ?_⟩ <;>
  · match ds, hl with
    | [d1, d2, d3], _ => rfl

theorem scanWays_lifted (os : Os) (started : os.Started) (H : Type) (enc : TypeId × Value → H) :
    ReturnsInHanded {} Try.checked os 8 .any (Rows.scanWaysSpec.pre6 enc Try.prog Try.f8 Rows.scanWaysRow.domain false) (Rows.scanWaysSpec.post enc Try.prog Try.f8 false true false false) := by
  refine returnsInHanded_of_change (C := Try.checked) own started (by kernel_rfl) Try.func8
    (ChangeSpec.witness6 (enc := enc) (C := Try.checked) false ⟨#[], #[.agg #[.int .i64 0, .int .i64 0, .int .i64 0, .int .i64 0, .int .i64 0, .int .i64 0, .slice none 0 0], .agg #[.int .i64 0, .int .i64 0], .agg #[.int .i64 0, .int .i64 0]], []⟩ 8 (by kernel_rfl) (by kernel_rfl) (by kernel_rfl) (by kernel_rfl)) ?_
  intro W base args ds gs before hval hW _ _
  exact contract_true mixed env_ok laid (d := 20) (ss := [headS, axS, axS]) (by kernel_rfl) rfl Try.underlying4 scanWays_tells scanWays_run W base args ds gs before hval hW

theorem scanWays : Rows.ScanWaysSaid :=
  OpenClaim.holds_of_wide 8 Try.f8 rfl rfl rfl rfl rfl rfl rfl ⟨rfl, rfl, rfl, rfl, rfl⟩ rfl rfl rfl rfl rfl (by kernel_rfl) Try.func8 (by kernel_rfl)
    (of_decide_eq_true (by kernel_rfl)) (by unfold Func.isWrapper; first | (rw [if_pos (by decide +kernel)]; kernel_rfl) | (rw [if_neg (by decide +kernel)]; exact ⟨rfl, rfl⟩))
    (fun os started H enc _ => scanWays_lifted os started H enc)
#print axioms scanWays
end Go.Proofs.Ytnoifjomlmadkaa
