/- ScanDrives holds: whatever the drive, the number of ticks and the distance, the law answers true. -/
import Derived.Test.YtnnajeahbhempaaGvZ
import Derived.Test.YtnnajeahbhempaaSS2
namespace Go.Proofs.Ytnnajeahbhempaa
open Go Gv Go.ChangeShapes Go.WideShapes Go.ChangeAt Go.RowKit
set_option maxRecDepth 100000

def axisS : Shp := .cons (.int .i64) (.cons (.int .i64) .nil)
theorem fits_axis {ps : List PV} (h : Fits axisS ps) : ∃ a b : Int, ps = [.int .i64 a, .int .i64 b] := by
  obtain ⟨x1, y1, rfl, ⟨a, rfl, _⟩, x2, y2, rfl, ⟨b, rfl, _⟩, h3⟩ := h
  simp only [Fits] at h3
  subst h3
  exact ⟨a, b, rfl⟩

theorem scanDrives_run (qs : List PV) (h : FitsArgs [axisS, .int .i64, .int .i64] qs) : run env 3 qs = some (.val (.bool true)) := by
  obtain ⟨p1, r1, c1, rfl, f1, e1, p2, r2, c2, rfl, f2, e2, p3, r3, c3, rfl, f3, e3, hr⟩ := h
  simp only [FitsArgs] at hr
  subst hr
  obtain ⟨x, y, rfl⟩ := fits_axis f1
  have e1 : p1 = .agg _ := e1
  subst e1
  obtain ⟨t, rfl, _⟩ := fits_num f2 e2
  obtain ⟨d, rfl, _⟩ := fits_num f3 e3
  exact run_true (drivesLaw x y t d)

theorem scanDrives_tells : Tells Rows.scanDrivesSpec 3 := by
  refine ⟨rfl, fun H ds hl => ?_, fun H ds hl => ?_, fun H ds hl => ?_⟩ <;>
  · match ds, hl with
    | [d1, d2, d3], _ => rfl

theorem scanDrives_lifted (os : Os) (started : os.Started) (H : Type) (enc : TypeId × Value → H) :
    ReturnsInHanded {} Try.checked os 3 .any (Rows.scanDrivesSpec.pre6 enc Try.prog Try.f3 Rows.scanDrivesRow.domain false) (Rows.scanDrivesSpec.post enc Try.prog Try.f3 false true false false) := by
  refine returnsInHanded_of_change (C := Try.checked) own started (by kernel_rfl) Try.func3
    (ChangeSpec.witness6 (enc := enc) (C := Try.checked) false ⟨#[], #[.agg #[.int .i64 0, .int .i64 0], .int .i64 0, .int .i64 0], []⟩ 8 (by kernel_rfl) (by kernel_rfl) (by kernel_rfl) (by kernel_rfl)) ?_
  intro W base args ds gs before hval hW _ _
  exact contract_true mixed env_ok laid (d := 20) (ss := [axisS, .int .i64, .int .i64]) (by kernel_rfl) rfl Try.underlying4 scanDrives_tells scanDrives_run W base args ds gs before hval hW

theorem scanDrives : Rows.ScanDrivesSaid :=
  OpenClaim.holds_of_wide 3 Try.f3 rfl rfl rfl rfl rfl rfl rfl ⟨rfl, rfl, rfl, rfl, rfl⟩ rfl rfl rfl rfl rfl (by kernel_rfl) Try.func3 (by kernel_rfl)
    (of_decide_eq_true (by kernel_rfl)) (by unfold Func.isWrapper; first | (rw [if_pos (by decide +kernel)]; kernel_rfl) | (rw [if_neg (by decide +kernel)]; exact ⟨rfl, rfl⟩))
    (fun os started H enc _ => scanDrives_lifted os started H enc)
#print axioms scanDrives
end Go.Proofs.Ytnnajeahbhempaa
