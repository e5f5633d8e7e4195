/- PulseCleaned: proved. -/
import Derived.WalkKit
import Derived.ProofKit
import Derived.Test.YtibgngimbdldcaaRows
import Derived.Test.YtibgngimbdldcaaGvX
import Derived.Test.YtibgngimbdldcaaV2
namespace Go.Proofs.Ytibgngimbdldcaa
open Go Gv Go.ChangeShapes Go.WideShapes Go.ChangeAt Go.RowKit
set_option maxRecDepth 100000

theorem own : ownKnob Try.prog.godebug = none := by kernel_rfl
theorem mixed : Try.prog.follows .mixedOrders = true := by kernel_rfl
theorem laid : laidOutB Try.prog = true := by kernel_rfl

def count : Shp := .cons (.int .i64) (.cons (.arr 4 (.int .i64)) .nil)

theorem fits_int {k : IntKind} {ps : List PV} (h : Fits (.int k) ps) : ∃ n, ps = [.int k n] := let ⟨n, h, _⟩ := h; ⟨n, h⟩

theorem fits_count {ps : List PV} (h : Fits count ps) : ∃ p a b c d : Int, ps = [.int .i64 p, .int .i64 a, .int .i64 b, .int .i64 c, .int .i64 d] := by
  obtain ⟨x, y, rfl, hx, z, t, rfl, hz, ht⟩ := h
  obtain ⟨p, rfl⟩ := fits_int hx
  obtain ⟨l, hl, rfl, hi⟩ := hz
  simp only [Fits] at ht
  subst ht
  match l, hl, hi with
  | [u0, u1, u2, u3], _, hi =>
    obtain ⟨a, rfl⟩ := fits_int (hi u0 (by simp))
    obtain ⟨b, rfl⟩ := fits_int (hi u1 (by simp))
    obtain ⟨c, rfl⟩ := fits_int (hi u2 (by simp))
    obtain ⟨d, rfl⟩ := fits_int (hi u3 (by simp))
    exact ⟨p, a, b, c, d, rfl⟩

theorem run_cleaned (qs : List PV) (h : FitsArgs [count, count] qs) : run env 6 qs = some (.val (.bool true)) := by
  obtain ⟨p, r, cs, rfl, hc, hp, p', r', cs', rfl, hc', hp', hr⟩ := h
  simp only [FitsArgs] at hr
  subst hr
  obtain ⟨a0, a1, a2, a3, a4, rfl⟩ := fits_count hc
  obtain ⟨b0, b1, b2, b3, b4, rfl⟩ := fits_count hc'
  have e : p = .agg _ := hp
  have e' : p' = .agg _ := hp'
  subst e
  subst e'
  exact run6 a0 a1 a2 a3 a4 b0 b1 b2 b3 b4

theorem tells : Tells Rows.pulseCleanedSpec 2 := by
  refine ⟨rfl, fun H ds hl => ?_, fun H ds hl => ?_, fun H ds hl => ?_⟩ <;>
  · match ds, hl with
    | [d1, d2], _ => rfl

theorem cleaned_lifted (os : Os) (started : os.Started) (H : Type) (enc : TypeId × Value → H) :
    ReturnsInHanded {} Try.checked os 6 .any (Rows.pulseCleanedSpec.pre6 enc Try.prog Try.f6 Rows.pulseCleanedRow.domain false) (Rows.pulseCleanedSpec.post enc Try.prog Try.f6 false true false false) := by
  refine returnsInHanded_of_change (C := Try.checked) own started (by kernel_rfl) Try.func6
    (ChangeSpec.witness6 (enc := enc) (C := Try.checked) false ⟨#[], #[.agg #[.int .i64 0, .int .i64 0, .int .i64 0, .int .i64 0, .int .i64 0], .agg #[.int .i64 0, .int .i64 0, .int .i64 0, .int .i64 0, .int .i64 0]], []⟩ 8 (by kernel_rfl) (by kernel_rfl) (by kernel_rfl) (by kernel_rfl)) ?_
  intro W base args ds gs before hval hW _ _
  exact contract_true mixed env_ok laid (d := 20) (ss := [count, count]) (by kernel_rfl) rfl Try.underlying4 tells run_cleaned W base args ds gs before hval hW

theorem pulseCleaned : Rows.PulseCleanedSaid :=
  OpenClaim.holds_of_wide 6 Try.f6 rfl rfl rfl rfl rfl rfl rfl ⟨rfl, rfl, rfl, rfl, rfl⟩ rfl rfl rfl rfl rfl (by kernel_rfl) Try.func6 (by kernel_rfl)
    (of_decide_eq_true (by kernel_rfl)) (by unfold Func.isWrapper; first | (rw [if_pos (by decide +kernel)]; kernel_rfl) | (rw [if_neg (by decide +kernel)]; exact ⟨rfl, rfl⟩))
    (fun os started H enc _ => cleaned_lifted os started H enc)
#print axioms pulseCleaned
end Go.Proofs.Ytibgngimbdldcaa
