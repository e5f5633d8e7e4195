/- WakeLinks holds: whatever the vortices and the cost of a miss, the law answers true. -/
import Derived.Test.YtpbpkbckgifhdaaGreatGvZw
import Derived.Test.YtpbpkbckgifhdaaGreatL4
namespace Go.Proofs.YtpbpkbckgifhdaaGreat
open Go Gv Go.ChangeShapes Go.WideShapes Go.ChangeAt Go.RowKit
set_option maxRecDepth 100000
theorem wakeLinks_run (qs : List PV) (h : FitsArgs [.sl vortS, .sl vortS, .int .i64] qs) : run env 4 qs = some (.val (.bool true)) := by
 obtain ⟨p1, r1, c1, rfl, f1, e1, p2, r2, c2, rfl, f2, e2, p3, r3, c3, rfl, f3, e3, hr⟩ := h
 simp only [FitsArgs] at hr
 subst hr
 obtain ⟨a, rfl, _⟩ := fits_vortsN f1 e1
 obtain ⟨b, rfl, _⟩ := fits_vortsN f2 e2
 obtain ⟨n, rfl, _⟩ := f3
 have e3 : [p3] = [.int .i64 n] := e3
 cases e3
 exact run_true (Gv.linksLaw a b n)
theorem wakeLinks_tells : Tells Rows.wakeLinksSpec 3 := by
 refine ⟨rfl, fun H ds hl => ?_, fun H ds hl => ?_, fun H ds hl => ?_⟩ <;>
 ·match ds, hl with
  | [d1, d2, d3], _ => rfl
theorem wakeLinks_lifted (os : Os) (started : os.Started) (H : Type) (enc : TypeId × Value → H) :
  ReturnsInHanded {} Tryz.checked os 4 .any (Rows.wakeLinksSpec.pre6 enc Tryz.prog Tryz.f4 Rows.wakeLinksRow.domain false) (Rows.wakeLinksSpec.post enc Tryz.prog Tryz.f4 false true false false) := by
 refine returnsInHanded_of_change (C := Tryz.checked) own started (by kernel_rfl) Tryz.func4
  (ChangeSpec.witness6 (enc := enc) (C := Tryz.checked) false ⟨#[], #[.slice none 0 0, .slice none 0 0, .int .i64 0], []⟩ 8 (by kernel_rfl) (by kernel_rfl) (by kernel_rfl) (by kernel_rfl)) ?_
 intro W base args ds gs before hval hW _ _
 exact contract_true mixed env_ok laid (d := 20) (ss := [.sl vortS, .sl vortS, .int .i64]) (by kernel_rfl) rfl Tryz.underlying4 wakeLinks_tells wakeLinks_run W base args ds gs before hval hW
theorem wakeLinks : Rows.WakeLinksSaid :=
 OpenClaim.holds_of_wide 4 Tryz.f4 rfl rfl rfl rfl rfl rfl rfl ⟨rfl, rfl, rfl, rfl, rfl⟩ rfl rfl rfl rfl rfl (by kernel_rfl) Tryz.func4 (by kernel_rfl)
  (of_decide_eq_true (by kernel_rfl)) (by unfold Func.isWrapper; first | (rw [if_pos (by decide +kernel)]; kernel_rfl) | (rw [if_neg (by decide +kernel)]; exact ⟨rfl, rfl⟩))
  (fun os started H enc _ => wakeLinks_lifted os started H enc)
#print axioms wakeLinks
end Go.Proofs.YtpbpkbckgifhdaaGreat
