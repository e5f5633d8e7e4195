/- WakeAccepted holds: whatever the matrix and the assignment with potentials, the law answers true. -/
import Derived.Test.YtpbpkbckgifhdaaGvZw
import Derived.Test.YtpbpkbckgifhdaaL5
namespace Go.Proofs.Ytpbpkbckgifhdaa
open Go Gv Go.ChangeShapes Go.WideShapes Go.ChangeAt Go.RowKit
set_option maxRecDepth 100000
def proofS : Shp := .cons (.sl (.int .i64)) (.cons (.sl (.int .i64)) (.cons (.sl (.int .i64)) .nil))
theorem fits_ints1 {cs : List PV} (h : Fits (.sl (.int .i64)) cs) : ∃ l : List Int, cs = [.list l.length (encI l)] := by
  obtain ⟨p, hp⟩ : ∃ p, [p] = cs := by
    obtain ⟨l, rfl, _⟩ := h
    exact ⟨_, rfl⟩
  obtain ⟨l, rfl⟩ := fits_ints h hp
  exact ⟨l, hp.symm⟩
theorem fits_proof {ps : List PV} (h : Fits proofS ps) : ∃ a b c : List Int, ps = [.list a.length (encI a), .list b.length (encI b), .list c.length (encI c)] := by
  obtain ⟨x1, y1, rfl, h1, x2, y2, rfl, h2, x3, y3, rfl, h3, h5⟩ := h
  simp only [Fits] at h5
  subst h5
  obtain ⟨a, rfl⟩ := fits_ints1 h1
  obtain ⟨b, rfl⟩ := fits_ints1 h2
  obtain ⟨c, rfl⟩ := fits_ints1 h3
  exact ⟨a, b, c, rfl⟩
theorem wakeAccepted_run (qs : List PV) (h : FitsArgs [.sl (.sl (.int .i64)), proofS] qs) : run env 5 qs = some (.val (.bool true)) := by
  obtain ⟨p1, r1, c1, rfl, f1, e1, p2, r2, c2, rfl, f2, e2, hr⟩ := h
  simp only [FitsArgs] at hr
  subst hr
  obtain ⟨L, rfl⟩ := fits_lists f1 e1
  obtain ⟨a, R, C, rfl⟩ := fits_proof f2
  have e2 : p2 = .agg _ := e2
  subst e2
  exact run_true (Gv.acceptedLaw L a R C)
theorem wakeAccepted_tells : Tells Rows.wakeAcceptedSpec 2 := by
  refine ⟨rfl, fun H ds hl => ?_, fun H ds hl => ?_, fun H ds hl => ?_⟩ <;>
  · match ds, hl with
    | [d1, d2], _ => rfl
theorem wakeAccepted_lifted (os : Os) (started : os.Started) (H : Type) (enc : TypeId × Value → H) :
    ReturnsInHanded {} Try.checked os 5 .any (Rows.wakeAcceptedSpec.pre6 enc Try.prog Try.f5 Rows.wakeAcceptedRow.domain false) (Rows.wakeAcceptedSpec.post enc Try.prog Try.f5 false true false false) := by
  refine returnsInHanded_of_change (C := Try.checked) own started (by kernel_rfl) Try.func5
    (ChangeSpec.witness6 (enc := enc) (C := Try.checked) false ⟨#[], #[.slice none 0 0, .agg #[.slice none 0 0, .slice none 0 0, .slice none 0 0]], []⟩ 8 (by kernel_rfl) (by kernel_rfl) (by kernel_rfl) (by kernel_rfl)) ?_
  intro W base args ds gs before hval hW _ _
  exact contract_true mixed env_ok laid (d := 20) (ss := [.sl (.sl (.int .i64)), proofS]) (by kernel_rfl) rfl Try.underlying4 wakeAccepted_tells wakeAccepted_run W base args ds gs before hval hW
theorem wakeAccepted : Rows.WakeAcceptedSaid :=
  OpenClaim.holds_of_wide 5 Try.f5 rfl rfl rfl rfl rfl rfl rfl ⟨rfl, rfl, rfl, rfl, rfl⟩ rfl rfl rfl rfl rfl (by kernel_rfl) Try.func5 (by kernel_rfl)
    (of_decide_eq_true (by kernel_rfl)) (by unfold Func.isWrapper; first | (rw [if_pos (by decide +kernel)]; kernel_rfl) | (rw [if_neg (by decide +kernel)]; exact ⟨rfl, rfl⟩))
    (fun os started H enc _ => wakeAccepted_lifted os started H enc)
#print axioms wakeAccepted
end Go.Proofs.Ytpbpkbckgifhdaa
