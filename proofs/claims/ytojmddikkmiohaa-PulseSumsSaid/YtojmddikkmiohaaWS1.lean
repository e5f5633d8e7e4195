/- PulseSums holds: whatever the sum and the piece, the law answers true. -/
import Derived.Test.YtojmddikkmiohaaGvZ
import Derived.Test.YtojmddikkmiohaaS38
namespace Go.Proofs.Ytojmddikkmiohaa
open Go Gv Go.ChangeShapes Go.WideShapes Go.ChangeAt Go.RowKit
set_option maxRecDepth 100000

def sumS : Shp := .cons (.sl gaussS) (.cons (.sl gaussS) (.cons (.int .i64) .nil))
theorem fits_sum {ps : List PV} (h : Fits sumS ps) : ∃ (a t : List ZZ) (c : Int), ps = [.list a.length (encG a), .list t.length (encG t), .int .i64 c] := by
  obtain ⟨x1, y1, rfl, h1, x2, y2, rfl, h2, x3, y3, rfl, ⟨c, rfl, _⟩, h4⟩ := h
  simp only [Fits] at h4
  subst h4
  obtain ⟨p, hp⟩ : ∃ p, [p] = x1 := by
    obtain ⟨l, rfl, _⟩ := h1
    exact ⟨_, rfl⟩
  obtain ⟨a, rfl⟩ := fits_gausses h1 hp
  obtain ⟨q, hq⟩ : ∃ p, [p] = x2 := by
    obtain ⟨l, rfl, _⟩ := h2
    exact ⟨_, rfl⟩
  obtain ⟨t, rfl⟩ := fits_gausses h2 hq
  exact ⟨a, t, c, by rw [← hp, ← hq]; rfl⟩

theorem pulseSums_run (qs : List PV) (h : FitsArgs [sumS, .sl gaussS] qs) : run env 9 qs = some (.val (.bool true)) := by
  obtain ⟨p1, r1, c1, rfl, f1, e1, p2, r2, c2, rfl, f2, e2, hr⟩ := h
  simp only [FitsArgs] at hr
  subst hr
  obtain ⟨a, t, c, rfl⟩ := fits_sum f1
  obtain ⟨l, rfl⟩ := fits_gausses f2 e2
  have e1 : p1 = .agg _ := e1
  subst e1
  exact run_true (sumsLaw a t l c)

theorem pulseSums_tells : Tells Rows.pulseSumsSpec 2 := by
  refine ⟨rfl, fun H ds hl => ?_, fun H ds hl => ?_, fun H ds hl => ?_⟩ <;>
  · match ds, hl with
    | [d1, d2], _ => rfl

theorem pulseSums_lifted (os : Os) (started : os.Started) (H : Type) (enc : TypeId × Value → H) :
    ReturnsInHanded {} Try.checked os 9 .any (Rows.pulseSumsSpec.pre6 enc Try.prog Try.f9 Rows.pulseSumsRow.domain false) (Rows.pulseSumsSpec.post enc Try.prog Try.f9 false true false false) := by
  refine returnsInHanded_of_change (C := Try.checked) own started (by kernel_rfl) Try.func9
    (ChangeSpec.witness6 (enc := enc) (C := Try.checked) false ⟨#[], #[.agg #[.slice none 0 0, .slice none 0 0, .int .i64 0], .slice none 0 0], []⟩ 8 (by kernel_rfl) (by kernel_rfl) (by kernel_rfl) (by kernel_rfl)) ?_
  intro W base args ds gs before hval hW _ _
  exact contract_true mixed env_ok laid (d := 20) (ss := [sumS, .sl gaussS]) (by kernel_rfl) rfl Try.underlying4 pulseSums_tells pulseSums_run W base args ds gs before hval hW

theorem pulseSums : Rows.PulseSumsSaid :=
  OpenClaim.holds_of_wide 9 Try.f9 rfl rfl rfl rfl rfl rfl rfl ⟨rfl, rfl, rfl, rfl, rfl⟩ rfl rfl rfl rfl rfl (by kernel_rfl) Try.func9 (by kernel_rfl)
    (of_decide_eq_true (by kernel_rfl)) (by unfold Func.isWrapper; first | (rw [if_pos (by decide +kernel)]; kernel_rfl) | (rw [if_neg (by decide +kernel)]; exact ⟨rfl, rfl⟩))
    (fun os started H enc _ => pulseSums_lifted os started H enc)
#print axioms pulseSums
end Go.Proofs.Ytojmddikkmiohaa
