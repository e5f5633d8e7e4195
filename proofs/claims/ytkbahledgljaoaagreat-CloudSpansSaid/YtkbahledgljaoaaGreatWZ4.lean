/- CloudSpans holds: whatever the numbers, the constants and the shares, the law answers true. -/
import Derived.Test.YtkbahledgljaoaaGreatGvZb
import Derived.Test.YtkbahledgljaoaaGreatZQ4
namespace Gv
open Go
def pairS : Shp := .cons (.int .i64) (.cons (.int .i64) .nil)
theorem fits_pair {ps : List PV} (h : Fits pairS ps) : ∃ x y : Int, ps = [.int .i64 x, .int .i64 y] := by
  obtain ⟨x1, y1, rfl, ⟨a, rfl, _⟩, x2, y2, rfl, ⟨b, rfl, _⟩, h3⟩ := h
  simp only [Fits] at h3
  subst h3
  exact ⟨a, b, rfl⟩
def Word2 (z : ZZ) : Prop := z.2 ≤ 9223372036854775807
theorem fits_share {ps : List PV} (h : Fits gaussS ps) : ∃ z : {z : ZZ // Word2 z}, ps = enc2 z.1 := by
  obtain ⟨x, y, rfl, hx, a, b, rfl, ha, hb⟩ := h
  obtain ⟨n, rfl, _⟩ := hx
  obtain ⟨m, rfl, hm⟩ := ha
  simp only [Fits] at hb
  subst hb
  refine ⟨⟨(n, m), ?_⟩, rfl⟩
  exact (wf_i64 hm).2
theorem fits_shares {p : PV} {cs : List PV} (h : Fits (.sl gaussS) cs) (hp : [p] = cs) : ∃ l : List ZZ, p = .list l.length (encG l) ∧ OkD l := by
  obtain ⟨l, rfl, _, hl⟩ := h
  obtain ⟨r, h1, h2⟩ := fits_rows (fun z : {z : ZZ // Word2 z} => enc2 z.1) l fun x hx => fits_share (hl x hx)
  simp only [List.cons.injEq, and_true] at hp
  refine ⟨r.map (·.1), ?_, fun z hz => ?_⟩
  · rw [hp, ← h1, h2, List.length_map]
    simp [encG, List.flatMap_map]
  · obtain ⟨y, _, rfl⟩ := List.mem_map.1 hz
    exact y.2
end Gv
namespace Go.Proofs.YtkbahledgljaoaaGreat
open Go Gv Go.ChangeShapes Go.WideShapes Go.ChangeAt Go.RowKit
set_option maxRecDepth 100000
theorem cloudSpans_run (qs : List PV) (h : FitsArgs [.sl (.int .i64), Gv.pairS, .sl gaussS] qs) : run env 4 qs = some (.val (.bool true)) := by
  obtain ⟨p1, r1, c1, rfl, f1, e1, p2, r2, c2, rfl, f2, e2, p3, r3, c3, rfl, f3, e3, hr⟩ := h
  simp only [FitsArgs] at hr
  subst hr
  obtain ⟨l, rfl⟩ := fits_ints f1 e1
  obtain ⟨x, y, rfl⟩ := fits_pair f2
  obtain ⟨q, rfl, hq⟩ := fits_shares f3 e3
  have e2 : p2 = .agg _ := e2
  subst e2
  exact run_true (Gv.spansLaw l x y q hq)
theorem cloudSpans_tells : Tells Rows.cloudSpansSpec 3 := by
  refine ⟨rfl, fun H ds hl => ?_, fun H ds hl => ?_, fun H ds hl => ?_⟩ <;>
  · match ds, hl with
    | [d1, d2, d3], _ => rfl
theorem cloudSpans_lifted (os : Os) (started : os.Started) (H : Type) (enc : TypeId × Value → H) :
    ReturnsInHanded {} Tryz.checked os 4 .any (Rows.cloudSpansSpec.pre6 enc Tryz.prog Tryz.f4 Rows.cloudSpansRow.domain false) (Rows.cloudSpansSpec.post enc Tryz.prog Tryz.f4 false true false false) := by
  refine returnsInHanded_of_change (C := Tryz.checked) own started (by kernel_rfl) Tryz.func4
    (ChangeSpec.witness6 (enc := enc) (C := Tryz.checked) false ⟨#[], #[.slice none 0 0, .agg #[.int .i64 0, .int .i64 0], .slice none 0 0], []⟩ 8 (by kernel_rfl) (by kernel_rfl) (by kernel_rfl) (by kernel_rfl)) ?_
  intro W base args ds gs before hval hW _ _
  exact contract_true mixed env_ok laid (d := 20) (ss := [.sl (.int .i64), Gv.pairS, .sl gaussS]) (by kernel_rfl) rfl Tryz.underlying4 cloudSpans_tells cloudSpans_run W base args ds gs before hval hW
theorem cloudSpans : Rows.CloudSpansSaid :=
  OpenClaim.holds_of_wide 4 Tryz.f4 rfl rfl rfl rfl rfl rfl rfl ⟨rfl, rfl, rfl, rfl, rfl⟩ rfl rfl rfl rfl rfl (by kernel_rfl) Tryz.func4 (by kernel_rfl)
    (of_decide_eq_true (by kernel_rfl)) (by unfold Func.isWrapper; first | (rw [if_pos (by decide +kernel)]; kernel_rfl) | (rw [if_neg (by decide +kernel)]; exact ⟨rfl, rfl⟩))
    (fun os started H enc _ => cloudSpans_lifted os started H enc)
#print axioms cloudSpans
end Go.Proofs.YtkbahledgljaoaaGreat
