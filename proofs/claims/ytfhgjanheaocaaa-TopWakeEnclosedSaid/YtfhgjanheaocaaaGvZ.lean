/- From a law that is true by its tree to what its row asks. -/
import Derived.WalkKit
import Derived.ProofKit
import Derived.Test.YtfhgjanheaocaaaRows
import Derived.Test.YtfhgjanheaocaaaGvX
import Derived.Test.YtfhgjanheaocaaaGvY
import Derived.Test.YtfhgjanheaocaaaGvEnv
namespace Gv
open Go
theorem run_true {env : Nat → Option AFn} {f : Nat} {args : List PV} (h : Fn env f (.one .bool) args = some true) : run env f args = some (.val (.bool true)) := by
  obtain ⟨rv, h1, h2⟩ := Fn_some h
  rw [h1]
  cases rv with
  | val v =>
    have h2 : v = .bool true := h2
    rw [h2]
  | own n sz cs =>
    have h2 : PV.list n cs = .bool true := h2
    cases h2
theorem fits_int {k : IntKind} {ps : List PV} (h : Fits (.int k) ps) : ∃ n, ps = [.int k n] ∧ (Lit.int k n).wf = true := h
def gaussS : Shp := .cons (.int .i64) (.cons (.int .i64) .nil)
theorem fits_gauss {ps : List PV} (h : Fits gaussS ps) : ∃ z : ZZ, ps = enc2 z := by
  obtain ⟨x, y, rfl, hx, a, b, rfl, ha, hb⟩ := h
  obtain ⟨n, rfl, _⟩ := hx
  obtain ⟨m, rfl, _⟩ := ha
  simp only [Fits] at hb
  subst hb
  exact ⟨(n, m), rfl⟩
theorem fits_rows {β : Type} (f : β → List PV) : ∀ (l : List (List PV)), (∀ x ∈ l, ∃ z, x = f z) → ∃ r : List β, r.length = l.length ∧ l.flatten = r.flatMap f
  | [], _ => ⟨[], rfl, rfl⟩
  | x :: l, h => by
    obtain ⟨z, hz⟩ := h x (by simp)
    obtain ⟨r, h1, h2⟩ := fits_rows f l fun y hy => h y (by simp [hy])
    exact ⟨z :: r, by simp [h1], by simp [hz, h2]⟩
theorem fits_gausses {p : PV} {cs : List PV} (h : Fits (.sl gaussS) cs) (hp : [p] = cs) : ∃ l : List ZZ, p = .list l.length (encG l) := by
  obtain ⟨l, rfl, _, hl⟩ := h
  obtain ⟨r, h1, h2⟩ := fits_rows enc2 l fun x hx => fits_gauss (hl x hx)
  simp only [List.cons.injEq, and_true] at hp
  refine ⟨r, ?_⟩
  rw [hp, ← h1, h2]
  rfl
theorem fits_num {p : PV} {k : IntKind} {cs : List PV} (h : Fits (.int k) cs) (hp : [p] = cs) : ∃ n, p = .int k n ∧ (Lit.int k n).wf = true := by
  obtain ⟨n, rfl, hw⟩ := h
  simp only [List.cons.injEq, and_true] at hp
  exact ⟨n, hp, hw⟩
theorem wf_i64 {n : Int} (h : (Lit.int .i64 n).wf = true) : -9223372036854775808 ≤ n ∧ n ≤ 9223372036854775807 := by
  simp only [Lit.wf, Bool.and_eq_true, decide_eq_true_eq] at h
  have h1 : IntKind.min .i64 = -9223372036854775808 := by decide +kernel
  have h2 : IntKind.max .i64 = 9223372036854775807 := by decide +kernel
  omega
end Gv
namespace Go.Proofs.Ytfhgjanheaocaaa
open Go Gv
theorem own : ownKnob Try.prog.godebug = none := by kernel_rfl
theorem mixed : Try.prog.follows .mixedOrders = true := by kernel_rfl
theorem laid : laidOutB Try.prog = true := by kernel_rfl
end Go.Proofs.Ytfhgjanheaocaaa
