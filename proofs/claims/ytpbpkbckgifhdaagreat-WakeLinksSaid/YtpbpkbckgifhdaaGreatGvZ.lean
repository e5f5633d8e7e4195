/- From a law that is true by its tree to what its row asks. -/
import Derived.WalkKit
import Derived.ProofKit
import Derived.Test.YtpbpkbckgifhdaaGreatRows
import Derived.Test.YtpbpkbckgifhdaaGreatGvX
import Derived.Test.YtpbpkbckgifhdaaGreatGvY
import Derived.Test.YtpbpkbckgifhdaaGreatGvEnv
namespace Gv
open Go
theorem run_true {env : Nat → Option AFn} {f : Nat} {args : List PV} (h : Fn env f (.one .bool) args = some true) : run env f args = some (.val (.bool true)) := by
 obtain ⟨rv, h1, h2⟩ := Fn_some h
 rw [h1]
 cases rv with
 | val v =>
  have h2 : v = .bool true := h2
  rw [h2]
 | own n sz cs =>
  have h2 : PV.list n cs = .bool true := h2
  cases h2
theorem fits_rows {β : Type} (f : β → List PV) : ∀ (l : List (List PV)), (∀ x ∈ l, ∃ z, x = f z) → ∃ r : List β, r.length = l.length ∧ l.flatten = r.flatMap f
 | [], _ => ⟨[], rfl, rfl⟩
 | x :: l, h => by
  obtain ⟨z, hz⟩ := h x (by simp)
  obtain ⟨r, h1, h2⟩ := fits_rows f l fun y hy => h y (by simp [hy])
  exact ⟨z :: r, by simp [h1], by simp [hz, h2]⟩
end Gv
namespace Go.Proofs.YtpbpkbckgifhdaaGreat
open Go Gv
theorem own : ownKnob Tryz.prog.godebug = none := by kernel_rfl
theorem mixed : Tryz.prog.follows .mixedOrders = true := by kernel_rfl
theorem laid : laidOutB Tryz.prog = true := by kernel_rfl
end Go.Proofs.YtpbpkbckgifhdaaGreat
