/- From a law that is true by its tree to what its row asks. -/
import Derived.WalkKit
import Derived.ProofKit
import Derived.Test.YtggnifebabjoiaaRows
import Derived.Test.YtggnifebabjoiaaGvX
import Derived.Test.YtggnifebabjoiaaGvY
import Derived.Test.YtggnifebabjoiaaGvEnv
namespace Gv
open Go
theorem run_true {env : Nat → Option AFn} {f : Nat} {args : List PV} (h : Fn env f (.one .bool) args = some true) : run env f args = some (.val (.bool true)) := by
  obtain ⟨rv, h1, h2⟩ := Fn_some h
  rw [h1]
  cases rv with
  | val v =>
    have h2 : v = .bool true := h2
    rw [h2]
  | own n sz cs =>
    have h2 : PV.list n cs = .bool true := h2
    cases h2
end Gv
namespace Go.Proofs.Ytggnifebabjoiaa
open Go Gv
theorem own : ownKnob Try.prog.godebug = none := by kernel_rfl
theorem mixed : Try.prog.follows .mixedOrders = true := by kernel_rfl
theorem laid : laidOutB Try.prog = true := by kernel_rfl
end Go.Proofs.Ytggnifebabjoiaa
