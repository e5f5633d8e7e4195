/- Paths: what the program and the specification accept. -/
import Derived.Test.YtpbpkbckgifhdaaK14
import Derived.Test.YtpbpkbckgifhdaaB3
namespace Gv
open Go
set_option maxRecDepth 100000
abbrev Z3 := Int × Int × Int
def enc3 (z : Z3) : List PV := [.int .i64 z.1, .int .i64 z.2.1, .int .i64 z.2.2]
def encT (l : List Z3) : List PV := l.flatMap enc3
def Hd (b : B6) (v : Z3) : Prop := (b.1 ≤ v.1 ∧ v.1 ≤ b.2.1) ∧ (b.2.2.1 ≤ v.2.1 ∧ v.2.1 ≤ b.2.2.2.1) ∧ (b.2.2.2.2.1 ≤ v.2.2 ∧ v.2.2 ≤ b.2.2.2.2.2)
instance (b : B6) (v : Z3) : Decidable (Hd b v) := by unfold Hd; exact inferInstance
def InB (a b : B6) : Prop := b.1 ≤ a.1 ∧ a.2.1 ≤ b.2.1 ∧ b.2.2.1 ≤ a.2.2.1 ∧ a.2.2.2.1 ≤ b.2.2.2.1 ∧ b.2.2.2.2.1 ≤ a.2.2.2.2.1 ∧ a.2.2.2.2.2 ≤ b.2.2.2.2.2
instance (a b : B6) : Decidable (InB a b) := by unfold InB; exact inferInstance
end Gv
