/- slices.Grow at this program. -/
import Derived.KernelRfl
import Derived.Test.YtnoifjomlmadkaaGvGrow
import Derived.Test.YtnoifjomlmadkaaProg
namespace Go.Proofs
open Go.Shelf
def Try.growL127_ren : Go.Shelf.Ren := ⟨fun | 4 => 127 | n => n, fun | 22 => 58 | 25 => 46 | 3 => 3 | 4 => 4 | 9 => 9 | 20 => 20 | 0 => 0 | 2 => 3 | n => n, fun | n => n⟩
theorem Try.growL127 : Go.Proofs.Lays8.n4 Try.prog Try.growL127_ren := {
  mixed := by kernel_rfl
  f4 := ⟨Try.f127.name, by decide, Try.func127.trans (congrArg some (by kernel_rfl))⟩
  t0 := Try.underlying0
  a0 := Try.isAgg0
  z0 := Try.sizeOf0
  v0 := Try.zeroValue0
  t3 := Try.underlying3
  a3 := Try.isAgg3
  z3 := Try.sizeOf3
  v3 := Try.zeroValue3
  t4 := Try.underlying4
  a4 := Try.isAgg4
  z4 := Try.sizeOf4
  v4 := Try.zeroValue4
  t9 := Try.underlying9
  a9 := Try.isAgg9
  z9 := Try.sizeOf9
  v9 := Try.zeroValue9
  t20 := Try.underlying20
  a20 := Try.isAgg20
  z20 := Try.sizeOf20
  v20 := Try.zeroValue20
  t22 := Try.underlying58
  a22 := Try.isAgg58
  z22 := Try.sizeOf58
  v22 := Try.zeroValue58 }
end Go.Proofs
namespace Gv
open Go Go.Proofs
theorem grow127 : GrowOK Try.prog 127 2 := growOK_of Try.growL127 (by kernel_rfl) ⟨Try.f127, Try.func127, by kernel_rfl, by decide⟩
end Gv
