/- What the functions do, round by round: ZC5. -/
import Derived.Test.YtkbahledgljaoaaGreatZC4
namespace Gv
open Go
set_option maxRecDepth 100000

/-! ### glidepathbase_Size -/

def Eglidepathbase_Size : List Entry := []
theorem Eglidepathbase_Size_ok : ∀ e ∈ Eglidepathbase_Size, EntOK env e := ent_nil
theorem Uglidepathbase_Size : uniq ((blocksOf a142.body).map (·.1)) = true := by kernel_rfl
def tglidepathbase_Size (F : FnT) (p0 : Int) : Option (Int) :=
  some (if ((w64 ((0 : Int) - p0)) > p0) then (w64 ((0 : Int) - p0)) else p0)
theorem tglidepathbase_Size_eq (F : FnT) (p0 : Int) : semF (callP F Eglidepathbase_Size 20) s142 (loopT []) 400 a142 [PV.int IntKind.i64 p0] (fun rv => decR (RSh.one (CK.int IntKind.i64)) rv.pv) = tglidepathbase_Size F p0 := by kernel_rfl
noncomputable abbrev Fglidepathbase_Size (args : List PV) := Fn env 142 (RSh.one (CK.int IntKind.i64)) args
theorem Fglidepathbase_Size_of  (p0 : Int) {res : (Int)} (h : tglidepathbase_Size (Fn env) p0 = some res) : Fglidepathbase_Size [PV.int IntKind.i64 p0] = some res :=
  fn_of Eglidepathbase_Size_ok rfl rfl lo_nil ((tglidepathbase_Size_eq _ _).trans h)

end Gv
