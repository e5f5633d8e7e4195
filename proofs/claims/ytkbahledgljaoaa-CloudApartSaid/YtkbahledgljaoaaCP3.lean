/- What the functions do, round by round: CP3. -/
import Derived.Test.YtkbahledgljaoaaCP1
namespace Gv
open Go
set_option maxRecDepth 100000
def Ecloud_firstError_4 : List Entry := []
theorem Ecloud_firstError_4_ok : ∀ e ∈ Ecloud_firstError_4, EntOK env e := ent_nil
def tcloud_firstError_4 (F : FnT)(e0 e1 e2 e3 : Int) : Option (Int) :=
  bif (e0 != (0 : Int)) then
    some e0
  else bif (e1 != (0 : Int)) then
    some e1
  else bif (e2 != (0 : Int)) then
    some e2
  else bif (e3 != (0 : Int)) then
    some e3
  else some (0 : Int)
theorem tcloud_firstError_4_eq (F : FnT)(e0 e1 e2 e3 : Int) : semF (callP F Ecloud_firstError_4 20) s54 (loopT []) 400 a54 [.list 4 [.int .i64 e0, .int .i64 e1, .int .i64 e2, .int .i64 e3]] (fun rv => decR (RSh.one (CK.int .i64)) rv.pv) = tcloud_firstError_4 F e0 e1 e2 e3 := by kernel_rfl
noncomputable abbrev Fcloud_firstError_4 (args : List PV) := Fn env 54 (RSh.one (CK.int .i64)) args
theorem Fcloud_firstError_4_of (e0 e1 e2 e3 : Int) {res : (Int)} (h : tcloud_firstError_4 (Fn env) e0 e1 e2 e3 = some res) : Fcloud_firstError_4 [.list 4 [.int .i64 e0, .int .i64 e1, .int .i64 e2, .int .i64 e3]] = some res :=
  fn_of Ecloud_firstError_4_ok rfl rfl lo_nil ((tcloud_firstError_4_eq _ _ _ _ _).trans h)
end Gv
