/- What ShearProfiles does, as a whole. -/
import Derived.Test.YtggnifebabjoiaaP13a
namespace Gv
open Go
set_option maxRecDepth 100000
set_option maxHeartbeats 4000000
theorem tlaw4_eq (F : FnT) (L1000062 : Q → Option Ylaw4_1000062) (L1000046 : Q → Option Ylaw4_1000046) (L1000032 : Q → Option Ylaw4_1000032) (p0n : Nat) (p0c : List PV) (p1_0 : Int) (p1_1 : Int) (p2_0 : Int) (p2_1 : Int) : semF (callP F Elaw4 20) s4 (loopT [⟨1000062, Ylaw4_1000062, L1000062, XLlaw4_1000062⟩, ⟨1000046, Ylaw4_1000046, L1000046, XLlaw4_1000046⟩, ⟨1000032, Ylaw4_1000032, L1000032, XLlaw4_1000032⟩]) 400 a4 [PV.list p0n p0c, PV.agg [PV.int .i64 p1_0, PV.int .i64 p1_1], PV.agg [PV.int .i64 p2_0, PV.int .i64 p2_1]] (fun rv => decR (RSh.one CK.bool) rv.pv) = tlaw4 F L1000062 L1000046 L1000032 p0n p0c p1_0 p1_1 p2_0 p2_1 := by kernel_rfl
noncomputable abbrev Flaw4 (args : List PV) := Fn env 4 (RSh.one CK.bool) args
theorem Flaw4_of  (p0n : Nat) (p0c : List PV) (p1_0 : Int) (p1_1 : Int) (p2_0 : Int) (p2_1 : Int) {res : (Bool)} (h : tlaw4 (Fn env) Llaw4_1000062 Llaw4_1000046 Llaw4_1000032 p0n p0c p1_0 p1_1 p2_0 p2_1 = some res) : Flaw4 [PV.list p0n p0c, PV.agg [PV.int .i64 p1_0, PV.int .i64 p1_1], PV.agg [PV.int .i64 p2_0, PV.int .i64 p2_1]] = some res :=
  fn_of Elaw4_ok rfl rfl (lo_cons (lpO_ok Ulaw4) (lo_cons (lpO_ok Ulaw4) (lo_cons (lpO_ok Ulaw4) lo_nil))) ((tlaw4_eq _ _ _ _ _ _ _ _ _ _).trans h)
end Gv
