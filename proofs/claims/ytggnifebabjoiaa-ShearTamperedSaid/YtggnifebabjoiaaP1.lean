/- What the functions do, round by round: P1. -/
import Derived.Test.YtggnifebabjoiaaGvEnv
namespace Gv
open Go
set_option maxRecDepth 100000
def EeIf : List Entry := []
theorem EeIf_ok : ∀ e ∈ EeIf, EntOK env e := ent_nil
def teIf (_F : FnT) (p0 : Bool) (p1 : Int) : Option (Int) :=
  bif p0 then
    some p1
  else some (0 : Int)
theorem teIf_eq (F : FnT) (p0 : Bool) (p1 : Int) : semF (callP F EeIf 20) s79 (loopT []) 400 a79 [PV.bool p0, PV.int .i64 p1] (fun rv => decR (RSh.one (CK.int .i64)) rv.pv) = teIf F p0 p1 := by kernel_rfl
noncomputable abbrev FeIf (args : List PV) := Fn env 79 (RSh.one (CK.int .i64)) args
theorem FeIf_of  (p0 : Bool) (p1 : Int) {res : (Int)} (h : teIf (Fn env) p0 p1 = some res) : FeIf [PV.bool p0, PV.int .i64 p1] = some res :=
  fn_of EeIf_ok rfl rfl lo_nil ((teIf_eq _ _ _).trans h)
def ErE : List Entry := [.inl 79 a79 s79]
theorem ErE_ok : ∀ e ∈ ErE, EntOK env e := (ent_inl rfl ent_nil)
def trE (_F : FnT) (p0 : Int) (p1 : Int) (p2 : Int) : Option (Int) :=
  bif (decide (p0 < p1)) then
    some (2 : Int)
  else bif (decide (p0 > p2)) then
    some (2 : Int)
  else some (0 : Int)
theorem trE_eq (F : FnT) (p0 : Int) (p1 : Int) (p2 : Int) : semF (callP F ErE 20) s78 (loopT []) 400 a78 [PV.int .i64 p0, PV.int .i64 p1, PV.int .i64 p2] (fun rv => decR (RSh.one (CK.int .i64)) rv.pv) = trE F p0 p1 p2 := by kernel_rfl
noncomputable abbrev FrE (args : List PV) := Fn env 78 (RSh.one (CK.int .i64)) args
theorem FrE_of  (p0 : Int) (p1 : Int) (p2 : Int) {res : (Int)} (h : trE (Fn env) p0 p1 p2 = some res) : FrE [PV.int .i64 p0, PV.int .i64 p1, PV.int .i64 p2] = some res :=
  fn_of ErE_ok rfl rfl lo_nil ((trE_eq _ _ _ _).trans h)
def EwE : List Entry := [.out 78 (RSh.one (CK.int .i64))]
theorem EwE_ok : ∀ e ∈ EwE, EntOK env e := (ent_out ent_nil)
def twE (F : FnT) (p0 : Int) : Option (Int) :=
  bindO (F 78 (RSh.one (CK.int .i64)) [(PV.int .i64 p0), (PV.int .i64 (0 : Int)), (PV.int .i64 (250 : Int))]) fun (y0 : (Int)) =>
  some y0
theorem twE_eq (F : FnT) (p0 : Int) : semF (callP F EwE 20) s112 (loopT []) 400 a112 [PV.int .i64 p0] (fun rv => decR (RSh.one (CK.int .i64)) rv.pv) = twE F p0 := by kernel_rfl
noncomputable abbrev FwE (args : List PV) := Fn env 112 (RSh.one (CK.int .i64)) args
theorem FwE_of  (p0 : Int) {res : (Int)} (h : twE (Fn env) p0 = some res) : FwE [PV.int .i64 p0] = some res :=
  fn_of EwE_ok rfl rfl lo_nil ((twE_eq _ _).trans h)
def EfE3 : List Entry := []
theorem EfE3_ok : ∀ e ∈ EfE3, EntOK env e := ent_nil
def tfE3 (_F : FnT)(e0 e1 e2 : Int) : Option (Int) :=
  bif (e0 != (0 : Int)) then
    some e0
  else bif (e1 != (0 : Int)) then
    some e1
  else bif (e2 != (0 : Int)) then
    some e2
  else some (0 : Int)
theorem tfE3_eq (F : FnT)(e0 e1 e2 : Int) : semF (callP F EfE3 20) s73 (loopT []) 400 a73 [.list 3 [.int .i64 e0, .int .i64 e1, .int .i64 e2]] (fun rv => decR (RSh.one (CK.int .i64)) rv.pv) = tfE3 F e0 e1 e2 := by kernel_rfl
noncomputable abbrev FfE3 (args : List PV) := Fn env 73 (RSh.one (CK.int .i64)) args
theorem FfE3_of (e0 e1 e2 : Int) {res : (Int)} (h : tfE3 (Fn env) e0 e1 e2 = some res) : FfE3 [.list 3 [.int .i64 e0, .int .i64 e1, .int .i64 e2]] = some res :=
  fn_of EfE3_ok rfl rfl lo_nil ((tfE3_eq _ _ _ _).trans h)
def EfE4 : List Entry := []
theorem EfE4_ok : ∀ e ∈ EfE4, EntOK env e := ent_nil
def tfE4 (_F : FnT)(e0 e1 e2 e3 : Int) : Option (Int) :=
  bif (e0 != (0 : Int)) then
    some e0
  else bif (e1 != (0 : Int)) then
    some e1
  else bif (e2 != (0 : Int)) then
    some e2
  else bif (e3 != (0 : Int)) then
    some e3
  else some (0 : Int)
theorem tfE4_eq (F : FnT)(e0 e1 e2 e3 : Int) : semF (callP F EfE4 20) s73 (loopT []) 400 a73 [.list 4 [.int .i64 e0, .int .i64 e1, .int .i64 e2, .int .i64 e3]] (fun rv => decR (RSh.one (CK.int .i64)) rv.pv) = tfE4 F e0 e1 e2 e3 := by kernel_rfl
noncomputable abbrev FfE4 (args : List PV) := Fn env 73 (RSh.one (CK.int .i64)) args
theorem FfE4_of (e0 e1 e2 e3 : Int) {res : (Int)} (h : tfE4 (Fn env) e0 e1 e2 e3 = some res) : FfE4 [.list 4 [.int .i64 e0, .int .i64 e1, .int .i64 e2, .int .i64 e3]] = some res :=
  fn_of EfE4_ok rfl rfl lo_nil ((tfE4_eq _ _ _ _ _).trans h)
end Gv
