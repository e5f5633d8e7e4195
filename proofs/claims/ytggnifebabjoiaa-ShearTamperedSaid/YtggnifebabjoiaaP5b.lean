/- What the functions do, round by round: P5b. -/
import Derived.Test.YtggnifebabjoiaaGvEnv
namespace Gv
open Go
set_option maxRecDepth 100000
def ErTE : List Entry := [.out 29 (RSh.one CK.bool)]
theorem ErTE_ok : ∀ e ∈ ErTE, EntOK env e := (ent_out ent_nil)
def trTE (F : FnT) (p0_0 : Int) (p0_1 : Int) (p0_2 : Int) (p0_3 : Int) : Option (Int) :=
  bindO (F 29 (RSh.one CK.bool) [(PV.int .i64 p0_0), (PV.int .i64 (0 : Int)), (PV.int .i64 (250 : Int))]) fun (y0 : (Bool)) =>
  bif y0 then
    bindO (F 29 (RSh.one CK.bool) [(PV.int .i64 p0_1), (PV.int .i64 (0 : Int)), (PV.int .i64 (62500 : Int))]) fun (y1 : (Bool)) =>
    bif y1 then
      bindO (F 29 (RSh.one CK.bool) [(PV.int .i64 p0_3), (PV.int .i64 (0 : Int)), (PV.int .i64 (62500 : Int))]) fun (y2 : (Bool)) =>
      bif y2 then
        bindO (F 29 (RSh.one CK.bool) [(PV.int .i64 p0_2), (PV.int .i64 (0 : Int)), (PV.int .i64 (2 : Int))]) fun (y3 : (Bool)) =>
        bif y3 then
          some (0 : Int)
        else some (2 : Int)
      else some (2 : Int)
    else some (2 : Int)
  else some (2 : Int)
theorem trTE_eq (F : FnT) (p0_0 : Int) (p0_1 : Int) (p0_2 : Int) (p0_3 : Int) : semF (callP F ErTE 20) s67 (loopT []) 400 a67 [PV.agg [PV.int .i64 p0_0, PV.int .i64 p0_1, PV.int .i64 p0_2, PV.int .i64 p0_3]] (fun rv => decR (RSh.one (CK.int .i64)) rv.pv) = trTE F p0_0 p0_1 p0_2 p0_3 := by kernel_rfl
noncomputable abbrev FrTE (args : List PV) := Fn env 67 (RSh.one (CK.int .i64)) args
theorem FrTE_of  (p0_0 : Int) (p0_1 : Int) (p0_2 : Int) (p0_3 : Int) {res : (Int)} (h : trTE (Fn env) p0_0 p0_1 p0_2 p0_3 = some res) : FrTE [PV.agg [PV.int .i64 p0_0, PV.int .i64 p0_1, PV.int .i64 p0_2, PV.int .i64 p0_3]] = some res :=
  fn_of ErTE_ok rfl rfl lo_nil ((trTE_eq _ _ _ _ _).trans h)
end Gv
