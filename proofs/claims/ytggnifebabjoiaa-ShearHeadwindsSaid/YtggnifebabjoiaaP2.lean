/- What the functions do, round by round: P2. -/
import Derived.Test.YtggnifebabjoiaaGvEnv
namespace Gv
open Go
set_option maxRecDepth 100000
def Etimes : List Entry := []
theorem Etimes_ok : ∀ e ∈ Etimes, EntOK env e := ent_nil
def ttimes (_F : FnT) (p0 : Int) (p1_0 : Int) (p1_1 : Int) : Option ((Int) × (Int)) :=
  some ((if ((w64 (p0 * p1_1)) < (w64 (p0 * p1_0))) then (w64 (p0 * p1_1)) else (w64 (p0 * p1_0))), (if ((w64 (p0 * p1_1)) > (w64 (p0 * p1_0))) then (w64 (p0 * p1_1)) else (w64 (p0 * p1_0))))
theorem ttimes_eq (F : FnT) (p0 : Int) (p1_0 : Int) (p1_1 : Int) : semF (callP F Etimes 20) s75 (loopT []) 400 a75 [PV.int .i64 p0, PV.agg [PV.int .i64 p1_0, PV.int .i64 p1_1]] (fun rv => decR (RSh.agg [(CK.int .i64), (CK.int .i64)]) rv.pv) = ttimes F p0 p1_0 p1_1 := by kernel_rfl
noncomputable abbrev Ftimes (args : List PV) := Fn env 75 (RSh.agg [(CK.int .i64), (CK.int .i64)]) args
theorem Ftimes_of  (p0 : Int) (p1_0 : Int) (p1_1 : Int) {res : ((Int) × (Int))} (h : ttimes (Fn env) p0 p1_0 p1_1 = some res) : Ftimes [PV.int .i64 p0, PV.agg [PV.int .i64 p1_0, PV.int .i64 p1_1]] = some res :=
  fn_of Etimes_ok rfl rfl lo_nil ((ttimes_eq _ _ _ _).trans h)
def ErDn : List Entry := []
theorem ErDn_ok : ∀ e ∈ ErDn, EntOK env e := ent_nil
def trDn (_F : FnT) (p0 : Int) (p1 : Int) : Option (Int) :=
  bif (decide (p1 ≠ (0 : Int))) then
    bif (decide ((w64 ((w64 (Int.tdiv p0 p1)) * p1)) > p0)) then
      some (w64 ((w64 (Int.tdiv p0 p1)) - (1 : Int)))
    else some (w64 (Int.tdiv p0 p1))
  else none
theorem trDn_eq (F : FnT) (p0 : Int) (p1 : Int) : semF (callP F ErDn 20) s76 (loopT []) 400 a76 [PV.int .i64 p0, PV.int .i64 p1] (fun rv => decR (RSh.one (CK.int .i64)) rv.pv) = trDn F p0 p1 := by kernel_rfl
noncomputable abbrev FrDn (args : List PV) := Fn env 76 (RSh.one (CK.int .i64)) args
theorem FrDn_of  (p0 : Int) (p1 : Int) {res : (Int)} (h : trDn (Fn env) p0 p1 = some res) : FrDn [PV.int .i64 p0, PV.int .i64 p1] = some res :=
  fn_of ErDn_ok rfl rfl lo_nil ((trDn_eq _ _ _).trans h)
def ErUp : List Entry := [.out 76 (RSh.one (CK.int .i64))]
theorem ErUp_ok : ∀ e ∈ ErUp, EntOK env e := (ent_out ent_nil)
def trUp (F : FnT) (p0 : Int) (p1 : Int) : Option (Int) :=
  bindO (F 76 (RSh.one (CK.int .i64)) [(PV.int .i64 (w64 ((0 : Int) - p0))), (PV.int .i64 p1)]) fun (y0 : (Int)) =>
  some (w64 ((0 : Int) - y0))
theorem trUp_eq (F : FnT) (p0 : Int) (p1 : Int) : semF (callP F ErUp 20) s77 (loopT []) 400 a77 [PV.int .i64 p0, PV.int .i64 p1] (fun rv => decR (RSh.one (CK.int .i64)) rv.pv) = trUp F p0 p1 := by kernel_rfl
noncomputable abbrev FrUp (args : List PV) := Fn env 77 (RSh.one (CK.int .i64)) args
theorem FrUp_of  (p0 : Int) (p1 : Int) {res : (Int)} (h : trUp (Fn env) p0 p1 = some res) : FrUp [PV.int .i64 p0, PV.int .i64 p1] = some res :=
  fn_of ErUp_ok rfl rfl lo_nil ((trUp_eq _ _ _).trans h)
def EcLeg : List Entry := [.out 78 (RSh.one (CK.int .i64)), .out 79 (RSh.one (CK.int .i64)), .out 73 (RSh.one (CK.int .i64))]
theorem EcLeg_ok : ∀ e ∈ EcLeg, EntOK env e := (ent_out (ent_out (ent_out ent_nil)))
def tcLeg (F : FnT) (p0_0 : Int) (p0_1 : Int) (p0_2 : Int) : Option (Int) :=
  bindO (F 78 (RSh.one (CK.int .i64)) [(PV.int .i64 p0_0), (PV.int .i64 (-1000 : Int)), (PV.int .i64 (1000 : Int))]) fun (y0 : (Int)) =>
  bindO (F 78 (RSh.one (CK.int .i64)) [(PV.int .i64 p0_1), (PV.int .i64 (-1000 : Int)), (PV.int .i64 (1000 : Int))]) fun (y1 : (Int)) =>
  bindO (F 78 (RSh.one (CK.int .i64)) [(PV.int .i64 p0_2), (PV.int .i64 (1 : Int)), (PV.int .i64 (1000 : Int))]) fun (y2 : (Int)) =>
  bif ((w64 ((w64 (p0_0 * p0_0)) + (w64 (p0_1 * p0_1)))) != (w64 (p0_2 * p0_2))) then
    bindO (F 79 (RSh.one (CK.int .i64)) [(PV.bool true), (PV.int .i64 (3 : Int))]) fun (y3 : (Int)) =>
    bindO (F 73 (RSh.one (CK.int .i64)) [(PV.list 4 [(PV.int .i64 y0), (PV.int .i64 y1), (PV.int .i64 y2), (PV.int .i64 y3)])]) fun (y4 : (Int)) =>
    some y4
  else bindO (F 79 (RSh.one (CK.int .i64)) [(PV.bool false), (PV.int .i64 (3 : Int))]) fun (y5 : (Int)) =>
  bindO (F 73 (RSh.one (CK.int .i64)) [(PV.list 4 [(PV.int .i64 y0), (PV.int .i64 y1), (PV.int .i64 y2), (PV.int .i64 y5)])]) fun (y6 : (Int)) =>
  some y6
theorem tcLeg_eq (F : FnT) (p0_0 : Int) (p0_1 : Int) (p0_2 : Int) : semF (callP F EcLeg 20) s16 (loopT []) 400 a16 [PV.agg [PV.int .i64 p0_0, PV.int .i64 p0_1, PV.int .i64 p0_2]] (fun rv => decR (RSh.one (CK.int .i64)) rv.pv) = tcLeg F p0_0 p0_1 p0_2 := by kernel_rfl
noncomputable abbrev FcLeg (args : List PV) := Fn env 16 (RSh.one (CK.int .i64)) args
theorem FcLeg_of  (p0_0 : Int) (p0_1 : Int) (p0_2 : Int) {res : (Int)} (h : tcLeg (Fn env) p0_0 p0_1 p0_2 = some res) : FcLeg [PV.agg [PV.int .i64 p0_0, PV.int .i64 p0_1, PV.int .i64 p0_2]] = some res :=
  fn_of EcLeg_ok rfl rfl lo_nil ((tcLeg_eq _ _ _ _).trans h)
def EhwOf : List Entry := [.out 16 (RSh.one (CK.int .i64)), .out 74 (RSh.one (CK.int .i64)), .out 73 (RSh.one (CK.int .i64)), .out 75 (RSh.agg [(CK.int .i64), (CK.int .i64)]), .out 76 (RSh.one (CK.int .i64)), .out 77 (RSh.one (CK.int .i64))]
theorem EhwOf_ok : ∀ e ∈ EhwOf, EntOK env e := (ent_out (ent_out (ent_out (ent_out (ent_out (ent_out ent_nil))))))
def thwOf (F : FnT) (p0_0 : Int) (p0_1 : Int) (p0_2 : Int) (p1_0 : Int) (p1_1 : Int) (p1_2 : Int) (p1_3 : Int) : Option ((Int) × ((Int) × (Int))) :=
  bindO (F 16 (RSh.one (CK.int .i64)) [(PV.agg [(PV.int .i64 p0_0), (PV.int .i64 p0_1), (PV.int .i64 p0_2)])]) fun (y0 : (Int)) =>
  bindO (F 74 (RSh.one (CK.int .i64)) [(PV.int .i64 (-10000 : Int)), (PV.int .i64 (10000 : Int)), (PV.list 2 [(PV.int .i64 p1_0), (PV.int .i64 p1_1), (PV.int .i64 p1_2), (PV.int .i64 p1_3)])]) fun (y1 : (Int)) =>
  bindO (F 73 (RSh.one (CK.int .i64)) [(PV.list 2 [(PV.int .i64 y0), (PV.int .i64 y1)])]) fun (y2 : (Int)) =>
  bif (y2 != (0 : Int)) then
    some ((0 : Int), ((0 : Int), y2))
  else bindO (F 75 (RSh.agg [(CK.int .i64), (CK.int .i64)]) [(PV.int .i64 (w64 ((0 : Int) - p0_0))), (PV.agg [(PV.int .i64 p1_0), (PV.int .i64 p1_1)])]) fun (y3 : ((Int) × (Int))) =>
  bindO (F 75 (RSh.agg [(CK.int .i64), (CK.int .i64)]) [(PV.int .i64 (w64 ((0 : Int) - p0_1))), (PV.agg [(PV.int .i64 p1_2), (PV.int .i64 p1_3)])]) fun (y4 : ((Int) × (Int))) =>
  bindO (F 76 (RSh.one (CK.int .i64)) [(PV.int .i64 (w64 (y3.1 + y4.1))), (PV.int .i64 p0_2)]) fun (y5 : (Int)) =>
  bindO (F 77 (RSh.one (CK.int .i64)) [(PV.int .i64 (w64 (y3.2 + y4.2))), (PV.int .i64 p0_2)]) fun (y6 : (Int)) =>
  some (y5, (y6, (0 : Int)))
theorem thwOf_eq (F : FnT) (p0_0 : Int) (p0_1 : Int) (p0_2 : Int) (p1_0 : Int) (p1_1 : Int) (p1_2 : Int) (p1_3 : Int) : semF (callP F EhwOf 20) s14 (loopT []) 400 a14 [PV.agg [PV.int .i64 p0_0, PV.int .i64 p0_1, PV.int .i64 p0_2], PV.agg [PV.int .i64 p1_0, PV.int .i64 p1_1, PV.int .i64 p1_2, PV.int .i64 p1_3]] (fun rv => decR (RSh.tup [(Prod.mk true [(CK.int .i64), (CK.int .i64)]), (Prod.mk false [(CK.int .i64)])]) rv.pv) = thwOf F p0_0 p0_1 p0_2 p1_0 p1_1 p1_2 p1_3 := by kernel_rfl
noncomputable abbrev FhwOf (args : List PV) := Fn env 14 (RSh.tup [(Prod.mk true [(CK.int .i64), (CK.int .i64)]), (Prod.mk false [(CK.int .i64)])]) args
theorem FhwOf_of  (p0_0 : Int) (p0_1 : Int) (p0_2 : Int) (p1_0 : Int) (p1_1 : Int) (p1_2 : Int) (p1_3 : Int) {res : ((Int) × ((Int) × (Int)))} (h : thwOf (Fn env) p0_0 p0_1 p0_2 p1_0 p1_1 p1_2 p1_3 = some res) : FhwOf [PV.agg [PV.int .i64 p0_0, PV.int .i64 p0_1, PV.int .i64 p0_2], PV.agg [PV.int .i64 p1_0, PV.int .i64 p1_1, PV.int .i64 p1_2, PV.int .i64 p1_3]] = some res :=
  fn_of EhwOf_ok rfl rfl lo_nil ((thwOf_eq _ _ _ _ _ _ _ _).trans h)
end Gv
