/- What the functions do, round by round: P6. -/
import Derived.Test.YtggnifebabjoiaaGvEnv
namespace Gv
open Go
set_option maxRecDepth 100000
def Eaw : List Entry := [.out 70 (RSh.one CK.list), .out 24 (RSh.tup [(Prod.mk true [(CK.int .i64), (CK.int .i64), (CK.int .i64), (CK.int .i64)]), (Prod.mk false [(CK.int .i64)])]), .out 71 (RSh.agg [(CK.int .i64), (CK.int .i64), (CK.int .i64), (CK.int .i64)]), .out 72 (RSh.one CK.list), .out 57 (RSh.tup [(Prod.mk false [CK.list]), (Prod.mk false [(CK.int .i64)])]), .out 39 (RSh.tup [(Prod.mk false [CK.list]), (Prod.mk false [(CK.int .i64)])]), .out 65 (RSh.tup [(Prod.mk true [(CK.int .i64), (CK.int .i64), (CK.int .i64), (CK.int .i64), (CK.int .i64), (CK.int .i64), (CK.int .i64)]), (Prod.mk false [(CK.int .i64)])]), .out 59 (RSh.one CK.bool), .out 32 (RSh.one CK.bool)]
theorem Eaw_ok : ∀ e ∈ Eaw, EntOK env e := (ent_out (ent_out (ent_out (ent_out (ent_out (ent_out (ent_out (ent_out (ent_out ent_nil)))))))))
def taw (F : FnT) : Option (Bool) :=
  bindO (F 70 (RSh.one CK.list) []) fun (y0 : ((Nat) × (List PV))) =>
  bindO (F 24 (RSh.tup [(Prod.mk true [(CK.int .i64), (CK.int .i64), (CK.int .i64), (CK.int .i64)]), (Prod.mk false [(CK.int .i64)])]) [(PV.list y0.1 y0.2), (PV.int .i64 (1000 : Int))]) fun (y1 : ((Int) × ((Int) × ((Int) × ((Int) × (Int)))))) =>
  bindO (F 71 (RSh.agg [(CK.int .i64), (CK.int .i64), (CK.int .i64), (CK.int .i64)]) []) fun (y2 : ((Int) × ((Int) × ((Int) × (Int))))) =>
  bindO (F 72 (RSh.one CK.list) []) fun (y3 : ((Nat) × (List PV))) =>
  bindO (F 57 (RSh.tup [(Prod.mk false [CK.list]), (Prod.mk false [(CK.int .i64)])]) [(PV.agg [(PV.int .i64 y2.1), (PV.int .i64 y2.2.1), (PV.int .i64 y2.2.2.1), (PV.int .i64 y2.2.2.2)]), (PV.list y3.1 y3.2)]) fun (y4 : (((Nat) × (List PV)) × (Int))) =>
  bindO (F 70 (RSh.one CK.list) []) fun (y5 : ((Nat) × (List PV))) =>
  bindO (F 39 (RSh.tup [(Prod.mk false [CK.list]), (Prod.mk false [(CK.int .i64)])]) [(PV.list y5.1 y5.2), (PV.agg [(PV.int .i64 (0 : Int)), (PV.int .i64 (2000 : Int))]), (PV.int .i64 (400 : Int))]) fun (y6 : (((Nat) × (List PV)) × (Int))) =>
  bindO (F 65 (RSh.tup [(Prod.mk true [(CK.int .i64), (CK.int .i64), (CK.int .i64), (CK.int .i64), (CK.int .i64), (CK.int .i64), (CK.int .i64)]), (Prod.mk false [(CK.int .i64)])]) [(PV.agg [(PV.int .i64 (9 : Int)), (PV.int .i64 (300 : Int)), (PV.int .i64 (1 : Int)), (PV.int .i64 (520 : Int))])]) fun (y7 : ((Int) × ((Int) × ((Int) × ((Int) × ((Int) × ((Int) × ((Int) × (Int))))))))) =>
  bif (y1.2.2.2.2 == (0 : Int)) then
    bif ((y1.1 == (1 : Int)) && ((y1.2.1 == (2 : Int)) && ((y1.2.2.1 == (500 : Int)) && ((y1.2.2.2.1 == (650 : Int)) && true)))) then
      bif (y4.2 == (0 : Int)) then
        bindO (F 59 (RSh.one CK.bool) [(PV.list y4.1.1 y4.1.2), (PV.list 1 [(PV.int .i64 (1 : Int)), (PV.int .i64 (10 : Int)), (PV.int .i64 (79 : Int))])]) fun (y8 : (Bool)) =>
        bif y8 then
          bif (y6.2 == (0 : Int)) then
            bindO (F 32 (RSh.one CK.bool) [(PV.list y6.1.1 y6.1.2), (PV.list 2 [(PV.int .i64 (901 : Int)), (PV.int .i64 (1099 : Int)), (PV.int .i64 (1901 : Int)), (PV.int .i64 (2000 : Int))])]) fun (y9 : (Bool)) =>
            bif y9 then
              bif (y7.2.2.2.2.2.2.2 == (0 : Int)) then
                bif ((y7.1 == (9 : Int)) && ((y7.2.1 == (1 : Int)) && ((y7.2.2.1 == (49 : Int)) && ((y7.2.2.2.1 == (1 : Int)) && ((y7.2.2.2.2.1 == (2 : Int)) && ((y7.2.2.2.2.2.1 == (18 : Int)) && ((y7.2.2.2.2.2.2.1 == (211 : Int)) && true))))))) then
                  some true
                else some false
              else some false
            else some false
          else some false
        else some false
      else some false
    else some false
  else some false
theorem taw_eq (F : FnT) : semF (callP F Eaw 20) s13 (loopT []) 400 a13 [] (fun rv => decR (RSh.one CK.bool) rv.pv) = taw F := by kernel_rfl
noncomputable abbrev Faw (args : List PV) := Fn env 13 (RSh.one CK.bool) args
theorem Faw_of  {res : (Bool)} (h : taw (Fn env) = some res) : Faw [] = some res :=
  fn_of Eaw_ok rfl rfl lo_nil ((taw_eq _).trans h)
end Gv
