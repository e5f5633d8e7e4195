/- What the functions do, round by round: P7. -/
import Derived.Test.YtggnifebabjoiaaGvEnv
namespace Gv
open Go
set_option maxRecDepth 100000
def Elaw11 : List Entry := [.out 13 (RSh.one CK.bool), .out 65 (RSh.tup [(Prod.mk true [(CK.int .i64), (CK.int .i64), (CK.int .i64), (CK.int .i64), (CK.int .i64), (CK.int .i64), (CK.int .i64)]), (Prod.mk false [(CK.int .i64)])]), .out 66 (RSh.tup [(Prod.mk true [(CK.int .i64), (CK.int .i64), (CK.int .i64), (CK.int .i64)]), (Prod.mk false [(CK.int .i64)])]), .out 67 (RSh.one (CK.int .i64)), .out 68 (RSh.agg [(CK.int .i64), (CK.int .i64), (CK.int .i64), (CK.int .i64), (CK.int .i64), (CK.int .i64), (CK.int .i64)]), .out 69 (RSh.tup [(Prod.mk true [(CK.int .i64), (CK.int .i64), (CK.int .i64), (CK.int .i64)]), (Prod.mk false [(CK.int .i64)])])]
theorem Elaw11_ok : ∀ e ∈ Elaw11, EntOK env e := (ent_out (ent_out (ent_out (ent_out (ent_out (ent_out ent_nil))))))
def tlaw11 (F : FnT) (p0_0 : Int) (p0_1 : Int) (p0_2 : Int) (p0_3 : Int) (p1_0 : Int) (p1_1 : Int) (p1_2 : Int) (p1_3 : Int) (p1_4 : Int) (p1_5 : Int) (p1_6 : Int) : Option (Bool) :=
  bindO (F 13 (RSh.one CK.bool) []) fun (y0 : (Bool)) =>
  bif y0 then
    bindO (F 65 (RSh.tup [(Prod.mk true [(CK.int .i64), (CK.int .i64), (CK.int .i64), (CK.int .i64), (CK.int .i64), (CK.int .i64), (CK.int .i64)]), (Prod.mk false [(CK.int .i64)])]) [(PV.agg [(PV.int .i64 p0_0), (PV.int .i64 p0_1), (PV.int .i64 p0_2), (PV.int .i64 p0_3)])]) fun (y1 : ((Int) × ((Int) × ((Int) × ((Int) × ((Int) × ((Int) × ((Int) × (Int))))))))) =>
    bindO (F 66 (RSh.tup [(Prod.mk true [(CK.int .i64), (CK.int .i64), (CK.int .i64), (CK.int .i64)]), (Prod.mk false [(CK.int .i64)])]) [(PV.agg [(PV.int .i64 p1_0), (PV.int .i64 p1_1), (PV.int .i64 p1_2), (PV.int .i64 p1_3), (PV.int .i64 p1_4), (PV.int .i64 p1_5), (PV.int .i64 p1_6)])]) fun (y2 : ((Int) × ((Int) × ((Int) × ((Int) × (Int)))))) =>
    bindO (F 67 (RSh.one (CK.int .i64)) [(PV.agg [(PV.int .i64 p0_0), (PV.int .i64 p0_1), (PV.int .i64 p0_2), (PV.int .i64 p0_3)])]) fun (y3 : (Int)) =>
    bif (y3 != (0 : Int)) then
      bif (y1.2.2.2.2.2.2.2 != y3) then
        some false
      else bif (!((y1.1 == (0 : Int)) && ((y1.2.1 == (0 : Int)) && ((y1.2.2.1 == (0 : Int)) && ((y1.2.2.2.1 == (0 : Int)) && ((y1.2.2.2.2.1 == (0 : Int)) && ((y1.2.2.2.2.2.1 == (0 : Int)) && ((y1.2.2.2.2.2.2.1 == (0 : Int)) && true)))))))) then
        some false
      else bif (y3 == (0 : Int)) then
        bif (y1.2.2.2.2.2.2.2 != (0 : Int)) then
          some false
        else bindO (F 68 (RSh.agg [(CK.int .i64), (CK.int .i64), (CK.int .i64), (CK.int .i64), (CK.int .i64), (CK.int .i64), (CK.int .i64)]) [(PV.agg [(PV.int .i64 p0_0), (PV.int .i64 p0_1), (PV.int .i64 p0_2), (PV.int .i64 p0_3)])]) fun (y4 : ((Int) × ((Int) × ((Int) × ((Int) × ((Int) × ((Int) × (Int)))))))) =>
        bif (!((y1.1 == y4.1) && ((y1.2.1 == y4.2.1) && ((y1.2.2.1 == y4.2.2.1) && ((y1.2.2.2.1 == y4.2.2.2.1) && ((y1.2.2.2.2.1 == y4.2.2.2.2.1) && ((y1.2.2.2.2.2.1 == y4.2.2.2.2.2.1) && ((y1.2.2.2.2.2.2.1 == y4.2.2.2.2.2.2) && true)))))))) then
          some false
        else bindO (F 69 (RSh.tup [(Prod.mk true [(CK.int .i64), (CK.int .i64), (CK.int .i64), (CK.int .i64)]), (Prod.mk false [(CK.int .i64)])]) [(PV.agg [(PV.int .i64 p1_0), (PV.int .i64 p1_1), (PV.int .i64 p1_2), (PV.int .i64 p1_3), (PV.int .i64 p1_4), (PV.int .i64 p1_5), (PV.int .i64 p1_6)])]) fun (y5 : ((Int) × ((Int) × ((Int) × ((Int) × (Int)))))) =>
        bif (y2.2.2.2.2 == y5.2.2.2.2) then
          bif ((y2.1 == y5.1) && ((y2.2.1 == y5.2.1) && ((y2.2.2.1 == y5.2.2.1) && ((y2.2.2.2.1 == y5.2.2.2.1) && true)))) then
            some true
          else some false
        else some false
      else bindO (F 69 (RSh.tup [(Prod.mk true [(CK.int .i64), (CK.int .i64), (CK.int .i64), (CK.int .i64)]), (Prod.mk false [(CK.int .i64)])]) [(PV.agg [(PV.int .i64 p1_0), (PV.int .i64 p1_1), (PV.int .i64 p1_2), (PV.int .i64 p1_3), (PV.int .i64 p1_4), (PV.int .i64 p1_5), (PV.int .i64 p1_6)])]) fun (y6 : ((Int) × ((Int) × ((Int) × ((Int) × (Int)))))) =>
      bif (y2.2.2.2.2 == y6.2.2.2.2) then
        bif ((y2.1 == y6.1) && ((y2.2.1 == y6.2.1) && ((y2.2.2.1 == y6.2.2.1) && ((y2.2.2.2.1 == y6.2.2.2.1) && true)))) then
          some true
        else some false
      else some false
    else bif (y3 == (0 : Int)) then
      bif (y1.2.2.2.2.2.2.2 != (0 : Int)) then
        some false
      else bindO (F 68 (RSh.agg [(CK.int .i64), (CK.int .i64), (CK.int .i64), (CK.int .i64), (CK.int .i64), (CK.int .i64), (CK.int .i64)]) [(PV.agg [(PV.int .i64 p0_0), (PV.int .i64 p0_1), (PV.int .i64 p0_2), (PV.int .i64 p0_3)])]) fun (y7 : ((Int) × ((Int) × ((Int) × ((Int) × ((Int) × ((Int) × (Int)))))))) =>
      bif (!((y1.1 == y7.1) && ((y1.2.1 == y7.2.1) && ((y1.2.2.1 == y7.2.2.1) && ((y1.2.2.2.1 == y7.2.2.2.1) && ((y1.2.2.2.2.1 == y7.2.2.2.2.1) && ((y1.2.2.2.2.2.1 == y7.2.2.2.2.2.1) && ((y1.2.2.2.2.2.2.1 == y7.2.2.2.2.2.2) && true)))))))) then
        some false
      else bindO (F 69 (RSh.tup [(Prod.mk true [(CK.int .i64), (CK.int .i64), (CK.int .i64), (CK.int .i64)]), (Prod.mk false [(CK.int .i64)])]) [(PV.agg [(PV.int .i64 p1_0), (PV.int .i64 p1_1), (PV.int .i64 p1_2), (PV.int .i64 p1_3), (PV.int .i64 p1_4), (PV.int .i64 p1_5), (PV.int .i64 p1_6)])]) fun (y8 : ((Int) × ((Int) × ((Int) × ((Int) × (Int)))))) =>
      bif (y2.2.2.2.2 == y8.2.2.2.2) then
        bif ((y2.1 == y8.1) && ((y2.2.1 == y8.2.1) && ((y2.2.2.1 == y8.2.2.1) && ((y2.2.2.2.1 == y8.2.2.2.1) && true)))) then
          some true
        else some false
      else some false
    else bindO (F 69 (RSh.tup [(Prod.mk true [(CK.int .i64), (CK.int .i64), (CK.int .i64), (CK.int .i64)]), (Prod.mk false [(CK.int .i64)])]) [(PV.agg [(PV.int .i64 p1_0), (PV.int .i64 p1_1), (PV.int .i64 p1_2), (PV.int .i64 p1_3), (PV.int .i64 p1_4), (PV.int .i64 p1_5), (PV.int .i64 p1_6)])]) fun (y9 : ((Int) × ((Int) × ((Int) × ((Int) × (Int)))))) =>
    bif (y2.2.2.2.2 == y9.2.2.2.2) then
      bif ((y2.1 == y9.1) && ((y2.2.1 == y9.2.1) && ((y2.2.2.1 == y9.2.2.1) && ((y2.2.2.2.1 == y9.2.2.2.1) && true)))) then
        some true
      else some false
    else some false
  else some false
theorem tlaw11_eq (F : FnT) (p0_0 : Int) (p0_1 : Int) (p0_2 : Int) (p0_3 : Int) (p1_0 : Int) (p1_1 : Int) (p1_2 : Int) (p1_3 : Int) (p1_4 : Int) (p1_5 : Int) (p1_6 : Int) : semF (callP F Elaw11 20) s11 (loopT []) 400 a11 [PV.agg [PV.int .i64 p0_0, PV.int .i64 p0_1, PV.int .i64 p0_2, PV.int .i64 p0_3], PV.agg [PV.int .i64 p1_0, PV.int .i64 p1_1, PV.int .i64 p1_2, PV.int .i64 p1_3, PV.int .i64 p1_4, PV.int .i64 p1_5, PV.int .i64 p1_6]] (fun rv => decR (RSh.one CK.bool) rv.pv) = tlaw11 F p0_0 p0_1 p0_2 p0_3 p1_0 p1_1 p1_2 p1_3 p1_4 p1_5 p1_6 := by kernel_rfl
noncomputable abbrev Flaw11 (args : List PV) := Fn env 11 (RSh.one CK.bool) args
theorem Flaw11_of  (p0_0 : Int) (p0_1 : Int) (p0_2 : Int) (p0_3 : Int) (p1_0 : Int) (p1_1 : Int) (p1_2 : Int) (p1_3 : Int) (p1_4 : Int) (p1_5 : Int) (p1_6 : Int) {res : (Bool)} (h : tlaw11 (Fn env) p0_0 p0_1 p0_2 p0_3 p1_0 p1_1 p1_2 p1_3 p1_4 p1_5 p1_6 = some res) : Flaw11 [PV.agg [PV.int .i64 p0_0, PV.int .i64 p0_1, PV.int .i64 p0_2, PV.int .i64 p0_3], PV.agg [PV.int .i64 p1_0, PV.int .i64 p1_1, PV.int .i64 p1_2, PV.int .i64 p1_3, PV.int .i64 p1_4, PV.int .i64 p1_5, PV.int .i64 p1_6]] = some res :=
  fn_of Elaw11_ok rfl rfl lo_nil ((tlaw11_eq _ _ _ _ _ _ _ _ _ _ _ _).trans h)
end Gv
