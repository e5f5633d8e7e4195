/- What the functions do, round by round: P8. -/
import Derived.Test.YtggnifebabjoiaaGvEnv
namespace Gv
open Go
set_option maxRecDepth 100000
def Elaw8 : List Entry := [.out 13 (RSh.one CK.bool), .out 53 (RSh.one CK.bool), .out 55 (RSh.one CK.list), .out 54 (RSh.tup [(Prod.mk false [(CK.int .i64)]), (Prod.mk false [(CK.int .i64)])]), .out 56 (RSh.tup [(Prod.mk true [CK.bool, (CK.int .i64), (CK.int .i64), (CK.int .i64), (CK.int .i64)]), (Prod.mk false [(CK.int .i64)])]), .out 57 (RSh.tup [(Prod.mk false [CK.list]), (Prod.mk false [(CK.int .i64)])]), .out 58 (RSh.tup [(Prod.mk false [(CK.int .i64)]), (Prod.mk false [(CK.int .i64)])]), .out 48 (RSh.one (CK.int .i64)), .out 60 (RSh.one CK.list), .out 59 (RSh.one CK.bool), .out 61 (RSh.one CK.bool), .out 62 (RSh.agg [CK.bool, (CK.int .i64), (CK.int .i64), (CK.int .i64), (CK.int .i64)])]
theorem Elaw8_ok : ∀ e ∈ Elaw8, EntOK env e := (ent_out (ent_out (ent_out (ent_out (ent_out (ent_out (ent_out (ent_out (ent_out (ent_out (ent_out (ent_out ent_nil))))))))))))
def tlaw8 (F : FnT) (p0_0 : Int) (p0_1 : Int) (p0_2 : Int) (p0_3 : Int) (p1n : Nat) (p1c : List PV) (p2 : Int) : Option (Bool) :=
  bindO (F 13 (RSh.one CK.bool) []) fun (y0 : (Bool)) =>
  bif y0 then
    bindO (F 53 (RSh.one CK.bool) [(PV.list p1n p1c)]) fun (y1 : (Bool)) =>
    bif y1 then
      bindO (F 55 (RSh.one CK.list) [(PV.list p1n p1c)]) fun (y2 : ((Nat) × (List PV))) =>
      bindO (F 54 (RSh.tup [(Prod.mk false [(CK.int .i64)]), (Prod.mk false [(CK.int .i64)])]) [(PV.list y2.1 y2.2)]) fun (y3 : ((Int) × (Int))) =>
      bindO (F 55 (RSh.one CK.list) [(PV.list p1n p1c)]) fun (y4 : ((Nat) × (List PV))) =>
      bindO (F 56 (RSh.tup [(Prod.mk true [CK.bool, (CK.int .i64), (CK.int .i64), (CK.int .i64), (CK.int .i64)]), (Prod.mk false [(CK.int .i64)])]) [(PV.agg [(PV.int .i64 p0_0), (PV.int .i64 p0_1), (PV.int .i64 p0_2), (PV.int .i64 p0_3)]), (PV.list y4.1 y4.2), (PV.int .i64 p2)]) fun (y5 : ((Bool) × ((Int) × ((Int) × ((Int) × ((Int) × (Int))))))) =>
      bindO (F 55 (RSh.one CK.list) [(PV.list p1n p1c)]) fun (y6 : ((Nat) × (List PV))) =>
      bindO (F 57 (RSh.tup [(Prod.mk false [CK.list]), (Prod.mk false [(CK.int .i64)])]) [(PV.agg [(PV.int .i64 p0_0), (PV.int .i64 p0_1), (PV.int .i64 p0_2), (PV.int .i64 p0_3)]), (PV.list y6.1 y6.2)]) fun (y7 : (((Nat) × (List PV)) × (Int))) =>
      bindO (F 58 (RSh.tup [(Prod.mk false [(CK.int .i64)]), (Prod.mk false [(CK.int .i64)])]) [(PV.list p1n p1c)]) fun (y8 : ((Int) × (Int))) =>
      bif (y3.2 != y8.2) then
        some false
      else bif (y3.1 != y8.1) then
        some false
      else bindO (F 48 (RSh.one (CK.int .i64)) [(PV.agg [(PV.int .i64 p0_0), (PV.int .i64 p0_1), (PV.int .i64 p0_2), (PV.int .i64 p0_3)])]) fun (y9 : (Int)) =>
      bif (y9 != (0 : Int)) then
        bif (y9 != (0 : Int)) then
          bif (y5.2.2.2.2.2 == y9) then
            bif (y7.2 == y9) then
              bif y5.1 then
                some false
              else bif (true && ((y5.2.1 == (0 : Int)) && ((y5.2.2.1 == (0 : Int)) && ((y5.2.2.2.1 == (0 : Int)) && ((y5.2.2.2.2.1 == (0 : Int)) && true))))) then
                bif ((y7.1.1 : Int) == (0 : Int)) then
                  some true
                else some false
              else some false
            else some false
          else some false
        else bif (y7.2 != (0 : Int)) then
          some false
        else bindO (F 60 (RSh.one CK.list) [(PV.agg [(PV.int .i64 p0_0), (PV.int .i64 p0_1), (PV.int .i64 p0_2), (PV.int .i64 p0_3)]), (PV.list p1n p1c)]) fun (y10 : ((Nat) × (List PV))) =>
        bindO (F 59 (RSh.one CK.bool) [(PV.list y7.1.1 y7.1.2), (PV.list y10.1 y10.2)]) fun (y11 : (Bool)) =>
        bif y11 then
          bindO (F 61 (RSh.one CK.bool) [(PV.int .i64 p2)]) fun (y12 : (Bool)) =>
          bif y12 then
            bif (y5.2.2.2.2.2 == (0 : Int)) then
              bif y5.1 then
                bindO (F 62 (RSh.agg [CK.bool, (CK.int .i64), (CK.int .i64), (CK.int .i64), (CK.int .i64)]) [(PV.agg [(PV.int .i64 p0_0), (PV.int .i64 p0_1), (PV.int .i64 p0_2), (PV.int .i64 p0_3)]), (PV.list p1n p1c), (PV.int .i64 p2)]) fun (y13 : ((Bool) × ((Int) × ((Int) × ((Int) × (Int)))))) =>
                bif ((true == y13.1) && ((y5.2.1 == y13.2.1) && ((y5.2.2.1 == y13.2.2.1) && ((y5.2.2.2.1 == y13.2.2.2.1) && ((y5.2.2.2.2.1 == y13.2.2.2.2) && true))))) then
                  some true
                else some false
              else bindO (F 62 (RSh.agg [CK.bool, (CK.int .i64), (CK.int .i64), (CK.int .i64), (CK.int .i64)]) [(PV.agg [(PV.int .i64 p0_0), (PV.int .i64 p0_1), (PV.int .i64 p0_2), (PV.int .i64 p0_3)]), (PV.list p1n p1c), (PV.int .i64 p2)]) fun (y14 : ((Bool) × ((Int) × ((Int) × ((Int) × (Int)))))) =>
              bif ((false == y14.1) && ((y5.2.1 == y14.2.1) && ((y5.2.2.1 == y14.2.2.1) && ((y5.2.2.2.1 == y14.2.2.2.1) && ((y5.2.2.2.2.1 == y14.2.2.2.2) && true))))) then
                some true
              else some false
            else some false
          else bif (y5.2.2.2.2.2 == (2 : Int)) then
            bif y5.1 then
              some false
            else bif (true && ((y5.2.1 == (0 : Int)) && ((y5.2.2.1 == (0 : Int)) && ((y5.2.2.2.1 == (0 : Int)) && ((y5.2.2.2.2.1 == (0 : Int)) && true))))) then
              some true
            else some false
          else some false
        else some false
      else bif (y8.2 != (0 : Int)) then
        bif (y5.2.2.2.2.2 == y8.2) then
          bif (y7.2 == y8.2) then
            bif y5.1 then
              some false
            else bif (true && ((y5.2.1 == (0 : Int)) && ((y5.2.2.1 == (0 : Int)) && ((y5.2.2.2.1 == (0 : Int)) && ((y5.2.2.2.2.1 == (0 : Int)) && true))))) then
              bif ((y7.1.1 : Int) == (0 : Int)) then
                some true
              else some false
            else some false
          else some false
        else some false
      else bif (y7.2 != (0 : Int)) then
        some false
      else bindO (F 60 (RSh.one CK.list) [(PV.agg [(PV.int .i64 p0_0), (PV.int .i64 p0_1), (PV.int .i64 p0_2), (PV.int .i64 p0_3)]), (PV.list p1n p1c)]) fun (y15 : ((Nat) × (List PV))) =>
      bindO (F 59 (RSh.one CK.bool) [(PV.list y7.1.1 y7.1.2), (PV.list y15.1 y15.2)]) fun (y16 : (Bool)) =>
      bif y16 then
        bindO (F 61 (RSh.one CK.bool) [(PV.int .i64 p2)]) fun (y17 : (Bool)) =>
        bif y17 then
          bif (y5.2.2.2.2.2 == (0 : Int)) then
            bif y5.1 then
              bindO (F 62 (RSh.agg [CK.bool, (CK.int .i64), (CK.int .i64), (CK.int .i64), (CK.int .i64)]) [(PV.agg [(PV.int .i64 p0_0), (PV.int .i64 p0_1), (PV.int .i64 p0_2), (PV.int .i64 p0_3)]), (PV.list p1n p1c), (PV.int .i64 p2)]) fun (y18 : ((Bool) × ((Int) × ((Int) × ((Int) × (Int)))))) =>
              bif ((true == y18.1) && ((y5.2.1 == y18.2.1) && ((y5.2.2.1 == y18.2.2.1) && ((y5.2.2.2.1 == y18.2.2.2.1) && ((y5.2.2.2.2.1 == y18.2.2.2.2) && true))))) then
                some true
              else some false
            else bindO (F 62 (RSh.agg [CK.bool, (CK.int .i64), (CK.int .i64), (CK.int .i64), (CK.int .i64)]) [(PV.agg [(PV.int .i64 p0_0), (PV.int .i64 p0_1), (PV.int .i64 p0_2), (PV.int .i64 p0_3)]), (PV.list p1n p1c), (PV.int .i64 p2)]) fun (y19 : ((Bool) × ((Int) × ((Int) × ((Int) × (Int)))))) =>
            bif ((false == y19.1) && ((y5.2.1 == y19.2.1) && ((y5.2.2.1 == y19.2.2.1) && ((y5.2.2.2.1 == y19.2.2.2.1) && ((y5.2.2.2.2.1 == y19.2.2.2.2) && true))))) then
              some true
            else some false
          else some false
        else bif (y5.2.2.2.2.2 == (2 : Int)) then
          bif y5.1 then
            some false
          else bif (true && ((y5.2.1 == (0 : Int)) && ((y5.2.2.1 == (0 : Int)) && ((y5.2.2.2.1 == (0 : Int)) && ((y5.2.2.2.2.1 == (0 : Int)) && true))))) then
            some true
          else some false
        else some false
      else some false
    else some true
  else some false
theorem tlaw8_eq (F : FnT) (p0_0 : Int) (p0_1 : Int) (p0_2 : Int) (p0_3 : Int) (p1n : Nat) (p1c : List PV) (p2 : Int) : semF (callP F Elaw8 20) s8 (loopT []) 400 a8 [PV.agg [PV.int .i64 p0_0, PV.int .i64 p0_1, PV.int .i64 p0_2, PV.int .i64 p0_3], PV.list p1n p1c, PV.int .i64 p2] (fun rv => decR (RSh.one CK.bool) rv.pv) = tlaw8 F p0_0 p0_1 p0_2 p0_3 p1n p1c p2 := by kernel_rfl
noncomputable abbrev Flaw8 (args : List PV) := Fn env 8 (RSh.one CK.bool) args
theorem Flaw8_of  (p0_0 : Int) (p0_1 : Int) (p0_2 : Int) (p0_3 : Int) (p1n : Nat) (p1c : List PV) (p2 : Int) {res : (Bool)} (h : tlaw8 (Fn env) p0_0 p0_1 p0_2 p0_3 p1n p1c p2 = some res) : Flaw8 [PV.agg [PV.int .i64 p0_0, PV.int .i64 p0_1, PV.int .i64 p0_2, PV.int .i64 p0_3], PV.list p1n p1c, PV.int .i64 p2] = some res :=
  fn_of Elaw8_ok rfl rfl lo_nil ((tlaw8_eq _ _ _ _ _ _ _ _).trans h)
end Gv
