/- What the functions do, round by round: ZC9. -/
import Derived.Test.YtkbahledgljaoaaGreatZC8
namespace Gv
open Go
set_option maxRecDepth 100000
def Ew_CloudSpans : List Entry := [.out 8 (RSh.one CK.bool), .out 9 (RSh.one CK.bool), .out 11 (RSh.one CK.list), .out 23 (RSh.tup [(Prod.mk false [CK.list]), (Prod.mk false [(CK.int .i64)])]), .out 25 (RSh.one CK.list), .out 24 (RSh.tup [(Prod.mk false [CK.list]), (Prod.mk false [(CK.int .i64)])]), .out 26 (RSh.one (CK.int .i64)), .out 17 (RSh.one (CK.int .i64)), .out 16 (RSh.one (CK.int .i64)), .out 29 (RSh.one (CK.int .i64)), .out 30 (RSh.tup [(Prod.mk false [CK.list]), (Prod.mk false [CK.bool])]), .out 19 (RSh.one CK.bool), .out 18 (RSh.one (CK.int .i64)), .out 28 (RSh.one CK.list), .out 27 (RSh.one CK.bool)]
theorem Ew_CloudSpans_ok : ∀ e ∈ Ew_CloudSpans, EntOK env e := (ent_out (ent_out (ent_out (ent_out (ent_out (ent_out (ent_out (ent_out (ent_out (ent_out (ent_out (ent_out (ent_out (ent_out (ent_out ent_nil)))))))))))))))
def tw_CloudSpans (F : FnT) (p0n : Nat) (p0c : List PV) (p1_0 : Int) (p1_1 : Int) (p2n : Nat) (p2c : List PV) : Option (Bool) :=
  bindO (F 8 (RSh.one CK.bool) []) fun (y0 : (Bool)) =>
  bif y0 then
    bindO (F 9 (RSh.one CK.bool) [(PV.list p0n p0c)]) fun (y1 : (Bool)) =>
    bif y1 then
      bif (decide ((p2n : Int) > (26 : Int))) then
        some true
      else bindO (F 11 (RSh.one CK.list) [(PV.list p0n p0c)]) fun (y2 : ((Nat) × (List PV))) =>
      bindO (F 23 (RSh.tup [(Prod.mk false [CK.list]), (Prod.mk false [(CK.int .i64)])]) [(PV.list y2.1 y2.2), (PV.agg [(PV.int .i64 p1_0), (PV.int .i64 p1_1)])]) fun (y3 : (((Nat) × (List PV)) × (Int))) =>
      bindO (F 25 (RSh.one CK.list) [(PV.list p2n p2c)]) fun (y4 : ((Nat) × (List PV))) =>
      bindO (F 24 (RSh.tup [(Prod.mk false [CK.list]), (Prod.mk false [(CK.int .i64)])]) [(PV.list y4.1 y4.2), (PV.int .i64 p1_0)]) fun (y5 : (((Nat) × (List PV)) × (Int))) =>
      bindO (F 26 (RSh.one (CK.int .i64)) [(PV.list p0n p0c)]) fun (y6 : (Int)) =>
      bindO (F 17 (RSh.one (CK.int .i64)) [(PV.int .i64 p1_0)]) fun (y7 : (Int)) =>
      bindO (F 17 (RSh.one (CK.int .i64)) [(PV.int .i64 p1_1)]) fun (y8 : (Int)) =>
      bindO (F 16 (RSh.one (CK.int .i64)) [(PV.int .i64 y7), (PV.int .i64 y8)]) fun (y9 : (Int)) =>
      bindO (F 16 (RSh.one (CK.int .i64)) [(PV.int .i64 y6), (PV.int .i64 y9)]) fun (y10 : (Int)) =>
      bif (y10 == (0 : Int)) then
        bif (decide (p1_0 > p1_1)) then
          bif (y3.2 != (9 : Int)) then
            some false
          else bif ((y3.1.1 : Int) != (0 : Int)) then
            some false
          else bindO (F 29 (RSh.one (CK.int .i64)) [(PV.list p2n p2c)]) fun (y11 : (Int)) =>
          bindO (F 17 (RSh.one (CK.int .i64)) [(PV.int .i64 p1_0)]) fun (y12 : (Int)) =>
          bindO (F 16 (RSh.one (CK.int .i64)) [(PV.int .i64 y11), (PV.int .i64 y12)]) fun (y13 : (Int)) =>
          bif (y13 != (0 : Int)) then
            bif (y5.2 == y13) then
              bif ((y5.1.1 : Int) == (0 : Int)) then
                some true
              else some false
            else some false
          else bindO (F 30 (RSh.tup [(Prod.mk false [CK.list]), (Prod.mk false [CK.bool])]) [(PV.list p2n p2c), (PV.int .i64 p1_0)]) fun (y14 : (((Nat) × (List PV)) × (Bool))) =>
          bif y14.2 then
            bif (y5.2 == (0 : Int)) then
              bindO (F 19 (RSh.one CK.bool) [(PV.list y5.1.1 y5.1.2), (PV.list y14.1.1 y14.1.2)]) fun (y15 : (Bool)) =>
              bif y15 then
                some true
              else some false
            else some false
          else bif (y5.2 == (8 : Int)) then
            bif ((y5.1.1 : Int) == (0 : Int)) then
              some true
            else some false
          else some false
        else bif (y10 == (0 : Int)) then
          bindO (F 18 (RSh.one (CK.int .i64)) [(PV.list p0n p0c), (PV.int .i64 p1_0)]) fun (y16 : (Int)) =>
          bif (y16 != (0 : Int)) then
            bif (y3.2 != y16) then
              some false
            else bif ((y3.1.1 : Int) != (0 : Int)) then
              some false
            else bif (y16 == (0 : Int)) then
              bif (y3.2 != (0 : Int)) then
                some false
              else bindO (F 28 (RSh.one CK.list) [(PV.list p0n p0c), (PV.agg [(PV.int .i64 p1_0), (PV.int .i64 p1_1)])]) fun (y17 : ((Nat) × (List PV))) =>
              bindO (F 27 (RSh.one CK.bool) [(PV.list y3.1.1 y3.1.2), (PV.list y17.1 y17.2)]) fun (y18 : (Bool)) =>
              bif y18 then
                bindO (F 29 (RSh.one (CK.int .i64)) [(PV.list p2n p2c)]) fun (y19 : (Int)) =>
                bindO (F 17 (RSh.one (CK.int .i64)) [(PV.int .i64 p1_0)]) fun (y20 : (Int)) =>
                bindO (F 16 (RSh.one (CK.int .i64)) [(PV.int .i64 y19), (PV.int .i64 y20)]) fun (y21 : (Int)) =>
                bif (y21 != (0 : Int)) then
                  bif (y5.2 == y21) then
                    bif ((y5.1.1 : Int) == (0 : Int)) then
                      some true
                    else some false
                  else some false
                else bindO (F 30 (RSh.tup [(Prod.mk false [CK.list]), (Prod.mk false [CK.bool])]) [(PV.list p2n p2c), (PV.int .i64 p1_0)]) fun (y22 : (((Nat) × (List PV)) × (Bool))) =>
                bif y22.2 then
                  bif (y5.2 == (0 : Int)) then
                    bindO (F 19 (RSh.one CK.bool) [(PV.list y5.1.1 y5.1.2), (PV.list y22.1.1 y22.1.2)]) fun (y23 : (Bool)) =>
                    bif y23 then
                      some true
                    else some false
                  else some false
                else bif (y5.2 == (8 : Int)) then
                  bif ((y5.1.1 : Int) == (0 : Int)) then
                    some true
                  else some false
                else some false
              else some false
            else bindO (F 29 (RSh.one (CK.int .i64)) [(PV.list p2n p2c)]) fun (y24 : (Int)) =>
            bindO (F 17 (RSh.one (CK.int .i64)) [(PV.int .i64 p1_0)]) fun (y25 : (Int)) =>
            bindO (F 16 (RSh.one (CK.int .i64)) [(PV.int .i64 y24), (PV.int .i64 y25)]) fun (y26 : (Int)) =>
            bif (y26 != (0 : Int)) then
              bif (y5.2 == y26) then
                bif ((y5.1.1 : Int) == (0 : Int)) then
                  some true
                else some false
              else some false
            else bindO (F 30 (RSh.tup [(Prod.mk false [CK.list]), (Prod.mk false [CK.bool])]) [(PV.list p2n p2c), (PV.int .i64 p1_0)]) fun (y27 : (((Nat) × (List PV)) × (Bool))) =>
            bif y27.2 then
              bif (y5.2 == (0 : Int)) then
                bindO (F 19 (RSh.one CK.bool) [(PV.list y5.1.1 y5.1.2), (PV.list y27.1.1 y27.1.2)]) fun (y28 : (Bool)) =>
                bif y28 then
                  some true
                else some false
              else some false
            else bif (y5.2 == (8 : Int)) then
              bif ((y5.1.1 : Int) == (0 : Int)) then
                some true
              else some false
            else some false
          else bif (y16 == (0 : Int)) then
            bif (y3.2 != (0 : Int)) then
              some false
            else bindO (F 28 (RSh.one CK.list) [(PV.list p0n p0c), (PV.agg [(PV.int .i64 p1_0), (PV.int .i64 p1_1)])]) fun (y29 : ((Nat) × (List PV))) =>
            bindO (F 27 (RSh.one CK.bool) [(PV.list y3.1.1 y3.1.2), (PV.list y29.1 y29.2)]) fun (y30 : (Bool)) =>
            bif y30 then
              bindO (F 29 (RSh.one (CK.int .i64)) [(PV.list p2n p2c)]) fun (y31 : (Int)) =>
              bindO (F 17 (RSh.one (CK.int .i64)) [(PV.int .i64 p1_0)]) fun (y32 : (Int)) =>
              bindO (F 16 (RSh.one (CK.int .i64)) [(PV.int .i64 y31), (PV.int .i64 y32)]) fun (y33 : (Int)) =>
              bif (y33 != (0 : Int)) then
                bif (y5.2 == y33) then
                  bif ((y5.1.1 : Int) == (0 : Int)) then
                    some true
                  else some false
                else some false
              else bindO (F 30 (RSh.tup [(Prod.mk false [CK.list]), (Prod.mk false [CK.bool])]) [(PV.list p2n p2c), (PV.int .i64 p1_0)]) fun (y34 : (((Nat) × (List PV)) × (Bool))) =>
              bif y34.2 then
                bif (y5.2 == (0 : Int)) then
                  bindO (F 19 (RSh.one CK.bool) [(PV.list y5.1.1 y5.1.2), (PV.list y34.1.1 y34.1.2)]) fun (y35 : (Bool)) =>
                  bif y35 then
                    some true
                  else some false
                else some false
              else bif (y5.2 == (8 : Int)) then
                bif ((y5.1.1 : Int) == (0 : Int)) then
                  some true
                else some false
              else some false
            else some false
          else bindO (F 29 (RSh.one (CK.int .i64)) [(PV.list p2n p2c)]) fun (y36 : (Int)) =>
          bindO (F 17 (RSh.one (CK.int .i64)) [(PV.int .i64 p1_0)]) fun (y37 : (Int)) =>
          bindO (F 16 (RSh.one (CK.int .i64)) [(PV.int .i64 y36), (PV.int .i64 y37)]) fun (y38 : (Int)) =>
          bif (y38 != (0 : Int)) then
            bif (y5.2 == y38) then
              bif ((y5.1.1 : Int) == (0 : Int)) then
                some true
              else some false
            else some false
          else bindO (F 30 (RSh.tup [(Prod.mk false [CK.list]), (Prod.mk false [CK.bool])]) [(PV.list p2n p2c), (PV.int .i64 p1_0)]) fun (y39 : (((Nat) × (List PV)) × (Bool))) =>
          bif y39.2 then
            bif (y5.2 == (0 : Int)) then
              bindO (F 19 (RSh.one CK.bool) [(PV.list y5.1.1 y5.1.2), (PV.list y39.1.1 y39.1.2)]) fun (y40 : (Bool)) =>
              bif y40 then
                some true
              else some false
            else some false
          else bif (y5.2 == (8 : Int)) then
            bif ((y5.1.1 : Int) == (0 : Int)) then
              some true
            else some false
          else some false
        else bif (y10 != (0 : Int)) then
          bif (y3.2 != y10) then
            some false
          else bif ((y3.1.1 : Int) != (0 : Int)) then
            some false
          else bif (y10 == (0 : Int)) then
            bif (y3.2 != (0 : Int)) then
              some false
            else bindO (F 28 (RSh.one CK.list) [(PV.list p0n p0c), (PV.agg [(PV.int .i64 p1_0), (PV.int .i64 p1_1)])]) fun (y41 : ((Nat) × (List PV))) =>
            bindO (F 27 (RSh.one CK.bool) [(PV.list y3.1.1 y3.1.2), (PV.list y41.1 y41.2)]) fun (y42 : (Bool)) =>
            bif y42 then
              bindO (F 29 (RSh.one (CK.int .i64)) [(PV.list p2n p2c)]) fun (y43 : (Int)) =>
              bindO (F 17 (RSh.one (CK.int .i64)) [(PV.int .i64 p1_0)]) fun (y44 : (Int)) =>
              bindO (F 16 (RSh.one (CK.int .i64)) [(PV.int .i64 y43), (PV.int .i64 y44)]) fun (y45 : (Int)) =>
              bif (y45 != (0 : Int)) then
                bif (y5.2 == y45) then
                  bif ((y5.1.1 : Int) == (0 : Int)) then
                    some true
                  else some false
                else some false
              else bindO (F 30 (RSh.tup [(Prod.mk false [CK.list]), (Prod.mk false [CK.bool])]) [(PV.list p2n p2c), (PV.int .i64 p1_0)]) fun (y46 : (((Nat) × (List PV)) × (Bool))) =>
              bif y46.2 then
                bif (y5.2 == (0 : Int)) then
                  bindO (F 19 (RSh.one CK.bool) [(PV.list y5.1.1 y5.1.2), (PV.list y46.1.1 y46.1.2)]) fun (y47 : (Bool)) =>
                  bif y47 then
                    some true
                  else some false
                else some false
              else bif (y5.2 == (8 : Int)) then
                bif ((y5.1.1 : Int) == (0 : Int)) then
                  some true
                else some false
              else some false
            else some false
          else bindO (F 29 (RSh.one (CK.int .i64)) [(PV.list p2n p2c)]) fun (y48 : (Int)) =>
          bindO (F 17 (RSh.one (CK.int .i64)) [(PV.int .i64 p1_0)]) fun (y49 : (Int)) =>
          bindO (F 16 (RSh.one (CK.int .i64)) [(PV.int .i64 y48), (PV.int .i64 y49)]) fun (y50 : (Int)) =>
          bif (y50 != (0 : Int)) then
            bif (y5.2 == y50) then
              bif ((y5.1.1 : Int) == (0 : Int)) then
                some true
              else some false
            else some false
          else bindO (F 30 (RSh.tup [(Prod.mk false [CK.list]), (Prod.mk false [CK.bool])]) [(PV.list p2n p2c), (PV.int .i64 p1_0)]) fun (y51 : (((Nat) × (List PV)) × (Bool))) =>
          bif y51.2 then
            bif (y5.2 == (0 : Int)) then
              bindO (F 19 (RSh.one CK.bool) [(PV.list y5.1.1 y5.1.2), (PV.list y51.1.1 y51.1.2)]) fun (y52 : (Bool)) =>
              bif y52 then
                some true
              else some false
            else some false
          else bif (y5.2 == (8 : Int)) then
            bif ((y5.1.1 : Int) == (0 : Int)) then
              some true
            else some false
          else some false
        else bif (y10 == (0 : Int)) then
          bif (y3.2 != (0 : Int)) then
            some false
          else bindO (F 28 (RSh.one CK.list) [(PV.list p0n p0c), (PV.agg [(PV.int .i64 p1_0), (PV.int .i64 p1_1)])]) fun (y53 : ((Nat) × (List PV))) =>
          bindO (F 27 (RSh.one CK.bool) [(PV.list y3.1.1 y3.1.2), (PV.list y53.1 y53.2)]) fun (y54 : (Bool)) =>
          bif y54 then
            bindO (F 29 (RSh.one (CK.int .i64)) [(PV.list p2n p2c)]) fun (y55 : (Int)) =>
            bindO (F 17 (RSh.one (CK.int .i64)) [(PV.int .i64 p1_0)]) fun (y56 : (Int)) =>
            bindO (F 16 (RSh.one (CK.int .i64)) [(PV.int .i64 y55), (PV.int .i64 y56)]) fun (y57 : (Int)) =>
            bif (y57 != (0 : Int)) then
              bif (y5.2 == y57) then
                bif ((y5.1.1 : Int) == (0 : Int)) then
                  some true
                else some false
              else some false
            else bindO (F 30 (RSh.tup [(Prod.mk false [CK.list]), (Prod.mk false [CK.bool])]) [(PV.list p2n p2c), (PV.int .i64 p1_0)]) fun (y58 : (((Nat) × (List PV)) × (Bool))) =>
            bif y58.2 then
              bif (y5.2 == (0 : Int)) then
                bindO (F 19 (RSh.one CK.bool) [(PV.list y5.1.1 y5.1.2), (PV.list y58.1.1 y58.1.2)]) fun (y59 : (Bool)) =>
                bif y59 then
                  some true
                else some false
              else some false
            else bif (y5.2 == (8 : Int)) then
              bif ((y5.1.1 : Int) == (0 : Int)) then
                some true
              else some false
            else some false
          else some false
        else bindO (F 29 (RSh.one (CK.int .i64)) [(PV.list p2n p2c)]) fun (y60 : (Int)) =>
        bindO (F 17 (RSh.one (CK.int .i64)) [(PV.int .i64 p1_0)]) fun (y61 : (Int)) =>
        bindO (F 16 (RSh.one (CK.int .i64)) [(PV.int .i64 y60), (PV.int .i64 y61)]) fun (y62 : (Int)) =>
        bif (y62 != (0 : Int)) then
          bif (y5.2 == y62) then
            bif ((y5.1.1 : Int) == (0 : Int)) then
              some true
            else some false
          else some false
        else bindO (F 30 (RSh.tup [(Prod.mk false [CK.list]), (Prod.mk false [CK.bool])]) [(PV.list p2n p2c), (PV.int .i64 p1_0)]) fun (y63 : (((Nat) × (List PV)) × (Bool))) =>
        bif y63.2 then
          bif (y5.2 == (0 : Int)) then
            bindO (F 19 (RSh.one CK.bool) [(PV.list y5.1.1 y5.1.2), (PV.list y63.1.1 y63.1.2)]) fun (y64 : (Bool)) =>
            bif y64 then
              some true
            else some false
          else some false
        else bif (y5.2 == (8 : Int)) then
          bif ((y5.1.1 : Int) == (0 : Int)) then
            some true
          else some false
        else some false
      else bif (y10 == (0 : Int)) then
        bindO (F 18 (RSh.one (CK.int .i64)) [(PV.list p0n p0c), (PV.int .i64 p1_0)]) fun (y65 : (Int)) =>
        bif (y65 != (0 : Int)) then
          bif (y3.2 != y65) then
            some false
          else bif ((y3.1.1 : Int) != (0 : Int)) then
            some false
          else bif (y65 == (0 : Int)) then
            bif (y3.2 != (0 : Int)) then
              some false
            else bindO (F 28 (RSh.one CK.list) [(PV.list p0n p0c), (PV.agg [(PV.int .i64 p1_0), (PV.int .i64 p1_1)])]) fun (y66 : ((Nat) × (List PV))) =>
            bindO (F 27 (RSh.one CK.bool) [(PV.list y3.1.1 y3.1.2), (PV.list y66.1 y66.2)]) fun (y67 : (Bool)) =>
            bif y67 then
              bindO (F 29 (RSh.one (CK.int .i64)) [(PV.list p2n p2c)]) fun (y68 : (Int)) =>
              bindO (F 17 (RSh.one (CK.int .i64)) [(PV.int .i64 p1_0)]) fun (y69 : (Int)) =>
              bindO (F 16 (RSh.one (CK.int .i64)) [(PV.int .i64 y68), (PV.int .i64 y69)]) fun (y70 : (Int)) =>
              bif (y70 != (0 : Int)) then
                bif (y5.2 == y70) then
                  bif ((y5.1.1 : Int) == (0 : Int)) then
                    some true
                  else some false
                else some false
              else bindO (F 30 (RSh.tup [(Prod.mk false [CK.list]), (Prod.mk false [CK.bool])]) [(PV.list p2n p2c), (PV.int .i64 p1_0)]) fun (y71 : (((Nat) × (List PV)) × (Bool))) =>
              bif y71.2 then
                bif (y5.2 == (0 : Int)) then
                  bindO (F 19 (RSh.one CK.bool) [(PV.list y5.1.1 y5.1.2), (PV.list y71.1.1 y71.1.2)]) fun (y72 : (Bool)) =>
                  bif y72 then
                    some true
                  else some false
                else some false
              else bif (y5.2 == (8 : Int)) then
                bif ((y5.1.1 : Int) == (0 : Int)) then
                  some true
                else some false
              else some false
            else some false
          else bindO (F 29 (RSh.one (CK.int .i64)) [(PV.list p2n p2c)]) fun (y73 : (Int)) =>
          bindO (F 17 (RSh.one (CK.int .i64)) [(PV.int .i64 p1_0)]) fun (y74 : (Int)) =>
          bindO (F 16 (RSh.one (CK.int .i64)) [(PV.int .i64 y73), (PV.int .i64 y74)]) fun (y75 : (Int)) =>
          bif (y75 != (0 : Int)) then
            bif (y5.2 == y75) then
              bif ((y5.1.1 : Int) == (0 : Int)) then
                some true
              else some false
            else some false
          else bindO (F 30 (RSh.tup [(Prod.mk false [CK.list]), (Prod.mk false [CK.bool])]) [(PV.list p2n p2c), (PV.int .i64 p1_0)]) fun (y76 : (((Nat) × (List PV)) × (Bool))) =>
          bif y76.2 then
            bif (y5.2 == (0 : Int)) then
              bindO (F 19 (RSh.one CK.bool) [(PV.list y5.1.1 y5.1.2), (PV.list y76.1.1 y76.1.2)]) fun (y77 : (Bool)) =>
              bif y77 then
                some true
              else some false
            else some false
          else bif (y5.2 == (8 : Int)) then
            bif ((y5.1.1 : Int) == (0 : Int)) then
              some true
            else some false
          else some false
        else bif (y65 == (0 : Int)) then
          bif (y3.2 != (0 : Int)) then
            some false
          else bindO (F 28 (RSh.one CK.list) [(PV.list p0n p0c), (PV.agg [(PV.int .i64 p1_0), (PV.int .i64 p1_1)])]) fun (y78 : ((Nat) × (List PV))) =>
          bindO (F 27 (RSh.one CK.bool) [(PV.list y3.1.1 y3.1.2), (PV.list y78.1 y78.2)]) fun (y79 : (Bool)) =>
          bif y79 then
            bindO (F 29 (RSh.one (CK.int .i64)) [(PV.list p2n p2c)]) fun (y80 : (Int)) =>
            bindO (F 17 (RSh.one (CK.int .i64)) [(PV.int .i64 p1_0)]) fun (y81 : (Int)) =>
            bindO (F 16 (RSh.one (CK.int .i64)) [(PV.int .i64 y80), (PV.int .i64 y81)]) fun (y82 : (Int)) =>
            bif (y82 != (0 : Int)) then
              bif (y5.2 == y82) then
                bif ((y5.1.1 : Int) == (0 : Int)) then
                  some true
                else some false
              else some false
            else bindO (F 30 (RSh.tup [(Prod.mk false [CK.list]), (Prod.mk false [CK.bool])]) [(PV.list p2n p2c), (PV.int .i64 p1_0)]) fun (y83 : (((Nat) × (List PV)) × (Bool))) =>
            bif y83.2 then
              bif (y5.2 == (0 : Int)) then
                bindO (F 19 (RSh.one CK.bool) [(PV.list y5.1.1 y5.1.2), (PV.list y83.1.1 y83.1.2)]) fun (y84 : (Bool)) =>
                bif y84 then
                  some true
                else some false
              else some false
            else bif (y5.2 == (8 : Int)) then
              bif ((y5.1.1 : Int) == (0 : Int)) then
                some true
              else some false
            else some false
          else some false
        else bindO (F 29 (RSh.one (CK.int .i64)) [(PV.list p2n p2c)]) fun (y85 : (Int)) =>
        bindO (F 17 (RSh.one (CK.int .i64)) [(PV.int .i64 p1_0)]) fun (y86 : (Int)) =>
        bindO (F 16 (RSh.one (CK.int .i64)) [(PV.int .i64 y85), (PV.int .i64 y86)]) fun (y87 : (Int)) =>
        bif (y87 != (0 : Int)) then
          bif (y5.2 == y87) then
            bif ((y5.1.1 : Int) == (0 : Int)) then
              some true
            else some false
          else some false
        else bindO (F 30 (RSh.tup [(Prod.mk false [CK.list]), (Prod.mk false [CK.bool])]) [(PV.list p2n p2c), (PV.int .i64 p1_0)]) fun (y88 : (((Nat) × (List PV)) × (Bool))) =>
        bif y88.2 then
          bif (y5.2 == (0 : Int)) then
            bindO (F 19 (RSh.one CK.bool) [(PV.list y5.1.1 y5.1.2), (PV.list y88.1.1 y88.1.2)]) fun (y89 : (Bool)) =>
            bif y89 then
              some true
            else some false
          else some false
        else bif (y5.2 == (8 : Int)) then
          bif ((y5.1.1 : Int) == (0 : Int)) then
            some true
          else some false
        else some false
      else bif (y10 != (0 : Int)) then
        bif (y3.2 != y10) then
          some false
        else bif ((y3.1.1 : Int) != (0 : Int)) then
          some false
        else bif (y10 == (0 : Int)) then
          bif (y3.2 != (0 : Int)) then
            some false
          else bindO (F 28 (RSh.one CK.list) [(PV.list p0n p0c), (PV.agg [(PV.int .i64 p1_0), (PV.int .i64 p1_1)])]) fun (y90 : ((Nat) × (List PV))) =>
          bindO (F 27 (RSh.one CK.bool) [(PV.list y3.1.1 y3.1.2), (PV.list y90.1 y90.2)]) fun (y91 : (Bool)) =>
          bif y91 then
            bindO (F 29 (RSh.one (CK.int .i64)) [(PV.list p2n p2c)]) fun (y92 : (Int)) =>
            bindO (F 17 (RSh.one (CK.int .i64)) [(PV.int .i64 p1_0)]) fun (y93 : (Int)) =>
            bindO (F 16 (RSh.one (CK.int .i64)) [(PV.int .i64 y92), (PV.int .i64 y93)]) fun (y94 : (Int)) =>
            bif (y94 != (0 : Int)) then
              bif (y5.2 == y94) then
                bif ((y5.1.1 : Int) == (0 : Int)) then
                  some true
                else some false
              else some false
            else bindO (F 30 (RSh.tup [(Prod.mk false [CK.list]), (Prod.mk false [CK.bool])]) [(PV.list p2n p2c), (PV.int .i64 p1_0)]) fun (y95 : (((Nat) × (List PV)) × (Bool))) =>
            bif y95.2 then
              bif (y5.2 == (0 : Int)) then
                bindO (F 19 (RSh.one CK.bool) [(PV.list y5.1.1 y5.1.2), (PV.list y95.1.1 y95.1.2)]) fun (y96 : (Bool)) =>
                bif y96 then
                  some true
                else some false
              else some false
            else bif (y5.2 == (8 : Int)) then
              bif ((y5.1.1 : Int) == (0 : Int)) then
                some true
              else some false
            else some false
          else some false
        else bindO (F 29 (RSh.one (CK.int .i64)) [(PV.list p2n p2c)]) fun (y97 : (Int)) =>
        bindO (F 17 (RSh.one (CK.int .i64)) [(PV.int .i64 p1_0)]) fun (y98 : (Int)) =>
        bindO (F 16 (RSh.one (CK.int .i64)) [(PV.int .i64 y97), (PV.int .i64 y98)]) fun (y99 : (Int)) =>
        bif (y99 != (0 : Int)) then
          bif (y5.2 == y99) then
            bif ((y5.1.1 : Int) == (0 : Int)) then
              some true
            else some false
          else some false
        else bindO (F 30 (RSh.tup [(Prod.mk false [CK.list]), (Prod.mk false [CK.bool])]) [(PV.list p2n p2c), (PV.int .i64 p1_0)]) fun (y100 : (((Nat) × (List PV)) × (Bool))) =>
        bif y100.2 then
          bif (y5.2 == (0 : Int)) then
            bindO (F 19 (RSh.one CK.bool) [(PV.list y5.1.1 y5.1.2), (PV.list y100.1.1 y100.1.2)]) fun (y101 : (Bool)) =>
            bif y101 then
              some true
            else some false
          else some false
        else bif (y5.2 == (8 : Int)) then
          bif ((y5.1.1 : Int) == (0 : Int)) then
            some true
          else some false
        else some false
      else bif (y10 == (0 : Int)) then
        bif (y3.2 != (0 : Int)) then
          some false
        else bindO (F 28 (RSh.one CK.list) [(PV.list p0n p0c), (PV.agg [(PV.int .i64 p1_0), (PV.int .i64 p1_1)])]) fun (y102 : ((Nat) × (List PV))) =>
        bindO (F 27 (RSh.one CK.bool) [(PV.list y3.1.1 y3.1.2), (PV.list y102.1 y102.2)]) fun (y103 : (Bool)) =>
        bif y103 then
          bindO (F 29 (RSh.one (CK.int .i64)) [(PV.list p2n p2c)]) fun (y104 : (Int)) =>
          bindO (F 17 (RSh.one (CK.int .i64)) [(PV.int .i64 p1_0)]) fun (y105 : (Int)) =>
          bindO (F 16 (RSh.one (CK.int .i64)) [(PV.int .i64 y104), (PV.int .i64 y105)]) fun (y106 : (Int)) =>
          bif (y106 != (0 : Int)) then
            bif (y5.2 == y106) then
              bif ((y5.1.1 : Int) == (0 : Int)) then
                some true
              else some false
            else some false
          else bindO (F 30 (RSh.tup [(Prod.mk false [CK.list]), (Prod.mk false [CK.bool])]) [(PV.list p2n p2c), (PV.int .i64 p1_0)]) fun (y107 : (((Nat) × (List PV)) × (Bool))) =>
          bif y107.2 then
            bif (y5.2 == (0 : Int)) then
              bindO (F 19 (RSh.one CK.bool) [(PV.list y5.1.1 y5.1.2), (PV.list y107.1.1 y107.1.2)]) fun (y108 : (Bool)) =>
              bif y108 then
                some true
              else some false
            else some false
          else bif (y5.2 == (8 : Int)) then
            bif ((y5.1.1 : Int) == (0 : Int)) then
              some true
            else some false
          else some false
        else some false
      else bindO (F 29 (RSh.one (CK.int .i64)) [(PV.list p2n p2c)]) fun (y109 : (Int)) =>
      bindO (F 17 (RSh.one (CK.int .i64)) [(PV.int .i64 p1_0)]) fun (y110 : (Int)) =>
      bindO (F 16 (RSh.one (CK.int .i64)) [(PV.int .i64 y109), (PV.int .i64 y110)]) fun (y111 : (Int)) =>
      bif (y111 != (0 : Int)) then
        bif (y5.2 == y111) then
          bif ((y5.1.1 : Int) == (0 : Int)) then
            some true
          else some false
        else some false
      else bindO (F 30 (RSh.tup [(Prod.mk false [CK.list]), (Prod.mk false [CK.bool])]) [(PV.list p2n p2c), (PV.int .i64 p1_0)]) fun (y112 : (((Nat) × (List PV)) × (Bool))) =>
      bif y112.2 then
        bif (y5.2 == (0 : Int)) then
          bindO (F 19 (RSh.one CK.bool) [(PV.list y5.1.1 y5.1.2), (PV.list y112.1.1 y112.1.2)]) fun (y113 : (Bool)) =>
          bif y113 then
            some true
          else some false
        else some false
      else bif (y5.2 == (8 : Int)) then
        bif ((y5.1.1 : Int) == (0 : Int)) then
          some true
        else some false
      else some false
    else some true
  else some false
theorem tw_CloudSpans_eq (F : FnT) (p0n : Nat) (p0c : List PV) (p1_0 : Int) (p1_1 : Int) (p2n : Nat) (p2c : List PV) : semF (callP F Ew_CloudSpans 20) s4 (loopT []) 400 a4 [PV.list p0n p0c, PV.agg [PV.int .i64 p1_0, PV.int .i64 p1_1], PV.list p2n p2c] (fun rv => decR (RSh.one CK.bool) rv.pv) = tw_CloudSpans F p0n p0c p1_0 p1_1 p2n p2c := by kernel_rfl
noncomputable abbrev Fw_CloudSpans (args : List PV) := Fn env 4 (RSh.one CK.bool) args
theorem Fw_CloudSpans_of  (p0n : Nat) (p0c : List PV) (p1_0 : Int) (p1_1 : Int) (p2n : Nat) (p2c : List PV) {res : (Bool)} (h : tw_CloudSpans (Fn env) p0n p0c p1_0 p1_1 p2n p2c = some res) : Fw_CloudSpans [PV.list p0n p0c, PV.agg [PV.int .i64 p1_0, PV.int .i64 p1_1], PV.list p2n p2c] = some res :=
  fn_of Ew_CloudSpans_ok rfl rfl lo_nil ((tw_CloudSpans_eq _ _ _ _ _ _ _).trans h)
end Gv
