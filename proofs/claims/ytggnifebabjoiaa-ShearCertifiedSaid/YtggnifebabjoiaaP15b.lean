/- What ShearCertified does, as a whole. -/
import Derived.Test.YtggnifebabjoiaaP15a
namespace Gv
open Go
set_option maxRecDepth 100000
set_option maxHeartbeats 4000000
def klaw5 (F : FnT) (L2 : Q → Option Ylaw5_2) (L6 : Q → Option Ylaw5_6) (z : Ylaw5_0) : Option (Bool) :=
  Sum.elim (fun y0 =>
    bif (decide (((0 : Int) ≤ y0.2.2.2.2.2.2.2.2.1) ∧ (y0.2.2.2.2.2.2.2.2.1 < (0 : Int)))) then
      none
    else none) (fun y1 =>
    bif (decide (((0 : Int) ≤ y1.2.2.2.2.2.2.2.2.2.2.1) ∧ (y1.2.2.2.2.2.2.2.2.2.2.1 < (y1.2.2.2.2.2.1 : Int)))) then
      bindO (intC .i64 (y1.2.2.2.2.2.2.1[((Int.toNat y1.2.2.2.2.2.2.2.2.2.2.1) * 1)]?)) fun x2 =>
      bif (decide (((0 : Int) ≤ y1.2.2.2.2.2.2.2.2.2.2.1) ∧ (y1.2.2.2.2.2.2.2.2.2.2.1 < (y1.2.2.2.2.2.1 : Int)))) then
        bindO (intC .i64 (y1.2.2.2.2.2.2.1[((Int.toNat y1.2.2.2.2.2.2.2.2.2.2.1) * 1)]?)) fun x3 =>
        bif (decide (((0 : Int) ≤ y1.2.2.2.2.2.2.2.2.2.2.1) ∧ (y1.2.2.2.2.2.2.2.2.2.2.1 < (y1.2.2.2.2.2.2.2.1 : Int)))) then
          bif (decide (y1.2.2.2.2.2.2.2.2.2.2.2.2.2.2.1 = y1.2.2.2.2.2.2.2.1)) then
            bindO (Gv.overO y1.2.2.2.2.2.2.2.2.2.2.2.2.2.2.2.1 (((Int.toNat y1.2.2.2.2.2.2.2.2.2.2.1) * 3) + 1) [(PV.int .i64 x2), (PV.int .i64 x3)]) fun x4 =>
            bif (decide (((0 : Int) ≤ y1.2.2.2.2.2.2.2.2.2.2.1) ∧ (y1.2.2.2.2.2.2.2.2.2.2.1 < (y1.2.2.2.2.2.1 : Int)))) then
              bindO (intC .i64 (y1.2.2.2.2.2.2.1[((Int.toNat y1.2.2.2.2.2.2.2.2.2.2.1) * 1)]?)) fun x5 =>
              bif (decide (((0 : Int) ≤ y1.2.2.2.2.2.2.2.2.2.2.2.1) ∧ (y1.2.2.2.2.2.2.2.2.2.2.2.1 < (y1.2.2.2.2.2.1 : Int)))) then
                bindO (intC .i64 (y1.2.2.2.2.2.2.1[((Int.toNat y1.2.2.2.2.2.2.2.2.2.2.2.1) * 1)]?)) fun x6 =>
                bif (decide ((w64 (x5 - x6)) < y1.2.2.2.2.2.2.2.2.2.2.2.2.1)) then
                  some false
                else bif (decide (((0 : Int) ≤ y1.2.2.2.2.2.2.2.2.2.2.1) ∧ (y1.2.2.2.2.2.2.2.2.2.2.1 < (y1.2.2.2.2.2.1 : Int)))) then
                  bindO (intC .i64 (y1.2.2.2.2.2.2.1[((Int.toNat y1.2.2.2.2.2.2.2.2.2.2.1) * 1)]?)) fun x7 =>
                  bif (decide (((0 : Int) ≤ y1.2.2.2.2.2.2.2.2.2.2.2.1) ∧ (y1.2.2.2.2.2.2.2.2.2.2.2.1 < (y1.2.2.2.2.2.1 : Int)))) then
                    bindO (intC .i64 (y1.2.2.2.2.2.2.1[((Int.toNat y1.2.2.2.2.2.2.2.2.2.2.2.1) * 1)]?)) fun x8 =>
                    bif (decide ((w64 (x7 - x8)) > y1.2.2.2.2.2.2.2.2.2.2.2.2.2.1)) then
                      some false
                    else bif (decide (y1.2.2.2.2.1 < y1.2.2.2.2.2.2.2.2.2.2.2.2.2.1)) then
                      some false
                    else bindO (L2 (Tlaw5_2a y1.1 y1.2.1 y1.2.2.1 y1.2.2.2.1 y1.2.2.2.2.1 y1.2.2.2.2.2.1 y1.2.2.2.2.2.2.1 y1.2.2.2.2.2.2.2.1 y1.2.2.2.2.2.2.2.2.1 y1.2.2.2.2.2.2.2.2.2.1 (0 : Int) y1.2.2.2.2.2.2.2.2.2.2.1 y1.2.2.2.2.2.2.2.2.2.2.2.1 y1.2.2.2.2.2.2.2.2.2.2.2.2.1 y1.2.2.2.2.2.2.2.2.2.2.2.2.2.1 y1.2.2.2.2.2.2.2.1 x4 y1.2.2.2.2.2.2.2.2.2.2.2.2.2.2.2.2.1 y1.2.2.2.2.2.2.2.2.2.2.2.2.2.2.2.2.2.1 y1.2.2.2.2.2.2.2.2.2.2.2.2.2.2.2.2.2.2.1 y1.2.2.2.2.2.2.2.2.2.2.2.2.2.2.2.2.2.2.2.1 y1.2.2.2.2.2.2.2.2.2.2.2.2.2.2.2.2.2.2.2.2)) fun z =>
                    Sum.elim (fun y9 =>
                      bif (decide (y9.2.2.2.2.2.2.2.2.2.2.2.2.2.1 = y9.2.2.2.2.2.2.1)) then
                        bindO (F 24 (RSh.tup [(Prod.mk true [(CK.int .i64), (CK.int .i64), (CK.int .i64), (CK.int .i64)]), (Prod.mk false [(CK.int .i64)])]) [(PV.list y9.2.2.2.2.2.2.1 y9.2.2.2.2.2.2.2.2.2.2.2.2.2.2.1), (PV.int .i64 y9.2.2.1)]) fun (y10 : ((Int) × ((Int) × ((Int) × ((Int) × (Int)))))) =>
                        bif (decide (y9.2.2.2.2.2.2.2.2.2.2.2.2.2.2.2.1 = y9.2.2.2.2.2.2.2.1)) then
                          bindO (F 24 (RSh.tup [(Prod.mk true [(CK.int .i64), (CK.int .i64), (CK.int .i64), (CK.int .i64)]), (Prod.mk false [(CK.int .i64)])]) [(PV.list y9.2.2.2.2.2.2.2.1 y9.2.2.2.2.2.2.2.2.2.2.2.2.2.2.2.2.1), (PV.int .i64 y9.2.2.1)]) fun (y11 : ((Int) × ((Int) × ((Int) × ((Int) × (Int)))))) =>
                          bif (decide (y9.2.2.2.2.2.2.2.2.2.2.2.2.2.2.2.2.2.1 = y9.2.2.2.2.2.2.2.2.1)) then
                            bindO (F 25 (RSh.tup [(Prod.mk true [(CK.int .i64), (CK.int .i64), (CK.int .i64), (CK.int .i64)]), (Prod.mk false [(CK.int .i64)])]) [(PV.list y9.2.2.2.2.2.2.2.2.1 y9.2.2.2.2.2.2.2.2.2.2.2.2.2.2.2.2.2.2.1), (PV.int .i64 y9.2.2.1)]) fun (y12 : ((Int) × ((Int) × ((Int) × ((Int) × (Int)))))) =>
                            bif (y10.2.2.2.2 != (0 : Int)) then
                              some false
                            else bif (decide (y10.2.2.1 < y9.2.2.2.2.2.2.2.2.2.2.2.1)) then
                              some false
                            else bif (y11.2.2.2.2 != (0 : Int)) then
                              some false
                            else bif (decide (y11.2.2.1 > y9.2.2.2.2.2.2.2.2.2.2.2.1)) then
                              some false
                            else bif (y12.2.2.2.2 != (0 : Int)) then
                              some false
                            else bif (!((y12.1 == y9.2.2.2.2.2.2.2.2.2.1) && ((y12.2.1 == y9.2.2.2.2.2.2.2.2.2.2.1) && ((y12.2.2.1 == y9.2.2.2.2.2.2.2.2.2.2.2.1) && ((y12.2.2.2.1 == y9.2.2.2.2.2.2.2.2.2.2.2.2.1) && true))))) then
                              some false
                            else bif (decide (y9.1 = 0)) then
                              bindO (F 27 (RSh.tup [(Prod.mk false [CK.list]), (Prod.mk false [(CK.int .i64)])]) [(PV.list 0 []), (PV.int .i64 y9.2.2.2.1)]) fun (y13 : (((Nat) × (List PV)) × (Int))) =>
                              bif (y13.2 != (0 : Int)) then
                                some false
                              else bif (decide ((y13.1.1 : Int) > (y9.1 : Int))) then
                                some false
                              else bindO (L6 (Tlaw5_6a y9.1 y9.2.1 y9.2.2.2.1 y9.2.2.2.2.1 y9.2.2.2.2.2.1 y13.1.1 y13.1.2 (0 : Int) y9.2.2.2.2.2.2.2.2.2.2.2.2.2.2.2.2.2.2.2)) fun z =>
                              Sum.elim (fun y14 =>
                                some false) (fun y15 =>
                                some true) z
                            else bif (decide ((List.length y9.2.1) = (y9.1 * 3))) then
                              bif (decide ((0 = 0) ∧ ((0 + y9.1) ≤ big))) then
                                bif (decide ((0 + y9.1) = (0 + y9.1))) then
                                  bindO (F 27 (RSh.tup [(Prod.mk false [CK.list]), (Prod.mk false [(CK.int .i64)])]) [(PV.list (0 + y9.1) ([] ++ y9.2.1)), (PV.int .i64 y9.2.2.2.1)]) fun (y16 : (((Nat) × (List PV)) × (Int))) =>
                                  bif (y16.2 != (0 : Int)) then
                                    some false
                                  else bif (decide ((y16.1.1 : Int) > (y9.1 : Int))) then
                                    some false
                                  else bindO (L6 (Tlaw5_6a y9.1 y9.2.1 y9.2.2.2.1 y9.2.2.2.2.1 y9.2.2.2.2.2.1 y16.1.1 y16.1.2 (0 : Int) y9.2.2.2.2.2.2.2.2.2.2.2.2.2.2.2.2.2.2.2)) fun z =>
                                  Sum.elim (fun y17 =>
                                    some false) (fun y18 =>
                                    some true) z
                                else none
                              else none
                            else none
                          else none
                        else none
                      else none) (fun y19 =>
                      some false) z
                  else none
                else none
              else none
            else none
          else none
        else none
      else none
    else none) z
def tlaw5 (F : FnT) (L0 : Q → Option Ylaw5_0) (L2 : Q → Option Ylaw5_2) (L4 : Q → Option Ylaw5_4) (L6 : Q → Option Ylaw5_6) (p0n : Nat) (p0c : List PV) (p1n : Nat) (p1c : List PV) (p2_0 p2_1 : Int) : Option (Bool) :=
  bindO (F 13 (RSh.one CK.bool) []) fun (y0 : (Bool)) =>
  bif y0 then
    bindO (F 20 (RSh.one CK.bool) [(PV.list p0n p0c)]) fun (y1 : (Bool)) =>
    bif y1 then
      bindO (F 37 (RSh.one (CK.int .i64)) [(PV.list p0n p0c)]) fun (y2 : (Int)) =>
      bif (y2 != (0 : Int)) then
        some true
      else bindO (F 34 (RSh.one (CK.int .i64)) [(PV.int .i64 p2_0)]) fun (y3 : (Int)) =>
      bif (y3 != (0 : Int)) then
        some true
      else bindO (F 31 (RSh.one (CK.int .i64)) [(PV.int .i64 p2_1)]) fun (y4 : (Int)) =>
      bif (y4 != (0 : Int)) then
        some true
      else bif (decide ((p1n : Int) > (30 : Int))) then
        some true
      else bif (decide (p0n = 0)) then
        bindO (F 24 (RSh.tup [(Prod.mk true [(CK.int .i64), (CK.int .i64), (CK.int .i64), (CK.int .i64)]), (Prod.mk false [(CK.int .i64)])]) [(PV.list 0 []), (PV.int .i64 p2_0)]) fun (y5 : ((Int) × ((Int) × ((Int) × ((Int) × (Int)))))) =>
        bif (decide (p0n = 0)) then
          bindO (F 26 (RSh.tup [(Prod.mk false [(CK.int .i64)]), (Prod.mk false [(CK.int .i64)])]) [(PV.list 0 []), (PV.int .i64 p2_0)]) fun (y6 : ((Int) × (Int))) =>
          bif (y5.2.2.2.2 != (0 : Int)) then
            bif (y5.2.2.2.2 == (12 : Int)) then
              bif (y6.2 == (12 : Int)) then
                some true
              else some false
            else some false
          else bif (y6.2 != (0 : Int)) then
            some false
          else bindO (F 29 (RSh.one CK.bool) [(PV.int .i64 y5.1), (PV.int .i64 (0 : Int)), (PV.int .i64 (w64 (y5.2.1 - (1 : Int))))]) fun (y7 : (Bool)) =>
          bif y7 then
            bif (decide (y5.2.1 ≥ (p0n : Int))) then
              some false
            else bif (decide (((0 : Int) ≤ y5.2.1) ∧ (y5.2.1 < (p0n : Int)))) then
              bindO (intC .i64 (p0c[(((Int.toNat y5.2.1) * 3) + 0)]?)) fun x8 =>
              bif (decide (((0 : Int) ≤ y5.1) ∧ (y5.1 < (p0n : Int)))) then
                bindO (intC .i64 (p0c[(((Int.toNat y5.1) * 3) + 0)]?)) fun x9 =>
                bif (decide ((w64 (x8 - x9)) > p2_0)) then
                  some false
                else bif (decide (p0n = 0)) then
                  bif (decide (p0n = 0)) then
                    bif (decide (p0n = 0)) then
                      bindO (L0 (Tlaw5_0a p0n p0c p1n p1c p2_0 p2_1 y6.1 0 0 0 y5.1 y5.2.1 y5.2.2.1 y5.2.2.2.1 0 [] 0 [] 0 [])) fun z =>
                      klaw5 F L2 L6 z
                    else bif (decide ((List.length p0c) = (p0n * 3))) then
                      bif (decide ((0 = 0) ∧ ((0 + p0n) ≤ big))) then
                        bif (decide ((0 + p0n) = (0 + p0n))) then
                          bif (decide ((List.all ([] ++ p0c) Gv.plain) = true)) then
                            bindO (L0 (Tlaw5_0a p0n p0c p1n p1c p2_0 p2_1 y6.1 0 0 (0 + p0n) y5.1 y5.2.1 y5.2.2.1 y5.2.2.2.1 0 [] 0 [] (0 + p0n) ([] ++ p0c))) fun z =>
                            klaw5 F L2 L6 z
                          else none
                        else none
                      else none
                    else none
                  else bif (decide ((List.length p0c) = (p0n * 3))) then
                    bif (decide ((0 = 0) ∧ ((0 + p0n) ≤ big))) then
                      bif (decide ((0 + p0n) = (0 + p0n))) then
                        bif (decide ((List.all ([] ++ p0c) Gv.plain) = true)) then
                          bif (decide (p0n = 0)) then
                            bindO (L0 (Tlaw5_0a p0n p0c p1n p1c p2_0 p2_1 y6.1 0 (0 + p0n) 0 y5.1 y5.2.1 y5.2.2.1 y5.2.2.2.1 0 [] (0 + p0n) ([] ++ p0c) 0 [])) fun z =>
                            klaw5 F L2 L6 z
                          else bif (decide ((List.length p0c) = (p0n * 3))) then
                            bif (decide ((0 = 0) ∧ ((0 + p0n) ≤ big))) then
                              bif (decide ((0 + p0n) = (0 + p0n))) then
                                bif (decide ((List.all ([] ++ p0c) Gv.plain) = true)) then
                                  bindO (L0 (Tlaw5_0a p0n p0c p1n p1c p2_0 p2_1 y6.1 0 (0 + p0n) (0 + p0n) y5.1 y5.2.1 y5.2.2.1 y5.2.2.2.1 0 [] (0 + p0n) ([] ++ p0c) (0 + p0n) ([] ++ p0c))) fun z =>
                                  klaw5 F L2 L6 z
                                else none
                              else none
                            else none
                          else none
                        else none
                      else none
                    else none
                  else none
                else bif (decide ((List.length p0c) = (p0n * 3))) then
                  bif (decide ((0 = 0) ∧ ((0 + p0n) ≤ big))) then
                    bif (decide ((0 + p0n) = (0 + p0n))) then
                      bif (decide ((List.all ([] ++ p0c) Gv.plain) = true)) then
                        bif (decide (p0n = 0)) then
                          bif (decide (p0n = 0)) then
                            bindO (L0 (Tlaw5_0a p0n p0c p1n p1c p2_0 p2_1 y6.1 (0 + p0n) 0 0 y5.1 y5.2.1 y5.2.2.1 y5.2.2.2.1 (0 + p0n) ([] ++ p0c) 0 [] 0 [])) fun z =>
                            klaw5 F L2 L6 z
                          else bif (decide ((List.length p0c) = (p0n * 3))) then
                            bif (decide ((0 = 0) ∧ ((0 + p0n) ≤ big))) then
                              bif (decide ((0 + p0n) = (0 + p0n))) then
                                bif (decide ((List.all ([] ++ p0c) Gv.plain) = true)) then
                                  bindO (L0 (Tlaw5_0a p0n p0c p1n p1c p2_0 p2_1 y6.1 (0 + p0n) 0 (0 + p0n) y5.1 y5.2.1 y5.2.2.1 y5.2.2.2.1 (0 + p0n) ([] ++ p0c) 0 [] (0 + p0n) ([] ++ p0c))) fun z =>
                                  klaw5 F L2 L6 z
                                else none
                              else none
                            else none
                          else none
                        else bif (decide ((List.length p0c) = (p0n * 3))) then
                          bif (decide ((0 = 0) ∧ ((0 + p0n) ≤ big))) then
                            bif (decide ((0 + p0n) = (0 + p0n))) then
                              bif (decide ((List.all ([] ++ p0c) Gv.plain) = true)) then
                                bif (decide (p0n = 0)) then
                                  bindO (L0 (Tlaw5_0a p0n p0c p1n p1c p2_0 p2_1 y6.1 (0 + p0n) (0 + p0n) 0 y5.1 y5.2.1 y5.2.2.1 y5.2.2.2.1 (0 + p0n) ([] ++ p0c) (0 + p0n) ([] ++ p0c) 0 [])) fun z =>
                                  klaw5 F L2 L6 z
                                else bif (decide ((List.length p0c) = (p0n * 3))) then
                                  bif (decide ((0 = 0) ∧ ((0 + p0n) ≤ big))) then
                                    bif (decide ((0 + p0n) = (0 + p0n))) then
                                      bif (decide ((List.all ([] ++ p0c) Gv.plain) = true)) then
                                        bindO (L0 (Tlaw5_0a p0n p0c p1n p1c p2_0 p2_1 y6.1 (0 + p0n) (0 + p0n) (0 + p0n) y5.1 y5.2.1 y5.2.2.1 y5.2.2.2.1 (0 + p0n) ([] ++ p0c) (0 + p0n) ([] ++ p0c) (0 + p0n) ([] ++ p0c))) fun z =>
                                        klaw5 F L2 L6 z
                                      else none
                                    else none
                                  else none
                                else none
                              else none
                            else none
                          else none
                        else none
                      else none
                    else none
                  else none
                else none
              else none
            else none
          else some false
        else bif (decide ((List.length p0c) = (p0n * 3))) then
          bif (decide ((0 = 0) ∧ ((0 + p0n) ≤ big))) then
            bif (decide ((0 + p0n) = (0 + p0n))) then
              bindO (F 26 (RSh.tup [(Prod.mk false [(CK.int .i64)]), (Prod.mk false [(CK.int .i64)])]) [(PV.list (0 + p0n) ([] ++ p0c)), (PV.int .i64 p2_0)]) fun (y170 : ((Int) × (Int))) =>
              bif (y5.2.2.2.2 != (0 : Int)) then
                bif (y5.2.2.2.2 == (12 : Int)) then
                  bif (y170.2 == (12 : Int)) then
                    some true
                  else some false
                else some false
              else bif (y170.2 != (0 : Int)) then
                some false
              else bindO (F 29 (RSh.one CK.bool) [(PV.int .i64 y5.1), (PV.int .i64 (0 : Int)), (PV.int .i64 (w64 (y5.2.1 - (1 : Int))))]) fun (y171 : (Bool)) =>
              bif y171 then
                bif (decide (y5.2.1 ≥ (p0n : Int))) then
                  some false
                else bif (decide (((0 : Int) ≤ y5.2.1) ∧ (y5.2.1 < (p0n : Int)))) then
                  bindO (intC .i64 (p0c[(((Int.toNat y5.2.1) * 3) + 0)]?)) fun x172 =>
                  bif (decide (((0 : Int) ≤ y5.1) ∧ (y5.1 < (p0n : Int)))) then
                    bindO (intC .i64 (p0c[(((Int.toNat y5.1) * 3) + 0)]?)) fun x173 =>
                    bif (decide ((w64 (x172 - x173)) > p2_0)) then
                      some false
                    else bif (decide (p0n = 0)) then
                      bif (decide (p0n = 0)) then
                        bif (decide (p0n = 0)) then
                          bindO (L0 (Tlaw5_0a p0n p0c p1n p1c p2_0 p2_1 y170.1 0 0 0 y5.1 y5.2.1 y5.2.2.1 y5.2.2.2.1 0 [] 0 [] 0 [])) fun z =>
                          klaw5 F L2 L6 z
                        else bif (decide ((List.length p0c) = (p0n * 3))) then
                          bif (decide ((0 = 0) ∧ ((0 + p0n) ≤ big))) then
                            bif (decide ((0 + p0n) = (0 + p0n))) then
                              bif (decide ((List.all ([] ++ p0c) Gv.plain) = true)) then
                                bindO (L0 (Tlaw5_0a p0n p0c p1n p1c p2_0 p2_1 y170.1 0 0 (0 + p0n) y5.1 y5.2.1 y5.2.2.1 y5.2.2.2.1 0 [] 0 [] (0 + p0n) ([] ++ p0c))) fun z =>
                                klaw5 F L2 L6 z
                              else none
                            else none
                          else none
                        else none
                      else bif (decide ((List.length p0c) = (p0n * 3))) then
                        bif (decide ((0 = 0) ∧ ((0 + p0n) ≤ big))) then
                          bif (decide ((0 + p0n) = (0 + p0n))) then
                            bif (decide ((List.all ([] ++ p0c) Gv.plain) = true)) then
                              bif (decide (p0n = 0)) then
                                bindO (L0 (Tlaw5_0a p0n p0c p1n p1c p2_0 p2_1 y170.1 0 (0 + p0n) 0 y5.1 y5.2.1 y5.2.2.1 y5.2.2.2.1 0 [] (0 + p0n) ([] ++ p0c) 0 [])) fun z =>
                                klaw5 F L2 L6 z
                              else bif (decide ((List.length p0c) = (p0n * 3))) then
                                bif (decide ((0 = 0) ∧ ((0 + p0n) ≤ big))) then
                                  bif (decide ((0 + p0n) = (0 + p0n))) then
                                    bif (decide ((List.all ([] ++ p0c) Gv.plain) = true)) then
                                      bindO (L0 (Tlaw5_0a p0n p0c p1n p1c p2_0 p2_1 y170.1 0 (0 + p0n) (0 + p0n) y5.1 y5.2.1 y5.2.2.1 y5.2.2.2.1 0 [] (0 + p0n) ([] ++ p0c) (0 + p0n) ([] ++ p0c))) fun z =>
                                      klaw5 F L2 L6 z
                                    else none
                                  else none
                                else none
                              else none
                            else none
                          else none
                        else none
                      else none
                    else bif (decide ((List.length p0c) = (p0n * 3))) then
                      bif (decide ((0 = 0) ∧ ((0 + p0n) ≤ big))) then
                        bif (decide ((0 + p0n) = (0 + p0n))) then
                          bif (decide ((List.all ([] ++ p0c) Gv.plain) = true)) then
                            bif (decide (p0n = 0)) then
                              bif (decide (p0n = 0)) then
                                bindO (L0 (Tlaw5_0a p0n p0c p1n p1c p2_0 p2_1 y170.1 (0 + p0n) 0 0 y5.1 y5.2.1 y5.2.2.1 y5.2.2.2.1 (0 + p0n) ([] ++ p0c) 0 [] 0 [])) fun z =>
                                klaw5 F L2 L6 z
                              else bif (decide ((List.length p0c) = (p0n * 3))) then
                                bif (decide ((0 = 0) ∧ ((0 + p0n) ≤ big))) then
                                  bif (decide ((0 + p0n) = (0 + p0n))) then
                                    bif (decide ((List.all ([] ++ p0c) Gv.plain) = true)) then
                                      bindO (L0 (Tlaw5_0a p0n p0c p1n p1c p2_0 p2_1 y170.1 (0 + p0n) 0 (0 + p0n) y5.1 y5.2.1 y5.2.2.1 y5.2.2.2.1 (0 + p0n) ([] ++ p0c) 0 [] (0 + p0n) ([] ++ p0c))) fun z =>
                                      klaw5 F L2 L6 z
                                    else none
                                  else none
                                else none
                              else none
                            else bif (decide ((List.length p0c) = (p0n * 3))) then
                              bif (decide ((0 = 0) ∧ ((0 + p0n) ≤ big))) then
                                bif (decide ((0 + p0n) = (0 + p0n))) then
                                  bif (decide ((List.all ([] ++ p0c) Gv.plain) = true)) then
                                    bif (decide (p0n = 0)) then
                                      bindO (L0 (Tlaw5_0a p0n p0c p1n p1c p2_0 p2_1 y170.1 (0 + p0n) (0 + p0n) 0 y5.1 y5.2.1 y5.2.2.1 y5.2.2.2.1 (0 + p0n) ([] ++ p0c) (0 + p0n) ([] ++ p0c) 0 [])) fun z =>
                                      klaw5 F L2 L6 z
                                    else bif (decide ((List.length p0c) = (p0n * 3))) then
                                      bif (decide ((0 = 0) ∧ ((0 + p0n) ≤ big))) then
                                        bif (decide ((0 + p0n) = (0 + p0n))) then
                                          bif (decide ((List.all ([] ++ p0c) Gv.plain) = true)) then
                                            bindO (L0 (Tlaw5_0a p0n p0c p1n p1c p2_0 p2_1 y170.1 (0 + p0n) (0 + p0n) (0 + p0n) y5.1 y5.2.1 y5.2.2.1 y5.2.2.2.1 (0 + p0n) ([] ++ p0c) (0 + p0n) ([] ++ p0c) (0 + p0n) ([] ++ p0c))) fun z =>
                                            klaw5 F L2 L6 z
                                          else none
                                        else none
                                      else none
                                    else none
                                  else none
                                else none
                              else none
                            else none
                          else none
                        else none
                      else none
                    else none
                  else none
                else none
              else some false
            else none
          else none
        else none
      else bif (decide ((List.length p0c) = (p0n * 3))) then
        bif (decide ((0 = 0) ∧ ((0 + p0n) ≤ big))) then
          bif (decide ((0 + p0n) = (0 + p0n))) then
            bindO (F 24 (RSh.tup [(Prod.mk true [(CK.int .i64), (CK.int .i64), (CK.int .i64), (CK.int .i64)]), (Prod.mk false [(CK.int .i64)])]) [(PV.list (0 + p0n) ([] ++ p0c)), (PV.int .i64 p2_0)]) fun (y334 : ((Int) × ((Int) × ((Int) × ((Int) × (Int)))))) =>
            bif (decide (p0n = 0)) then
              bindO (F 26 (RSh.tup [(Prod.mk false [(CK.int .i64)]), (Prod.mk false [(CK.int .i64)])]) [(PV.list 0 []), (PV.int .i64 p2_0)]) fun (y335 : ((Int) × (Int))) =>
              bif (y334.2.2.2.2 != (0 : Int)) then
                bif (y334.2.2.2.2 == (12 : Int)) then
                  bif (y335.2 == (12 : Int)) then
                    some true
                  else some false
                else some false
              else bif (y335.2 != (0 : Int)) then
                some false
              else bindO (F 29 (RSh.one CK.bool) [(PV.int .i64 y334.1), (PV.int .i64 (0 : Int)), (PV.int .i64 (w64 (y334.2.1 - (1 : Int))))]) fun (y336 : (Bool)) =>
              bif y336 then
                bif (decide (y334.2.1 ≥ (p0n : Int))) then
                  some false
                else bif (decide (((0 : Int) ≤ y334.2.1) ∧ (y334.2.1 < (p0n : Int)))) then
                  bindO (intC .i64 (p0c[(((Int.toNat y334.2.1) * 3) + 0)]?)) fun x337 =>
                  bif (decide (((0 : Int) ≤ y334.1) ∧ (y334.1 < (p0n : Int)))) then
                    bindO (intC .i64 (p0c[(((Int.toNat y334.1) * 3) + 0)]?)) fun x338 =>
                    bif (decide ((w64 (x337 - x338)) > p2_0)) then
                      some false
                    else bif (decide (p0n = 0)) then
                      bif (decide (p0n = 0)) then
                        bif (decide (p0n = 0)) then
                          bindO (L0 (Tlaw5_0a p0n p0c p1n p1c p2_0 p2_1 y335.1 0 0 0 y334.1 y334.2.1 y334.2.2.1 y334.2.2.2.1 0 [] 0 [] 0 [])) fun z =>
                          klaw5 F L2 L6 z
                        else bif (decide ((List.length p0c) = (p0n * 3))) then
                          bif (decide ((0 = 0) ∧ ((0 + p0n) ≤ big))) then
                            bif (decide ((0 + p0n) = (0 + p0n))) then
                              bif (decide ((List.all ([] ++ p0c) Gv.plain) = true)) then
                                bindO (L0 (Tlaw5_0a p0n p0c p1n p1c p2_0 p2_1 y335.1 0 0 (0 + p0n) y334.1 y334.2.1 y334.2.2.1 y334.2.2.2.1 0 [] 0 [] (0 + p0n) ([] ++ p0c))) fun z =>
                                klaw5 F L2 L6 z
                              else none
                            else none
                          else none
                        else none
                      else bif (decide ((List.length p0c) = (p0n * 3))) then
                        bif (decide ((0 = 0) ∧ ((0 + p0n) ≤ big))) then
                          bif (decide ((0 + p0n) = (0 + p0n))) then
                            bif (decide ((List.all ([] ++ p0c) Gv.plain) = true)) then
                              bif (decide (p0n = 0)) then
                                bindO (L0 (Tlaw5_0a p0n p0c p1n p1c p2_0 p2_1 y335.1 0 (0 + p0n) 0 y334.1 y334.2.1 y334.2.2.1 y334.2.2.2.1 0 [] (0 + p0n) ([] ++ p0c) 0 [])) fun z =>
                                klaw5 F L2 L6 z
                              else bif (decide ((List.length p0c) = (p0n * 3))) then
                                bif (decide ((0 = 0) ∧ ((0 + p0n) ≤ big))) then
                                  bif (decide ((0 + p0n) = (0 + p0n))) then
                                    bif (decide ((List.all ([] ++ p0c) Gv.plain) = true)) then
                                      bindO (L0 (Tlaw5_0a p0n p0c p1n p1c p2_0 p2_1 y335.1 0 (0 + p0n) (0 + p0n) y334.1 y334.2.1 y334.2.2.1 y334.2.2.2.1 0 [] (0 + p0n) ([] ++ p0c) (0 + p0n) ([] ++ p0c))) fun z =>
                                      klaw5 F L2 L6 z
                                    else none
                                  else none
                                else none
                              else none
                            else none
                          else none
                        else none
                      else none
                    else bif (decide ((List.length p0c) = (p0n * 3))) then
                      bif (decide ((0 = 0) ∧ ((0 + p0n) ≤ big))) then
                        bif (decide ((0 + p0n) = (0 + p0n))) then
                          bif (decide ((List.all ([] ++ p0c) Gv.plain) = true)) then
                            bif (decide (p0n = 0)) then
                              bif (decide (p0n = 0)) then
                                bindO (L0 (Tlaw5_0a p0n p0c p1n p1c p2_0 p2_1 y335.1 (0 + p0n) 0 0 y334.1 y334.2.1 y334.2.2.1 y334.2.2.2.1 (0 + p0n) ([] ++ p0c) 0 [] 0 [])) fun z =>
                                klaw5 F L2 L6 z
                              else bif (decide ((List.length p0c) = (p0n * 3))) then
                                bif (decide ((0 = 0) ∧ ((0 + p0n) ≤ big))) then
                                  bif (decide ((0 + p0n) = (0 + p0n))) then
                                    bif (decide ((List.all ([] ++ p0c) Gv.plain) = true)) then
                                      bindO (L0 (Tlaw5_0a p0n p0c p1n p1c p2_0 p2_1 y335.1 (0 + p0n) 0 (0 + p0n) y334.1 y334.2.1 y334.2.2.1 y334.2.2.2.1 (0 + p0n) ([] ++ p0c) 0 [] (0 + p0n) ([] ++ p0c))) fun z =>
                                      klaw5 F L2 L6 z
                                    else none
                                  else none
                                else none
                              else none
                            else bif (decide ((List.length p0c) = (p0n * 3))) then
                              bif (decide ((0 = 0) ∧ ((0 + p0n) ≤ big))) then
                                bif (decide ((0 + p0n) = (0 + p0n))) then
                                  bif (decide ((List.all ([] ++ p0c) Gv.plain) = true)) then
                                    bif (decide (p0n = 0)) then
                                      bindO (L0 (Tlaw5_0a p0n p0c p1n p1c p2_0 p2_1 y335.1 (0 + p0n) (0 + p0n) 0 y334.1 y334.2.1 y334.2.2.1 y334.2.2.2.1 (0 + p0n) ([] ++ p0c) (0 + p0n) ([] ++ p0c) 0 [])) fun z =>
                                      klaw5 F L2 L6 z
                                    else bif (decide ((List.length p0c) = (p0n * 3))) then
                                      bif (decide ((0 = 0) ∧ ((0 + p0n) ≤ big))) then
                                        bif (decide ((0 + p0n) = (0 + p0n))) then
                                          bif (decide ((List.all ([] ++ p0c) Gv.plain) = true)) then
                                            bindO (L0 (Tlaw5_0a p0n p0c p1n p1c p2_0 p2_1 y335.1 (0 + p0n) (0 + p0n) (0 + p0n) y334.1 y334.2.1 y334.2.2.1 y334.2.2.2.1 (0 + p0n) ([] ++ p0c) (0 + p0n) ([] ++ p0c) (0 + p0n) ([] ++ p0c))) fun z =>
                                            klaw5 F L2 L6 z
                                          else none
                                        else none
                                      else none
                                    else none
                                  else none
                                else none
                              else none
                            else none
                          else none
                        else none
                      else none
                    else none
                  else none
                else none
              else some false
            else bif (decide ((List.length p0c) = (p0n * 3))) then
              bif (decide ((0 = 0) ∧ ((0 + p0n) ≤ big))) then
                bif (decide ((0 + p0n) = (0 + p0n))) then
                  bindO (F 26 (RSh.tup [(Prod.mk false [(CK.int .i64)]), (Prod.mk false [(CK.int .i64)])]) [(PV.list (0 + p0n) ([] ++ p0c)), (PV.int .i64 p2_0)]) fun (y499 : ((Int) × (Int))) =>
                  bif (y334.2.2.2.2 != (0 : Int)) then
                    bif (y334.2.2.2.2 == (12 : Int)) then
                      bif (y499.2 == (12 : Int)) then
                        some true
                      else some false
                    else some false
                  else bif (y499.2 != (0 : Int)) then
                    some false
                  else bindO (F 29 (RSh.one CK.bool) [(PV.int .i64 y334.1), (PV.int .i64 (0 : Int)), (PV.int .i64 (w64 (y334.2.1 - (1 : Int))))]) fun (y500 : (Bool)) =>
                  bif y500 then
                    bif (decide (y334.2.1 ≥ (p0n : Int))) then
                      some false
                    else bif (decide (((0 : Int) ≤ y334.2.1) ∧ (y334.2.1 < (p0n : Int)))) then
                      bindO (intC .i64 (p0c[(((Int.toNat y334.2.1) * 3) + 0)]?)) fun x501 =>
                      bif (decide (((0 : Int) ≤ y334.1) ∧ (y334.1 < (p0n : Int)))) then
                        bindO (intC .i64 (p0c[(((Int.toNat y334.1) * 3) + 0)]?)) fun x502 =>
                        bif (decide ((w64 (x501 - x502)) > p2_0)) then
                          some false
                        else bif (decide (p0n = 0)) then
                          bif (decide (p0n = 0)) then
                            bif (decide (p0n = 0)) then
                              bindO (L0 (Tlaw5_0a p0n p0c p1n p1c p2_0 p2_1 y499.1 0 0 0 y334.1 y334.2.1 y334.2.2.1 y334.2.2.2.1 0 [] 0 [] 0 [])) fun z =>
                              klaw5 F L2 L6 z
                            else bif (decide ((List.length p0c) = (p0n * 3))) then
                              bif (decide ((0 = 0) ∧ ((0 + p0n) ≤ big))) then
                                bif (decide ((0 + p0n) = (0 + p0n))) then
                                  bif (decide ((List.all ([] ++ p0c) Gv.plain) = true)) then
                                    bindO (L0 (Tlaw5_0a p0n p0c p1n p1c p2_0 p2_1 y499.1 0 0 (0 + p0n) y334.1 y334.2.1 y334.2.2.1 y334.2.2.2.1 0 [] 0 [] (0 + p0n) ([] ++ p0c))) fun z =>
                                    klaw5 F L2 L6 z
                                  else none
                                else none
                              else none
                            else none
                          else bif (decide ((List.length p0c) = (p0n * 3))) then
                            bif (decide ((0 = 0) ∧ ((0 + p0n) ≤ big))) then
                              bif (decide ((0 + p0n) = (0 + p0n))) then
                                bif (decide ((List.all ([] ++ p0c) Gv.plain) = true)) then
                                  bif (decide (p0n = 0)) then
                                    bindO (L0 (Tlaw5_0a p0n p0c p1n p1c p2_0 p2_1 y499.1 0 (0 + p0n) 0 y334.1 y334.2.1 y334.2.2.1 y334.2.2.2.1 0 [] (0 + p0n) ([] ++ p0c) 0 [])) fun z =>
                                    klaw5 F L2 L6 z
                                  else bif (decide ((List.length p0c) = (p0n * 3))) then
                                    bif (decide ((0 = 0) ∧ ((0 + p0n) ≤ big))) then
                                      bif (decide ((0 + p0n) = (0 + p0n))) then
                                        bif (decide ((List.all ([] ++ p0c) Gv.plain) = true)) then
                                          bindO (L0 (Tlaw5_0a p0n p0c p1n p1c p2_0 p2_1 y499.1 0 (0 + p0n) (0 + p0n) y334.1 y334.2.1 y334.2.2.1 y334.2.2.2.1 0 [] (0 + p0n) ([] ++ p0c) (0 + p0n) ([] ++ p0c))) fun z =>
                                          klaw5 F L2 L6 z
                                        else none
                                      else none
                                    else none
                                  else none
                                else none
                              else none
                            else none
                          else none
                        else bif (decide ((List.length p0c) = (p0n * 3))) then
                          bif (decide ((0 = 0) ∧ ((0 + p0n) ≤ big))) then
                            bif (decide ((0 + p0n) = (0 + p0n))) then
                              bif (decide ((List.all ([] ++ p0c) Gv.plain) = true)) then
                                bif (decide (p0n = 0)) then
                                  bif (decide (p0n = 0)) then
                                    bindO (L0 (Tlaw5_0a p0n p0c p1n p1c p2_0 p2_1 y499.1 (0 + p0n) 0 0 y334.1 y334.2.1 y334.2.2.1 y334.2.2.2.1 (0 + p0n) ([] ++ p0c) 0 [] 0 [])) fun z =>
                                    klaw5 F L2 L6 z
                                  else bif (decide ((List.length p0c) = (p0n * 3))) then
                                    bif (decide ((0 = 0) ∧ ((0 + p0n) ≤ big))) then
                                      bif (decide ((0 + p0n) = (0 + p0n))) then
                                        bif (decide ((List.all ([] ++ p0c) Gv.plain) = true)) then
                                          bindO (L0 (Tlaw5_0a p0n p0c p1n p1c p2_0 p2_1 y499.1 (0 + p0n) 0 (0 + p0n) y334.1 y334.2.1 y334.2.2.1 y334.2.2.2.1 (0 + p0n) ([] ++ p0c) 0 [] (0 + p0n) ([] ++ p0c))) fun z =>
                                          klaw5 F L2 L6 z
                                        else none
                                      else none
                                    else none
                                  else none
                                else bif (decide ((List.length p0c) = (p0n * 3))) then
                                  bif (decide ((0 = 0) ∧ ((0 + p0n) ≤ big))) then
                                    bif (decide ((0 + p0n) = (0 + p0n))) then
                                      bif (decide ((List.all ([] ++ p0c) Gv.plain) = true)) then
                                        bif (decide (p0n = 0)) then
                                          bindO (L0 (Tlaw5_0a p0n p0c p1n p1c p2_0 p2_1 y499.1 (0 + p0n) (0 + p0n) 0 y334.1 y334.2.1 y334.2.2.1 y334.2.2.2.1 (0 + p0n) ([] ++ p0c) (0 + p0n) ([] ++ p0c) 0 [])) fun z =>
                                          klaw5 F L2 L6 z
                                        else bif (decide ((List.length p0c) = (p0n * 3))) then
                                          bif (decide ((0 = 0) ∧ ((0 + p0n) ≤ big))) then
                                            bif (decide ((0 + p0n) = (0 + p0n))) then
                                              bif (decide ((List.all ([] ++ p0c) Gv.plain) = true)) then
                                                bindO (L0 (Tlaw5_0a p0n p0c p1n p1c p2_0 p2_1 y499.1 (0 + p0n) (0 + p0n) (0 + p0n) y334.1 y334.2.1 y334.2.2.1 y334.2.2.2.1 (0 + p0n) ([] ++ p0c) (0 + p0n) ([] ++ p0c) (0 + p0n) ([] ++ p0c))) fun z =>
                                                klaw5 F L2 L6 z
                                              else none
                                            else none
                                          else none
                                        else none
                                      else none
                                    else none
                                  else none
                                else none
                              else none
                            else none
                          else none
                        else none
                      else none
                    else none
                  else some false
                else none
              else none
            else none
          else none
        else none
      else none
    else some true
  else some false
theorem tlaw5_eq (F : FnT) (L0 : Q → Option Ylaw5_0) (L2 : Q → Option Ylaw5_2) (L4 : Q → Option Ylaw5_4) (L6 : Q → Option Ylaw5_6) (p0n : Nat) (p0c : List PV) (p1n : Nat) (p1c : List PV) (p2_0 p2_1 : Int) : semF (callP F Elaw5 20) s5 (loopT [⟨0, Ylaw5_0, L0, XLlaw5_0⟩, ⟨2, Ylaw5_2, L2, XLlaw5_2⟩, ⟨4, Ylaw5_4, L4, XLlaw5_4⟩, ⟨6, Ylaw5_6, L6, XLlaw5_6⟩]) 400 a5 [PV.list p0n p0c, PV.list p1n p1c, PV.agg [PV.int .i64 p2_0, PV.int .i64 p2_1]] (fun rv => decR (RSh.one CK.bool) rv.pv) = tlaw5 F L0 L2 L4 L6 p0n p0c p1n p1c p2_0 p2_1 := by kernel_rfl
noncomputable abbrev Flaw5 (args : List PV) := Fn env 5 (RSh.one CK.bool) args
theorem Flaw5_of  (p0n : Nat) (p0c : List PV) (p1n : Nat) (p1c : List PV) (p2_0 p2_1 : Int) {res : (Bool)} (h : tlaw5 (Fn env) Llaw5_0 Llaw5_2 Llaw5_4 Llaw5_6 p0n p0c p1n p1c p2_0 p2_1 = some res) : Flaw5 [PV.list p0n p0c, PV.list p1n p1c, PV.agg [PV.int .i64 p2_0, PV.int .i64 p2_1]] = some res :=
  fn_of Elaw5_ok rfl rfl (lo_cons (lpO_ok Ulaw5) (lo_cons (lpO_ok Ulaw5) (lo_cons (lpO_ok Ulaw5) (lo_cons (lpO_ok Ulaw5) lo_nil)))) ((tlaw5_eq _ _ _ _ _ _ _ _ _ _ _).trans h)
end Gv
