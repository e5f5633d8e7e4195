/- What the functions do, round by round: P12. -/
import Derived.Test.YtggnifebabjoiaaGvEnv
namespace Gv
open Go
set_option maxRecDepth 100000
def Elaw12 : List Entry := [.out 13 (RSh.one CK.bool), .out 67 (RSh.one (CK.int .i64)), .out 65 (RSh.tup [(Prod.mk true [(CK.int .i64), (CK.int .i64), (CK.int .i64), (CK.int .i64), (CK.int .i64), (CK.int .i64), (CK.int .i64)]), (Prod.mk false [(CK.int .i64)])]), .out 66 (RSh.tup [(Prod.mk true [(CK.int .i64), (CK.int .i64), (CK.int .i64), (CK.int .i64)]), (Prod.mk false [(CK.int .i64)])]), .out 18 (RSh.one (CK.int .i64))]
theorem Elaw12_ok : ∀ e ∈ Elaw12, EntOK env e := (ent_out (ent_out (ent_out (ent_out (ent_out ent_nil)))))
def tlaw12 (F : FnT) (p0_0 : Int) (p0_1 : Int) (p0_2 : Int) (p0_3 : Int) (p1_0 : Int) (p1_1 : Int) (p1_2 : Int) : Option (Bool) :=
  bindO (F 13 (RSh.one CK.bool) []) fun (y0 : (Bool)) =>
  bif y0 then
    bindO (F 67 (RSh.one (CK.int .i64)) [(PV.agg [(PV.int .i64 p0_0), (PV.int .i64 p0_1), (PV.int .i64 p0_2), (PV.int .i64 p0_3)])]) fun (y1 : (Int)) =>
    bif (y1 != (0 : Int)) then
      some true
    else bindO (F 65 (RSh.tup [(Prod.mk true [(CK.int .i64), (CK.int .i64), (CK.int .i64), (CK.int .i64), (CK.int .i64), (CK.int .i64), (CK.int .i64)]), (Prod.mk false [(CK.int .i64)])]) [(PV.agg [(PV.int .i64 p0_0), (PV.int .i64 p0_1), (PV.int .i64 p0_2), (PV.int .i64 p0_3)])]) fun (y2 : ((Int) × ((Int) × ((Int) × ((Int) × ((Int) × ((Int) × ((Int) × (Int))))))))) =>
    bindO (F 66 (RSh.tup [(Prod.mk true [(CK.int .i64), (CK.int .i64), (CK.int .i64), (CK.int .i64)]), (Prod.mk false [(CK.int .i64)])]) [(PV.agg [(PV.int .i64 y2.1), (PV.int .i64 y2.2.1), (PV.int .i64 y2.2.2.1), (PV.int .i64 y2.2.2.2.1), (PV.int .i64 y2.2.2.2.2.1), (PV.int .i64 y2.2.2.2.2.2.1), (PV.int .i64 y2.2.2.2.2.2.2.1)])]) fun (y3 : ((Int) × ((Int) × ((Int) × ((Int) × (Int)))))) =>
    bif (y2.2.2.2.2.2.2.2 != (0 : Int)) then
      some false
    else bif (y3.2.2.2.2 != (0 : Int)) then
      some false
    else bif (!((y3.1 == p0_0) && ((y3.2.1 == p0_1) && ((y3.2.2.1 == p0_2) && ((y3.2.2.2.1 == p0_3) && true))))) then
      some false
    else bindO (F 18 (RSh.one (CK.int .i64)) [(PV.int .i64 p1_0), (PV.int .i64 (7 : Int))]) fun (y4 : (Int)) =>
    bindO (F 18 (RSh.one (CK.int .i64)) [(PV.int .i64 p1_1), (PV.int .i64 (7 : Int))]) fun (y5 : (Int)) =>
    bif (decide (((0 : Int) ≤ y4) ∧ (y4 < (7 : Int)))) then
      bindO (intC .i64 ([(PV.int .i64 y2.1), (PV.int .i64 y2.2.1), (PV.int .i64 y2.2.2.1), (PV.int .i64 y2.2.2.2.1), (PV.int .i64 y2.2.2.2.2.1), (PV.int .i64 y2.2.2.2.2.2.1), (PV.int .i64 y2.2.2.2.2.2.2.1)][(0 + ((Int.toNat y4) * 1))]?)) fun x6 =>
      bindO (F 18 (RSh.one (CK.int .i64)) [(PV.int .i64 p1_2), (PV.int .i64 (250 : Int))]) fun (y7 : (Int)) =>
      bindO (F 18 (RSh.one (CK.int .i64)) [(PV.int .i64 (w64 ((w64 (x6 + (1 : Int))) + y7))), (PV.int .i64 (251 : Int))]) fun (y8 : (Int)) =>
      bif (decide (((0 : Int) ≤ y4) ∧ (y4 < (7 : Int)))) then
        bindO (Gv.overO [(PV.int .i64 y2.1), (PV.int .i64 y2.2.1), (PV.int .i64 y2.2.2.1), (PV.int .i64 y2.2.2.2.1), (PV.int .i64 y2.2.2.2.2.1), (PV.int .i64 y2.2.2.2.2.2.1), (PV.int .i64 y2.2.2.2.2.2.2.1)] (0 + ((Int.toNat y4) * 1)) [(PV.int .i64 y8)]) fun x9 =>
        bif (decide (((0 : Int) ≤ y5) ∧ (y5 < (7 : Int)))) then
          bindO (intC .i64 ([(PV.int .i64 y2.1), (PV.int .i64 y2.2.1), (PV.int .i64 y2.2.2.1), (PV.int .i64 y2.2.2.2.1), (PV.int .i64 y2.2.2.2.2.1), (PV.int .i64 y2.2.2.2.2.2.1), (PV.int .i64 y2.2.2.2.2.2.2.1)][(0 + ((Int.toNat y5) * 1))]?)) fun x10 =>
          bif (decide (((0 : Int) ≤ y4) ∧ (y4 < (7 : Int)))) then
            bindO (intC .i64 ([(PV.int .i64 y2.1), (PV.int .i64 y2.2.1), (PV.int .i64 y2.2.2.1), (PV.int .i64 y2.2.2.2.1), (PV.int .i64 y2.2.2.2.2.1), (PV.int .i64 y2.2.2.2.2.2.1), (PV.int .i64 y2.2.2.2.2.2.2.1)][(0 + ((Int.toNat y4) * 1))]?)) fun x11 =>
            bif (decide (((0 : Int) ≤ y4) ∧ (y4 < (7 : Int)))) then
              bindO (Gv.overO [(PV.int .i64 y2.1), (PV.int .i64 y2.2.1), (PV.int .i64 y2.2.2.1), (PV.int .i64 y2.2.2.2.1), (PV.int .i64 y2.2.2.2.2.1), (PV.int .i64 y2.2.2.2.2.2.1), (PV.int .i64 y2.2.2.2.2.2.2.1)] (0 + ((Int.toNat y4) * 1)) [(PV.int .i64 x10)]) fun x12 =>
              bif (decide (((0 : Int) ≤ y5) ∧ (y5 < (7 : Int)))) then
                bindO (Gv.overO x12 (0 + ((Int.toNat y5) * 1)) [(PV.int .i64 x11)]) fun x13 =>
                bindO (intC .i64 (x9[0]?)) fun x14 =>
                bindO (intC .i64 (x9[1]?)) fun x15 =>
                bindO (intC .i64 (x9[2]?)) fun x16 =>
                bindO (intC .i64 (x9[3]?)) fun x17 =>
                bindO (intC .i64 (x9[4]?)) fun x18 =>
                bindO (intC .i64 (x9[5]?)) fun x19 =>
                bindO (intC .i64 (x9[6]?)) fun x20 =>
                bindO (F 66 (RSh.tup [(Prod.mk true [(CK.int .i64), (CK.int .i64), (CK.int .i64), (CK.int .i64)]), (Prod.mk false [(CK.int .i64)])]) [(PV.agg [(PV.int .i64 x14), (PV.int .i64 x15), (PV.int .i64 x16), (PV.int .i64 x17), (PV.int .i64 x18), (PV.int .i64 x19), (PV.int .i64 x20)])]) fun (y21 : ((Int) × ((Int) × ((Int) × ((Int) × (Int)))))) =>
                bindO (intC .i64 (x13[0]?)) fun x22 =>
                bindO (intC .i64 (x13[1]?)) fun x23 =>
                bindO (intC .i64 (x13[2]?)) fun x24 =>
                bindO (intC .i64 (x13[3]?)) fun x25 =>
                bindO (intC .i64 (x13[4]?)) fun x26 =>
                bindO (intC .i64 (x13[5]?)) fun x27 =>
                bindO (intC .i64 (x13[6]?)) fun x28 =>
                bindO (F 66 (RSh.tup [(Prod.mk true [(CK.int .i64), (CK.int .i64), (CK.int .i64), (CK.int .i64)]), (Prod.mk false [(CK.int .i64)])]) [(PV.agg [(PV.int .i64 x22), (PV.int .i64 x23), (PV.int .i64 x24), (PV.int .i64 x25), (PV.int .i64 x26), (PV.int .i64 x27), (PV.int .i64 x28)])]) fun (y29 : ((Int) × ((Int) × ((Int) × ((Int) × (Int)))))) =>
                bif (y21.2.2.2.2 == (17 : Int)) then
                  bif (decide (((0 : Int) ≤ y4) ∧ (y4 < (7 : Int)))) then
                    bindO (intC .i64 ([(PV.int .i64 y2.1), (PV.int .i64 y2.2.1), (PV.int .i64 y2.2.2.1), (PV.int .i64 y2.2.2.2.1), (PV.int .i64 y2.2.2.2.2.1), (PV.int .i64 y2.2.2.2.2.2.1), (PV.int .i64 y2.2.2.2.2.2.2.1)][(0 + ((Int.toNat y4) * 1))]?)) fun x30 =>
                    bif (decide (((0 : Int) ≤ y5) ∧ (y5 < (7 : Int)))) then
                      bindO (intC .i64 ([(PV.int .i64 y2.1), (PV.int .i64 y2.2.1), (PV.int .i64 y2.2.2.1), (PV.int .i64 y2.2.2.2.1), (PV.int .i64 y2.2.2.2.2.1), (PV.int .i64 y2.2.2.2.2.2.1), (PV.int .i64 y2.2.2.2.2.2.2.1)][(0 + ((Int.toNat y5) * 1))]?)) fun x31 =>
                      bif (x30 == x31) then
                        bif (y29.2.2.2.2 == (0 : Int)) then
                          bif ((y29.1 == p0_0) && ((y29.2.1 == p0_1) && ((y29.2.2.1 == p0_2) && ((y29.2.2.2.1 == p0_3) && true)))) then
                            some true
                          else bif (decide (((0 : Int) ≤ y4) ∧ (y4 < (7 : Int)))) then
                            bindO (intC .i64 ([(PV.int .i64 y2.1), (PV.int .i64 y2.2.1), (PV.int .i64 y2.2.2.1), (PV.int .i64 y2.2.2.2.1), (PV.int .i64 y2.2.2.2.2.1), (PV.int .i64 y2.2.2.2.2.2.1), (PV.int .i64 y2.2.2.2.2.2.2.1)][(0 + ((Int.toNat y4) * 1))]?)) fun x32 =>
                            bif (decide (((0 : Int) ≤ y5) ∧ (y5 < (7 : Int)))) then
                              bindO (intC .i64 ([(PV.int .i64 y2.1), (PV.int .i64 y2.2.1), (PV.int .i64 y2.2.2.1), (PV.int .i64 y2.2.2.2.1), (PV.int .i64 y2.2.2.2.2.1), (PV.int .i64 y2.2.2.2.2.2.1), (PV.int .i64 y2.2.2.2.2.2.2.1)][(0 + ((Int.toNat y5) * 1))]?)) fun x33 =>
                              bif (x32 != x33) then
                                bif (y29.2.2.2.2 == (17 : Int)) then
                                  some true
                                else some false
                              else some false
                            else none
                          else none
                        else bif (decide (((0 : Int) ≤ y4) ∧ (y4 < (7 : Int)))) then
                          bindO (intC .i64 ([(PV.int .i64 y2.1), (PV.int .i64 y2.2.1), (PV.int .i64 y2.2.2.1), (PV.int .i64 y2.2.2.2.1), (PV.int .i64 y2.2.2.2.2.1), (PV.int .i64 y2.2.2.2.2.2.1), (PV.int .i64 y2.2.2.2.2.2.2.1)][(0 + ((Int.toNat y4) * 1))]?)) fun x34 =>
                          bif (decide (((0 : Int) ≤ y5) ∧ (y5 < (7 : Int)))) then
                            bindO (intC .i64 ([(PV.int .i64 y2.1), (PV.int .i64 y2.2.1), (PV.int .i64 y2.2.2.1), (PV.int .i64 y2.2.2.2.1), (PV.int .i64 y2.2.2.2.2.1), (PV.int .i64 y2.2.2.2.2.2.1), (PV.int .i64 y2.2.2.2.2.2.2.1)][(0 + ((Int.toNat y5) * 1))]?)) fun x35 =>
                            bif (x34 != x35) then
                              bif (y29.2.2.2.2 == (17 : Int)) then
                                some true
                              else some false
                            else some false
                          else none
                        else none
                      else bif (decide (((0 : Int) ≤ y4) ∧ (y4 < (7 : Int)))) then
                        bindO (intC .i64 ([(PV.int .i64 y2.1), (PV.int .i64 y2.2.1), (PV.int .i64 y2.2.2.1), (PV.int .i64 y2.2.2.2.1), (PV.int .i64 y2.2.2.2.2.1), (PV.int .i64 y2.2.2.2.2.2.1), (PV.int .i64 y2.2.2.2.2.2.2.1)][(0 + ((Int.toNat y4) * 1))]?)) fun x36 =>
                        bif (decide (((0 : Int) ≤ y5) ∧ (y5 < (7 : Int)))) then
                          bindO (intC .i64 ([(PV.int .i64 y2.1), (PV.int .i64 y2.2.1), (PV.int .i64 y2.2.2.1), (PV.int .i64 y2.2.2.2.1), (PV.int .i64 y2.2.2.2.2.1), (PV.int .i64 y2.2.2.2.2.2.1), (PV.int .i64 y2.2.2.2.2.2.2.1)][(0 + ((Int.toNat y5) * 1))]?)) fun x37 =>
                          bif (x36 != x37) then
                            bif (y29.2.2.2.2 == (17 : Int)) then
                              some true
                            else some false
                          else some false
                        else none
                      else none
                    else none
                  else none
                else some false
              else none
            else none
          else none
        else none
      else none
    else none
  else some false
theorem tlaw12_eq (F : FnT) (p0_0 : Int) (p0_1 : Int) (p0_2 : Int) (p0_3 : Int) (p1_0 : Int) (p1_1 : Int) (p1_2 : Int) : semF (callP F Elaw12 20) s12 (loopT []) 400 a12 [PV.agg [PV.int .i64 p0_0, PV.int .i64 p0_1, PV.int .i64 p0_2, PV.int .i64 p0_3], PV.agg [PV.int .i64 p1_0, PV.int .i64 p1_1, PV.int .i64 p1_2]] (fun rv => decR (RSh.one CK.bool) rv.pv) = tlaw12 F p0_0 p0_1 p0_2 p0_3 p1_0 p1_1 p1_2 := by kernel_rfl
noncomputable abbrev Flaw12 (args : List PV) := Fn env 12 (RSh.one CK.bool) args
theorem Flaw12_of  (p0_0 : Int) (p0_1 : Int) (p0_2 : Int) (p0_3 : Int) (p1_0 : Int) (p1_1 : Int) (p1_2 : Int) {res : (Bool)} (h : tlaw12 (Fn env) p0_0 p0_1 p0_2 p0_3 p1_0 p1_1 p1_2 = some res) : Flaw12 [PV.agg [PV.int .i64 p0_0, PV.int .i64 p0_1, PV.int .i64 p0_2, PV.int .i64 p0_3], PV.agg [PV.int .i64 p1_0, PV.int .i64 p1_1, PV.int .i64 p1_2]] = some res :=
  fn_of Elaw12_ok rfl rfl lo_nil ((tlaw12_eq _ _ _ _ _ _ _ _).trans h)
end Gv
