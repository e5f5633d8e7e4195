/- What the functions do, round by round: P8. -/
import Derived.Test.YtggnifebabjoiaaGvEnv
namespace Gv
open Go
set_option maxRecDepth 100000
def Elaw3 : List Entry := [.out 13 (RSh.one CK.bool), .out 14 (RSh.tup [(Prod.mk true [(CK.int .i64), (CK.int .i64)]), (Prod.mk false [(CK.int .i64)])]), .out 15 (RSh.one (CK.int .i64)), .out 16 (RSh.one (CK.int .i64)), .out 17 (RSh.one (CK.int .i64)), .out 18 (RSh.one (CK.int .i64)), .out 19 (RSh.agg [(CK.int .i64), (CK.int .i64)])]
theorem Elaw3_ok : ∀ e ∈ Elaw3, EntOK env e := (ent_out (ent_out (ent_out (ent_out (ent_out (ent_out (ent_out ent_nil)))))))
def tlaw3 (F : FnT) (p0_0 : Int) (p0_1 : Int) (p0_2 : Int) (p1_0 : Int) (p1_1 : Int) (p1_2 : Int) (p1_3 : Int) (p2_0 : Int) (p2_1 : Int) : Option (Bool) :=
  bindO (F 13 (RSh.one CK.bool) []) fun (y0 : (Bool)) =>
  bif y0 then
    bindO (F 14 (RSh.tup [(Prod.mk true [(CK.int .i64), (CK.int .i64)]), (Prod.mk false [(CK.int .i64)])]) [(PV.agg [(PV.int .i64 p0_0), (PV.int .i64 p0_1), (PV.int .i64 p0_2)]), (PV.agg [(PV.int .i64 p1_0), (PV.int .i64 p1_1), (PV.int .i64 p1_2), (PV.int .i64 p1_3)])]) fun (y1 : ((Int) × ((Int) × (Int)))) =>
    bindO (F 15 (RSh.one (CK.int .i64)) [(PV.agg [(PV.int .i64 p0_0), (PV.int .i64 p0_1), (PV.int .i64 p0_2)])]) fun (y2 : (Int)) =>
    bindO (F 16 (RSh.one (CK.int .i64)) [(PV.agg [(PV.int .i64 p0_0), (PV.int .i64 p0_1), (PV.int .i64 p0_2)])]) fun (y3 : (Int)) =>
    bif (y3 != y2) then
      some false
    else bif (y2 == (0 : Int)) then
      bindO (F 17 (RSh.one (CK.int .i64)) [(PV.agg [(PV.int .i64 p1_0), (PV.int .i64 p1_1), (PV.int .i64 p1_2), (PV.int .i64 p1_3)])]) fun (y4 : (Int)) =>
      bif (y4 != (0 : Int)) then
        bif (y1.2.2 == y4) then
          bif ((y1.1 == (0 : Int)) && ((y1.2.1 == (0 : Int)) && true)) then
            some true
          else some false
        else some false
      else bindO (F 18 (RSh.one (CK.int .i64)) [(PV.int .i64 p2_0), (PV.int .i64 (w64 ((w64 (p1_1 - p1_0)) + (1 : Int))))]) fun (y5 : (Int)) =>
      bindO (F 18 (RSh.one (CK.int .i64)) [(PV.int .i64 p2_1), (PV.int .i64 (w64 ((w64 (p1_3 - p1_2)) + (1 : Int))))]) fun (y6 : (Int)) =>
      bif (y1.2.2 == (0 : Int)) then
        bindO (F 19 (RSh.agg [(CK.int .i64), (CK.int .i64)]) [(PV.agg [(PV.int .i64 p0_0), (PV.int .i64 p0_1), (PV.int .i64 p0_2)]), (PV.agg [(PV.int .i64 p1_0), (PV.int .i64 p1_1), (PV.int .i64 p1_2), (PV.int .i64 p1_3)])]) fun (y7 : ((Int) × (Int))) =>
        bif ((y1.1 == y7.1) && ((y1.2.1 == y7.2) && true)) then
          bif (decide ((w64 (y1.1 * p0_2)) ≤ (w64 ((0 : Int) - (w64 ((w64 (p0_0 * (w64 (p1_0 + y5)))) + (w64 (p0_1 * (w64 (p1_2 + y6)))))))))) then
            bif (decide ((w64 ((0 : Int) - (w64 ((w64 (p0_0 * (w64 (p1_0 + y5)))) + (w64 (p0_1 * (w64 (p1_2 + y6)))))))) ≤ (w64 (y1.2.1 * p0_2)))) then
              some true
            else some false
          else some false
        else some false
      else some false
    else bif (y2 != (0 : Int)) then
      bif (y1.2.2 == y2) then
        bif ((y1.1 == (0 : Int)) && ((y1.2.1 == (0 : Int)) && true)) then
          some true
        else some false
      else some false
    else bindO (F 18 (RSh.one (CK.int .i64)) [(PV.int .i64 p2_0), (PV.int .i64 (w64 ((w64 (p1_1 - p1_0)) + (1 : Int))))]) fun (y8 : (Int)) =>
    bindO (F 18 (RSh.one (CK.int .i64)) [(PV.int .i64 p2_1), (PV.int .i64 (w64 ((w64 (p1_3 - p1_2)) + (1 : Int))))]) fun (y9 : (Int)) =>
    bif (y1.2.2 == (0 : Int)) then
      bindO (F 19 (RSh.agg [(CK.int .i64), (CK.int .i64)]) [(PV.agg [(PV.int .i64 p0_0), (PV.int .i64 p0_1), (PV.int .i64 p0_2)]), (PV.agg [(PV.int .i64 p1_0), (PV.int .i64 p1_1), (PV.int .i64 p1_2), (PV.int .i64 p1_3)])]) fun (y10 : ((Int) × (Int))) =>
      bif ((y1.1 == y10.1) && ((y1.2.1 == y10.2) && true)) then
        bif (decide ((w64 (y1.1 * p0_2)) ≤ (w64 ((0 : Int) - (w64 ((w64 (p0_0 * (w64 (p1_0 + y8)))) + (w64 (p0_1 * (w64 (p1_2 + y9)))))))))) then
          bif (decide ((w64 ((0 : Int) - (w64 ((w64 (p0_0 * (w64 (p1_0 + y8)))) + (w64 (p0_1 * (w64 (p1_2 + y9)))))))) ≤ (w64 (y1.2.1 * p0_2)))) then
            some true
          else some false
        else some false
      else some false
    else some false
  else some false
theorem tlaw3_eq (F : FnT) (p0_0 : Int) (p0_1 : Int) (p0_2 : Int) (p1_0 : Int) (p1_1 : Int) (p1_2 : Int) (p1_3 : Int) (p2_0 : Int) (p2_1 : Int) : semF (callP F Elaw3 20) s3 (loopT []) 400 a3 [PV.agg [PV.int .i64 p0_0, PV.int .i64 p0_1, PV.int .i64 p0_2], PV.agg [PV.int .i64 p1_0, PV.int .i64 p1_1, PV.int .i64 p1_2, PV.int .i64 p1_3], PV.agg [PV.int .i64 p2_0, PV.int .i64 p2_1]] (fun rv => decR (RSh.one CK.bool) rv.pv) = tlaw3 F p0_0 p0_1 p0_2 p1_0 p1_1 p1_2 p1_3 p2_0 p2_1 := by kernel_rfl
noncomputable abbrev Flaw3 (args : List PV) := Fn env 3 (RSh.one CK.bool) args
theorem Flaw3_of  (p0_0 : Int) (p0_1 : Int) (p0_2 : Int) (p1_0 : Int) (p1_1 : Int) (p1_2 : Int) (p1_3 : Int) (p2_0 : Int) (p2_1 : Int) {res : (Bool)} (h : tlaw3 (Fn env) p0_0 p0_1 p0_2 p1_0 p1_1 p1_2 p1_3 p2_0 p2_1 = some res) : Flaw3 [PV.agg [PV.int .i64 p0_0, PV.int .i64 p0_1, PV.int .i64 p0_2], PV.agg [PV.int .i64 p1_0, PV.int .i64 p1_1, PV.int .i64 p1_2, PV.int .i64 p1_3], PV.agg [PV.int .i64 p2_0, PV.int .i64 p2_1]] = some res :=
  fn_of Elaw3_ok rfl rfl lo_nil ((tlaw3_eq _ _ _ _ _ _ _ _ _ _).trans h)
end Gv
