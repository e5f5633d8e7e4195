/- What the functions do, round by round: BL10. -/
import Derived.Test.YtpbpkbckgifhdaaGvEnv
namespace Gv
open Go
set_option maxRecDepth 100000
def Elaw10 : List Entry := [.out 12 (RSh.one CK.bool), .out 23 (RSh.one CK.bool), .out 57 (RSh.tup [(Prod.mk false [(CK.int .i64)]), (Prod.mk false [(CK.int .i64)])]), .out 58 (RSh.tup [(Prod.mk false [(CK.int .i64)]), (Prod.mk false [(CK.int .i64)])]), .out 59 (RSh.one (CK.int .i64)), .out 60 (RSh.tup [(Prod.mk false [(CK.int .i64)]), (Prod.mk false [CK.bool])]), .out 61 (RSh.one (CK.int .i64))]
theorem Elaw10_ok : ∀ e ∈ Elaw10, EntOK env e := (ent_out (ent_out (ent_out (ent_out (ent_out (ent_out (ent_out ent_nil)))))))
def tlaw10 (F : FnT) (p0_0 p0_1 p0_2 p0_3 p0_4 p0_5 p1_0 p1_1 p1_2 p1_3 p1_4 p1_5 p2_0 p2_1 p2_2 p2_3 p2_4 p2_5 p2_6 : Int) : Option (Bool) :=
  bindO (F 12 (RSh.one CK.bool) []) fun (y0 : (Bool)) =>
  bif y0 then
    bindO (F 23 (RSh.one CK.bool) [(PV.int .i64 p2_6), (PV.int .i64 (61 : Int)), (PV.int .i64 (1000 : Int))]) fun (y1 : (Bool)) =>
    bif y1 then
      some true
    else bindO (F 57 (RSh.tup [(Prod.mk false [(CK.int .i64)]), (Prod.mk false [(CK.int .i64)])]) [(PV.agg [(PV.int .i64 p0_0), (PV.int .i64 p0_1), (PV.int .i64 p0_2), (PV.int .i64 p0_3), (PV.int .i64 p0_4), (PV.int .i64 p0_5)]), (PV.agg [(PV.int .i64 p1_0), (PV.int .i64 p1_1), (PV.int .i64 p1_2), (PV.int .i64 p1_3), (PV.int .i64 p1_4), (PV.int .i64 p1_5)]), (PV.agg [(PV.int .i64 p2_0), (PV.int .i64 p2_1), (PV.int .i64 p2_2), (PV.int .i64 p2_3), (PV.int .i64 p2_4), (PV.int .i64 p2_5), (PV.int .i64 p2_6)])]) fun (y2 : ((Int) × (Int))) =>
    bindO (F 58 (RSh.tup [(Prod.mk false [(CK.int .i64)]), (Prod.mk false [(CK.int .i64)])]) [(PV.agg [(PV.int .i64 p0_0), (PV.int .i64 p0_1), (PV.int .i64 p0_2), (PV.int .i64 p0_3), (PV.int .i64 p0_4), (PV.int .i64 p0_5)]), (PV.agg [(PV.int .i64 p1_0), (PV.int .i64 p1_1), (PV.int .i64 p1_2), (PV.int .i64 p1_3), (PV.int .i64 p1_4), (PV.int .i64 p1_5)]), (PV.agg [(PV.int .i64 p2_0), (PV.int .i64 p2_1), (PV.int .i64 p2_2), (PV.int .i64 p2_3), (PV.int .i64 p2_4), (PV.int .i64 p2_5), (PV.int .i64 p2_6)])]) fun (y3 : ((Int) × (Int))) =>
    bindO (F 59 (RSh.one (CK.int .i64)) [(PV.agg [(PV.int .i64 p0_0), (PV.int .i64 p0_1), (PV.int .i64 p0_2), (PV.int .i64 p0_3), (PV.int .i64 p0_4), (PV.int .i64 p0_5)]), (PV.agg [(PV.int .i64 p1_0), (PV.int .i64 p1_1), (PV.int .i64 p1_2), (PV.int .i64 p1_3), (PV.int .i64 p1_4), (PV.int .i64 p1_5)]), (PV.agg [(PV.int .i64 p2_0), (PV.int .i64 p2_1), (PV.int .i64 p2_2), (PV.int .i64 p2_3), (PV.int .i64 p2_4), (PV.int .i64 p2_5), (PV.int .i64 p2_6)])]) fun (y4 : (Int)) =>
    bif (y4 != (0 : Int)) then
      bif (y2.2 == y4) then
        bif (y3.2 == y4) then
          bif (y2.1 == (0 : Int)) then
            bif (y3.1 == (0 : Int)) then
              some true
            else some false
          else some false
        else some false
      else some false
    else bindO (F 60 (RSh.tup [(Prod.mk false [(CK.int .i64)]), (Prod.mk false [CK.bool])]) [(PV.agg [(PV.int .i64 p0_0), (PV.int .i64 p0_1), (PV.int .i64 p0_2), (PV.int .i64 p0_3), (PV.int .i64 p0_4), (PV.int .i64 p0_5)]), (PV.agg [(PV.int .i64 p1_0), (PV.int .i64 p1_1), (PV.int .i64 p1_2), (PV.int .i64 p1_3), (PV.int .i64 p1_4), (PV.int .i64 p1_5)]), (PV.agg [(PV.int .i64 p2_0), (PV.int .i64 p2_1), (PV.int .i64 p2_2), (PV.int .i64 p2_3), (PV.int .i64 p2_4), (PV.int .i64 p2_5), (PV.int .i64 p2_6)])]) fun (y5 : ((Int) × (Bool))) =>
    bif y5.2 then
      bif (y2.2 == (0 : Int)) then
        bindO (F 61 (RSh.one (CK.int .i64)) [(PV.agg [(PV.int .i64 p0_0), (PV.int .i64 p0_1), (PV.int .i64 p0_2), (PV.int .i64 p0_3), (PV.int .i64 p0_4), (PV.int .i64 p0_5)]), (PV.agg [(PV.int .i64 p1_0), (PV.int .i64 p1_1), (PV.int .i64 p1_2), (PV.int .i64 p1_3), (PV.int .i64 p1_4), (PV.int .i64 p1_5)]), (PV.agg [(PV.int .i64 p2_0), (PV.int .i64 p2_1), (PV.int .i64 p2_2), (PV.int .i64 p2_3), (PV.int .i64 p2_4), (PV.int .i64 p2_5), (PV.int .i64 p2_6)])]) fun (y6 : (Int)) =>
        bif (y2.1 == y6) then
          bif (y3.2 == (0 : Int)) then
            bif (y3.1 == y5.1) then
              some true
            else some false
          else some false
        else some false
      else some false
    else bif (y2.2 == (0 : Int)) then
      bindO (F 61 (RSh.one (CK.int .i64)) [(PV.agg [(PV.int .i64 p0_0), (PV.int .i64 p0_1), (PV.int .i64 p0_2), (PV.int .i64 p0_3), (PV.int .i64 p0_4), (PV.int .i64 p0_5)]), (PV.agg [(PV.int .i64 p1_0), (PV.int .i64 p1_1), (PV.int .i64 p1_2), (PV.int .i64 p1_3), (PV.int .i64 p1_4), (PV.int .i64 p1_5)]), (PV.agg [(PV.int .i64 p2_0), (PV.int .i64 p2_1), (PV.int .i64 p2_2), (PV.int .i64 p2_3), (PV.int .i64 p2_4), (PV.int .i64 p2_5), (PV.int .i64 p2_6)])]) fun (y7 : (Int)) =>
      bif (y2.1 == y7) then
        bif (y3.2 == (12 : Int)) then
          bif (y3.1 == (0 : Int)) then
            some true
          else some false
        else some false
      else some false
    else some false
  else some false
theorem tlaw10_eq (F : FnT) (p0_0 p0_1 p0_2 p0_3 p0_4 p0_5 p1_0 p1_1 p1_2 p1_3 p1_4 p1_5 p2_0 p2_1 p2_2 p2_3 p2_4 p2_5 p2_6 : Int) : semF (callP F Elaw10 20) s10 (loopT []) 400 a10 [PV.agg [PV.int .i64 p0_0, PV.int .i64 p0_1, PV.int .i64 p0_2, PV.int .i64 p0_3, PV.int .i64 p0_4, PV.int .i64 p0_5], PV.agg [PV.int .i64 p1_0, PV.int .i64 p1_1, PV.int .i64 p1_2, PV.int .i64 p1_3, PV.int .i64 p1_4, PV.int .i64 p1_5], PV.agg [PV.int .i64 p2_0, PV.int .i64 p2_1, PV.int .i64 p2_2, PV.int .i64 p2_3, PV.int .i64 p2_4, PV.int .i64 p2_5, PV.int .i64 p2_6]] (fun rv => decR (RSh.one CK.bool) rv.pv) = tlaw10 F p0_0 p0_1 p0_2 p0_3 p0_4 p0_5 p1_0 p1_1 p1_2 p1_3 p1_4 p1_5 p2_0 p2_1 p2_2 p2_3 p2_4 p2_5 p2_6 := by kernel_rfl
noncomputable abbrev Flaw10 (args : List PV) := Fn env 10 (RSh.one CK.bool) args
theorem Flaw10_of  (p0_0 p0_1 p0_2 p0_3 p0_4 p0_5 p1_0 p1_1 p1_2 p1_3 p1_4 p1_5 p2_0 p2_1 p2_2 p2_3 p2_4 p2_5 p2_6 : Int) {res : (Bool)} (h : tlaw10 (Fn env) p0_0 p0_1 p0_2 p0_3 p0_4 p0_5 p1_0 p1_1 p1_2 p1_3 p1_4 p1_5 p2_0 p2_1 p2_2 p2_3 p2_4 p2_5 p2_6 = some res) : Flaw10 [PV.agg [PV.int .i64 p0_0, PV.int .i64 p0_1, PV.int .i64 p0_2, PV.int .i64 p0_3, PV.int .i64 p0_4, PV.int .i64 p0_5], PV.agg [PV.int .i64 p1_0, PV.int .i64 p1_1, PV.int .i64 p1_2, PV.int .i64 p1_3, PV.int .i64 p1_4, PV.int .i64 p1_5], PV.agg [PV.int .i64 p2_0, PV.int .i64 p2_1, PV.int .i64 p2_2, PV.int .i64 p2_3, PV.int .i64 p2_4, PV.int .i64 p2_5, PV.int .i64 p2_6]] = some res :=
  fn_of Elaw10_ok rfl rfl lo_nil ((tlaw10_eq _ _ _ _ _ _ _ _ _ _ _ _ _ _ _ _ _ _ _ _).trans h)
end Gv
