/- What the functions do, round by round: BL8. -/
import Derived.Test.YtpbpkbckgifhdaaGvEnv
namespace Gv
open Go
set_option maxRecDepth 100000
def Elaw8 : List Entry := [.out 12 (RSh.one CK.bool), .out 42 (RSh.one CK.list), .out 52 (RSh.tup [(Prod.mk false [(CK.int .i64)]), (Prod.mk false [(CK.int .i64)])]), .out 53 (RSh.one (CK.int .i64)), .out 54 (RSh.tup [(Prod.mk false [(CK.int .i64)]), (Prod.mk false [(CK.int .i64)])])]
theorem Elaw8_ok : ∀ e ∈ Elaw8, EntOK env e := (ent_out (ent_out (ent_out (ent_out (ent_out ent_nil)))))
def tlaw8 (F : FnT) (p0_0 p0_1 p0_2 p0_3 p0_4 p0_5 p1_0 p1_1 p1_2 p1_3 p1_4 p1_5 : Int) (p2n : Nat) (p2c : List PV) : Option (Bool) :=
  bindO (F 12 (RSh.one CK.bool) []) fun (y0 : (Bool)) =>
  bif y0 then
    bif (decide ((p2n : Int) > (30 : Int))) then
      some true
    else bindO (F 42 (RSh.one CK.list) [(PV.list p2n p2c)]) fun (y1 : ((Nat) × (List PV))) =>
    bindO (F 52 (RSh.tup [(Prod.mk false [(CK.int .i64)]), (Prod.mk false [(CK.int .i64)])]) [(PV.agg [(PV.int .i64 p0_0), (PV.int .i64 p0_1), (PV.int .i64 p0_2), (PV.int .i64 p0_3), (PV.int .i64 p0_4), (PV.int .i64 p0_5)]), (PV.agg [(PV.int .i64 p1_0), (PV.int .i64 p1_1), (PV.int .i64 p1_2), (PV.int .i64 p1_3), (PV.int .i64 p1_4), (PV.int .i64 p1_5)]), (PV.list y1.1 y1.2)]) fun (y2 : ((Int) × (Int))) =>
    bindO (F 53 (RSh.one (CK.int .i64)) [(PV.agg [(PV.int .i64 p0_0), (PV.int .i64 p0_1), (PV.int .i64 p0_2), (PV.int .i64 p0_3), (PV.int .i64 p0_4), (PV.int .i64 p0_5)]), (PV.agg [(PV.int .i64 p1_0), (PV.int .i64 p1_1), (PV.int .i64 p1_2), (PV.int .i64 p1_3), (PV.int .i64 p1_4), (PV.int .i64 p1_5)])]) fun (y3 : (Int)) =>
    bif (y3 != (0 : Int)) then
      bif (y2.2 == y3) then
        bif (y2.1 == (0 : Int)) then
          some true
        else some false
      else some false
    else bindO (F 54 (RSh.tup [(Prod.mk false [(CK.int .i64)]), (Prod.mk false [(CK.int .i64)])]) [(PV.agg [(PV.int .i64 p0_0), (PV.int .i64 p0_1), (PV.int .i64 p0_2), (PV.int .i64 p0_3), (PV.int .i64 p0_4), (PV.int .i64 p0_5)]), (PV.agg [(PV.int .i64 p1_0), (PV.int .i64 p1_1), (PV.int .i64 p1_2), (PV.int .i64 p1_3), (PV.int .i64 p1_4), (PV.int .i64 p1_5)]), (PV.list p2n p2c)]) fun (y4 : ((Int) × (Int))) =>
    bif (y2.2 == y4.2) then
      bif (y2.1 == y4.1) then
        some true
      else some false
    else some false
  else some false
theorem tlaw8_eq (F : FnT) (p0_0 p0_1 p0_2 p0_3 p0_4 p0_5 p1_0 p1_1 p1_2 p1_3 p1_4 p1_5 : Int) (p2n : Nat) (p2c : List PV) : semF (callP F Elaw8 20) s8 (loopT []) 400 a8 [PV.agg [PV.int .i64 p0_0, PV.int .i64 p0_1, PV.int .i64 p0_2, PV.int .i64 p0_3, PV.int .i64 p0_4, PV.int .i64 p0_5], PV.agg [PV.int .i64 p1_0, PV.int .i64 p1_1, PV.int .i64 p1_2, PV.int .i64 p1_3, PV.int .i64 p1_4, PV.int .i64 p1_5], PV.list p2n p2c] (fun rv => decR (RSh.one CK.bool) rv.pv) = tlaw8 F p0_0 p0_1 p0_2 p0_3 p0_4 p0_5 p1_0 p1_1 p1_2 p1_3 p1_4 p1_5 p2n p2c := by kernel_rfl
noncomputable abbrev Flaw8 (args : List PV) := Fn env 8 (RSh.one CK.bool) args
theorem Flaw8_of  (p0_0 p0_1 p0_2 p0_3 p0_4 p0_5 p1_0 p1_1 p1_2 p1_3 p1_4 p1_5 : Int) (p2n : Nat) (p2c : List PV) {res : (Bool)} (h : tlaw8 (Fn env) p0_0 p0_1 p0_2 p0_3 p0_4 p0_5 p1_0 p1_1 p1_2 p1_3 p1_4 p1_5 p2n p2c = some res) : Flaw8 [PV.agg [PV.int .i64 p0_0, PV.int .i64 p0_1, PV.int .i64 p0_2, PV.int .i64 p0_3, PV.int .i64 p0_4, PV.int .i64 p0_5], PV.agg [PV.int .i64 p1_0, PV.int .i64 p1_1, PV.int .i64 p1_2, PV.int .i64 p1_3, PV.int .i64 p1_4, PV.int .i64 p1_5], PV.list p2n p2c] = some res :=
  fn_of Elaw8_ok rfl rfl lo_nil ((tlaw8_eq _ _ _ _ _ _ _ _ _ _ _ _ _ _ _).trans h)
end Gv
