/- What the functions do, round by round: ZL5. -/
import Derived.Test.YtpbpkbckgifhdaaGreatGvEnv
namespace Gv
open Go
set_option maxRecDepth 100000
def Elaw5 : List Entry := [.out 6 (RSh.one CK.bool), .out 27 (RSh.one CK.bool), .out 29 (RSh.one CK.list), .out 28 (RSh.tup [(Prod.mk false [CK.list]), (Prod.mk false [(CK.int .i64)])]), .out 30 (RSh.one (CK.int .i64)), .out 32 (RSh.one CK.list), .out 31 (RSh.one CK.bool)]
theorem Elaw5_ok : ∀ e ∈ Elaw5, EntOK env e := (ent_out (ent_out (ent_out (ent_out (ent_out (ent_out (ent_out ent_nil)))))))
def tlaw5 (F : FnT) (p0n : Nat) (p0c : List PV) (p1 : Int) : Option (Bool) :=
 bindO (F 6 (RSh.one CK.bool) []) fun (y0 : (Bool)) =>
 bif y0 then
  bindO (F 27 (RSh.one CK.bool) [(PV.list p0n p0c)]) fun (y1 : (Bool)) =>
  bif y1 then
   bindO (F 29 (RSh.one CK.list) [(PV.list p0n p0c)]) fun (y2 : ((Nat) × (List PV))) =>
   bindO (F 28 (RSh.tup [(Prod.mk false [CK.list]), (Prod.mk false [(CK.int .i64)])]) [(PV.list y2.1 y2.2), (PV.int .i64 p1)]) fun (y3 : (((Nat) × (List PV)) × (Int))) =>
   bindO (F 30 (RSh.one (CK.int .i64)) [(PV.list p0n p0c), (PV.int .i64 p1)]) fun (y4 : (Int)) =>
   bif (y4 != (0 : Int)) then
    bif (y3.2 == y4) then
     bif ((y3.1.1 : Int) == (0 : Int)) then
      some true
     else some false
    else some false
   else bif (y3.2 == (0 : Int)) then
    bindO (F 32 (RSh.one CK.list) [(PV.list p0n p0c), (PV.int .i64 p1)]) fun (y5 : ((Nat) × (List PV))) =>
    bindO (F 31 (RSh.one CK.bool) [(PV.list y3.1.1 y3.1.2), (PV.list y5.1 y5.2)]) fun (y6 : (Bool)) =>
    bif y6 then
     some true
    else some false
   else some false
  else some true
 else some false
theorem tlaw5_eq (F p0n p0c p1) : semF (callP F Elaw5 20) s5 (loopT []) 400 a5 [PV.list p0n p0c, PV.int .i64 p1] (fun rv => decR (RSh.one CK.bool) rv.pv) = tlaw5 F p0n p0c p1 := by kernel_rfl
noncomputable abbrev Flaw5 (args : List PV) := Fn env 5 (RSh.one CK.bool) args
theorem Flaw5_of  (p0n : Nat) (p0c : List PV) (p1 : Int) {res : (Bool)} (h : tlaw5 (Fn env) p0n p0c p1 = some res) : Flaw5 [PV.list p0n p0c, PV.int .i64 p1] = some res :=
 fn_of Elaw5_ok rfl rfl lo_nil ((tlaw5_eq _ _ _ _).trans h)
end Gv
