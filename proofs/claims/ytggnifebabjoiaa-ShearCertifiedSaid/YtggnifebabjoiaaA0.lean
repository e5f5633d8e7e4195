import Derived.KernelRfl
import Derived.Test.YtggnifebabjoiaaGvEnv
import Derived.Test.YtggnifebabjoiaaS2

/- What an example of the document gives. -/
namespace Gv
open Go
set_option maxRecDepth 100000
def EvL : List Entry := [.inl 21 a21 s21, .inl 73 a73 s73, .inl 74 a74 s74, .inl 75 a75 s75, .inl 78 a78 s78, .inl 79 a79 s79, .inl 83 a83 s83, .inl 84 a84 s84, .inl 85 a85 s85, .inl 86 a86 s86, .inl 87 a87 s87, .inl 88 a88 s88, .inl 89 a89 s89, .inl 90 a90 s90, .inl 91 a91 s91, .inl 114 a114 s114, .inl 115 a115 s115, .inl 116 a116 s116, .inl 117 a117 s117, .inl 118 a118 s118, .inl 119 a119 s119, .itr 123 a123 s123]
theorem EvL_ok : ∀ e ∈ EvL, EntOK env e := (ent_inl rfl (ent_inl rfl (ent_inl rfl (ent_inl rfl (ent_inl rfl (ent_inl rfl (ent_inl rfl (ent_inl rfl (ent_inl rfl (ent_inl rfl (ent_inl rfl (ent_inl rfl (ent_inl rfl (ent_inl rfl (ent_inl rfl (ent_inl rfl (ent_inl rfl (ent_inl rfl (ent_inl rfl (ent_inl rfl (ent_inl rfl (ent_itr rfl ent_nil))))))))))))))))))))))
theorem vL0 : semF (callP (Fn env) EvL 100000) s24 (loopT []) 400 a24 [.list 3 [.int .i64 (0), .int .i64 (900), .int .i64 (1000), .int .i64 (500), .int .i64 (800), .int .i64 (850), .int .i64 (1500), .int .i64 (200), .int .i64 (300)], .int .i64 1000] (fun rv => decR (RSh.tup [(Prod.mk true [(CK.int .i64), (CK.int .i64), (CK.int .i64), (CK.int .i64)]), (Prod.mk false [(CK.int .i64)])]) rv.pv) = some (1, 2, 500, 650, 0) := by kernel_rfl
theorem vL_is : Fn env 24 (RSh.tup [(Prod.mk true [(CK.int .i64), (CK.int .i64), (CK.int .i64), (CK.int .i64)]), (Prod.mk false [(CK.int .i64)])]) [.list 3 [.int .i64 (0), .int .i64 (900), .int .i64 (1000), .int .i64 (500), .int .i64 (800), .int .i64 (850), .int .i64 (1500), .int .i64 (200), .int .i64 (300)], .int .i64 1000] = some (1, 2, 500, 650, 0) := fn_of EvL_ok rfl rfl lo_nil vL0
end Gv

/- What an example of the document gives. -/
namespace Gv
open Go
set_option maxRecDepth 100000
def EvA : List Entry := [.inl 47 a47 s47, .inl 54 a54 s54, .inl 73 a73 s73, .inl 74 a74 s74, .inl 78 a78 s78, .inl 79 a79 s79, .inl 83 a83 s83, .inl 97 a97 s97, .inl 98 a98 s98, .inl 103 a103 s103, .inl 104 a104 s104, .inl 105 a105 s105, .inl 106 a106 s106, .inl 107 a107 s107, .inl 114 a114 s114, .inl 115 a115 s115, .inl 116 a116 s116, .inl 117 a117 s117, .inl 120 a120 s120, .inl 121 a121 s121, .inl 122 a122 s122]
theorem EvA_ok : ∀ e ∈ EvA, EntOK env e := (ent_inl rfl (ent_inl rfl (ent_inl rfl (ent_inl rfl (ent_inl rfl (ent_inl rfl (ent_inl rfl (ent_inl rfl (ent_inl rfl (ent_inl rfl (ent_inl rfl (ent_inl rfl (ent_inl rfl (ent_inl rfl (ent_inl rfl (ent_inl rfl (ent_inl rfl (ent_inl rfl (ent_inl rfl (ent_inl rfl (ent_inl rfl ent_nil)))))))))))))))))))))
theorem vA0 : semF (callP (Fn env) EvA 100000) s57 (loopT []) 400 a57 [.agg [.int .i64 (500), .int .i64 (300), .int .i64 (20), .int .i64 (60)], .list 5 [.int .i64 (10), .int .i64 (520), .int .i64 (600), .int .i64 (30), .int .i64 (200), .int .i64 (290), .int .i64 (40), .int .i64 (250), .int .i64 (310), .int .i64 (55), .int .i64 (100), .int .i64 (200), .int .i64 (80), .int .i64 (0), .int .i64 (100)]] (fun rv => decR (RSh.tup [(Prod.mk false [CK.list]), (Prod.mk false [(CK.int .i64)])]) rv.pv) = some ((1, [.int .i64 (1), .int .i64 (10), .int .i64 (79)]), 0) := by kernel_rfl
theorem vA_is : Fn env 57 (RSh.tup [(Prod.mk false [CK.list]), (Prod.mk false [(CK.int .i64)])]) [.agg [.int .i64 (500), .int .i64 (300), .int .i64 (20), .int .i64 (60)], .list 5 [.int .i64 (10), .int .i64 (520), .int .i64 (600), .int .i64 (30), .int .i64 (200), .int .i64 (290), .int .i64 (40), .int .i64 (250), .int .i64 (310), .int .i64 (55), .int .i64 (100), .int .i64 (200), .int .i64 (80), .int .i64 (0), .int .i64 (100)]] = some ((1, [.int .i64 (1), .int .i64 (10), .int .i64 (79)]), 0) := fn_of EvA_ok rfl rfl lo_nil vA0
end Gv

/- What an example of the document gives. -/
namespace Gv
open Go
set_option maxRecDepth 100000
def EvB : List Entry := [.inl 21 a21 s21, .inl 73 a73 s73, .inl 74 a74 s74, .inl 78 a78 s78, .inl 79 a79 s79, .inl 83 a83 s83, .inl 84 a84 s84, .inl 85 a85 s85, .inl 86 a86 s86, .inl 87 a87 s87, .inl 95 a95 s95, .inl 114 a114 s114, .inl 115 a115 s115, .inl 116 a116 s116, .inl 117 a117 s117, .inl 118 a118 s118]
theorem EvB_ok : ∀ e ∈ EvB, EntOK env e := (ent_inl rfl (ent_inl rfl (ent_inl rfl (ent_inl rfl (ent_inl rfl (ent_inl rfl (ent_inl rfl (ent_inl rfl (ent_inl rfl (ent_inl rfl (ent_inl rfl (ent_inl rfl (ent_inl rfl (ent_inl rfl (ent_inl rfl (ent_inl rfl ent_nil))))))))))))))))
theorem vB0 : semF (callP (Fn env) EvB 100000) s39 (loopT []) 400 a39 [.list 3 [.int .i64 (0), .int .i64 (900), .int .i64 (1000), .int .i64 (500), .int .i64 (800), .int .i64 (850), .int .i64 (1500), .int .i64 (200), .int .i64 (300)], .agg [.int .i64 (0), .int .i64 (2000)], .int .i64 400] (fun rv => decR (RSh.tup [(Prod.mk false [CK.list]), (Prod.mk false [(CK.int .i64)])]) rv.pv) = some ((2, [.int .i64 (901), .int .i64 (1099), .int .i64 (1901), .int .i64 (2000)]), 0) := by kernel_rfl
theorem vB_is : Fn env 39 (RSh.tup [(Prod.mk false [CK.list]), (Prod.mk false [(CK.int .i64)])]) [.list 3 [.int .i64 (0), .int .i64 (900), .int .i64 (1000), .int .i64 (500), .int .i64 (800), .int .i64 (850), .int .i64 (1500), .int .i64 (200), .int .i64 (300)], .agg [.int .i64 (0), .int .i64 (2000)], .int .i64 400] = some ((2, [.int .i64 (901), .int .i64 (1099), .int .i64 (1901), .int .i64 (2000)]), 0) := fn_of EvB_ok rfl rfl lo_nil vB0
end Gv

/- What an example of the document gives. -/
namespace Gv
open Go
set_option maxRecDepth 100000
def EvS : List Entry := []
theorem EvS_ok : ∀ e ∈ EvS, EntOK env e := ent_nil
theorem vS0 : semF (callP (Fn env) EvS 100000) s59 (loopT []) 400 a59 [.list 1 [.int .i64 (1), .int .i64 (10), .int .i64 (79)], .list 1 [.int .i64 (1), .int .i64 (10), .int .i64 (79)]] (fun rv => decR (RSh.one CK.bool) rv.pv) = some true := by kernel_rfl
theorem vS_is : Fn env 59 (RSh.one CK.bool) [.list 1 [.int .i64 (1), .int .i64 (10), .int .i64 (79)], .list 1 [.int .i64 (1), .int .i64 (10), .int .i64 (79)]] = some true := fn_of EvS_ok rfl rfl lo_nil vS0
end Gv

/- What an example of the document gives. -/
namespace Gv
open Go
set_option maxRecDepth 100000
def EvR : List Entry := []
theorem EvR_ok : ∀ e ∈ EvR, EntOK env e := ent_nil
theorem vR0 : semF (callP (Fn env) EvR 100000) s32 (loopT []) 400 a32 [.list 2 [.int .i64 (901), .int .i64 (1099), .int .i64 (1901), .int .i64 (2000)], .list 2 [.int .i64 (901), .int .i64 (1099), .int .i64 (1901), .int .i64 (2000)]] (fun rv => decR (RSh.one CK.bool) rv.pv) = some true := by kernel_rfl
theorem vR_is : Fn env 32 (RSh.one CK.bool) [.list 2 [.int .i64 (901), .int .i64 (1099), .int .i64 (1901), .int .i64 (2000)], .list 2 [.int .i64 (901), .int .i64 (1099), .int .i64 (1901), .int .i64 (2000)]] = some true := fn_of EvR_ok rfl rfl lo_nil vR0
end Gv

/- What an example of the document gives. -/
namespace Gv
open Go
set_option maxRecDepth 100000
def EvP : List Entry := []
theorem EvP_ok : ∀ e ∈ EvP, EntOK env e := ent_nil
theorem vP0 : semF (callP (Fn env) EvP 100000) s70 (loopT []) 400 a70 [] (fun rv => decR (RSh.one CK.list) rv.pv) = some (3, [.int .i64 (0), .int .i64 (900), .int .i64 (1000), .int .i64 (500), .int .i64 (800), .int .i64 (850), .int .i64 (1500), .int .i64 (200), .int .i64 (300)]) := by kernel_rfl
theorem vP_is : Fn env 70 (RSh.one CK.list) [] = some (3, [.int .i64 (0), .int .i64 (900), .int .i64 (1000), .int .i64 (500), .int .i64 (800), .int .i64 (850), .int .i64 (1500), .int .i64 (200), .int .i64 (300)]) := fn_of EvP_ok rfl rfl lo_nil vP0
end Gv

/- What an example of the document gives. -/
namespace Gv
open Go
set_option maxRecDepth 100000
def EvU : List Entry := []
theorem EvU_ok : ∀ e ∈ EvU, EntOK env e := ent_nil
theorem vU0 : semF (callP (Fn env) EvU 100000) s71 (loopT []) 400 a71 [] (fun rv => decR (RSh.agg [(CK.int .i64), (CK.int .i64), (CK.int .i64), (CK.int .i64)]) rv.pv) = some (500, 300, 20, 60) := by kernel_rfl
theorem vU_is : Fn env 71 (RSh.agg [(CK.int .i64), (CK.int .i64), (CK.int .i64), (CK.int .i64)]) [] = some (500, 300, 20, 60) := fn_of EvU_ok rfl rfl lo_nil vU0
end Gv

/- What an example of the document gives. -/
namespace Gv
open Go
set_option maxRecDepth 100000
def EvE : List Entry := []
theorem EvE_ok : ∀ e ∈ EvE, EntOK env e := ent_nil
theorem vE0 : semF (callP (Fn env) EvE 100000) s72 (loopT []) 400 a72 [] (fun rv => decR (RSh.one CK.list) rv.pv) = some (5, [.int .i64 (10), .int .i64 (520), .int .i64 (600), .int .i64 (30), .int .i64 (200), .int .i64 (290), .int .i64 (40), .int .i64 (250), .int .i64 (310), .int .i64 (55), .int .i64 (100), .int .i64 (200), .int .i64 (80), .int .i64 (0), .int .i64 (100)]) := by kernel_rfl
theorem vE_is : Fn env 72 (RSh.one CK.list) [] = some (5, [.int .i64 (10), .int .i64 (520), .int .i64 (600), .int .i64 (30), .int .i64 (200), .int .i64 (290), .int .i64 (40), .int .i64 (250), .int .i64 (310), .int .i64 (55), .int .i64 (100), .int .i64 (200), .int .i64 (80), .int .i64 (0), .int .i64 (100)]) := fn_of EvE_ok rfl rfl lo_nil vE0
end Gv

/- What the functions do, round by round: P6. -/
namespace Gv
open Go
set_option maxRecDepth 100000
def Eaw : List Entry := [.out 70 (RSh.one CK.list), .out 24 (RSh.tup [(Prod.mk true [(CK.int .i64), (CK.int .i64), (CK.int .i64), (CK.int .i64)]), (Prod.mk false [(CK.int .i64)])]), .out 71 (RSh.agg [(CK.int .i64), (CK.int .i64), (CK.int .i64), (CK.int .i64)]), .out 72 (RSh.one CK.list), .out 57 (RSh.tup [(Prod.mk false [CK.list]), (Prod.mk false [(CK.int .i64)])]), .out 39 (RSh.tup [(Prod.mk false [CK.list]), (Prod.mk false [(CK.int .i64)])]), .out 65 (RSh.tup [(Prod.mk true [(CK.int .i64), (CK.int .i64), (CK.int .i64), (CK.int .i64), (CK.int .i64), (CK.int .i64), (CK.int .i64)]), (Prod.mk false [(CK.int .i64)])]), .out 59 (RSh.one CK.bool), .out 32 (RSh.one CK.bool)]
theorem Eaw_ok : ∀ e ∈ Eaw, EntOK env e := (ent_out (ent_out (ent_out (ent_out (ent_out (ent_out (ent_out (ent_out (ent_out ent_nil)))))))))
def taw (F : FnT) : Option (Bool) :=
  bindO (F 70 (RSh.one CK.list) []) fun (y0 : ((Nat) × (List PV))) =>
  bindO (F 24 (RSh.tup [(Prod.mk true [(CK.int .i64), (CK.int .i64), (CK.int .i64), (CK.int .i64)]), (Prod.mk false [(CK.int .i64)])]) [(PV.list y0.1 y0.2), (PV.int .i64 (1000 : Int))]) fun (y1 : ((Int) × ((Int) × ((Int) × ((Int) × (Int)))))) =>
  bindO (F 71 (RSh.agg [(CK.int .i64), (CK.int .i64), (CK.int .i64), (CK.int .i64)]) []) fun (y2 : ((Int) × ((Int) × ((Int) × (Int))))) =>
  bindO (F 72 (RSh.one CK.list) []) fun (y3 : ((Nat) × (List PV))) =>
  bindO (F 57 (RSh.tup [(Prod.mk false [CK.list]), (Prod.mk false [(CK.int .i64)])]) [(PV.agg [(PV.int .i64 y2.1), (PV.int .i64 y2.2.1), (PV.int .i64 y2.2.2.1), (PV.int .i64 y2.2.2.2)]), (PV.list y3.1 y3.2)]) fun (y4 : (((Nat) × (List PV)) × (Int))) =>
  bindO (F 70 (RSh.one CK.list) []) fun (y5 : ((Nat) × (List PV))) =>
  bindO (F 39 (RSh.tup [(Prod.mk false [CK.list]), (Prod.mk false [(CK.int .i64)])]) [(PV.list y5.1 y5.2), (PV.agg [(PV.int .i64 (0 : Int)), (PV.int .i64 (2000 : Int))]), (PV.int .i64 (400 : Int))]) fun (y6 : (((Nat) × (List PV)) × (Int))) =>
  bindO (F 65 (RSh.tup [(Prod.mk true [(CK.int .i64), (CK.int .i64), (CK.int .i64), (CK.int .i64), (CK.int .i64), (CK.int .i64), (CK.int .i64)]), (Prod.mk false [(CK.int .i64)])]) [(PV.agg [(PV.int .i64 (9 : Int)), (PV.int .i64 (300 : Int)), (PV.int .i64 (1 : Int)), (PV.int .i64 (520 : Int))])]) fun (y7 : ((Int) × ((Int) × ((Int) × ((Int) × ((Int) × ((Int) × ((Int) × (Int))))))))) =>
  bif (y1.2.2.2.2 == (0 : Int)) then
    bif ((y1.1 == (1 : Int)) && ((y1.2.1 == (2 : Int)) && ((y1.2.2.1 == (500 : Int)) && ((y1.2.2.2.1 == (650 : Int)) && true)))) then
      bif (y4.2 == (0 : Int)) then
        bindO (F 59 (RSh.one CK.bool) [(PV.list y4.1.1 y4.1.2), (PV.list 1 [(PV.int .i64 (1 : Int)), (PV.int .i64 (10 : Int)), (PV.int .i64 (79 : Int))])]) fun (y8 : (Bool)) =>
        bif y8 then
          bif (y6.2 == (0 : Int)) then
            bindO (F 32 (RSh.one CK.bool) [(PV.list y6.1.1 y6.1.2), (PV.list 2 [(PV.int .i64 (901 : Int)), (PV.int .i64 (1099 : Int)), (PV.int .i64 (1901 : Int)), (PV.int .i64 (2000 : Int))])]) fun (y9 : (Bool)) =>
            bif y9 then
              bif (y7.2.2.2.2.2.2.2 == (0 : Int)) then
                bif ((y7.1 == (9 : Int)) && ((y7.2.1 == (1 : Int)) && ((y7.2.2.1 == (49 : Int)) && ((y7.2.2.2.1 == (1 : Int)) && ((y7.2.2.2.2.1 == (2 : Int)) && ((y7.2.2.2.2.2.1 == (18 : Int)) && ((y7.2.2.2.2.2.2.1 == (211 : Int)) && true))))))) then
                  some true
                else some false
              else some false
            else some false
          else some false
        else some false
      else some false
    else some false
  else some false
theorem taw_eq (F : FnT) : semF (callP F Eaw 20) s13 (loopT []) 400 a13 [] (fun rv => decR (RSh.one CK.bool) rv.pv) = taw F := by kernel_rfl
noncomputable abbrev Faw (args : List PV) := Fn env 13 (RSh.one CK.bool) args
theorem Faw_of  {res : (Bool)} (h : taw (Fn env) = some res) : Faw [] = some res :=
  fn_of Eaw_ok rfl rfl lo_nil ((taw_eq _).trans h)
end Gv

/- The examples of the document hold. -/
namespace Gv
open Go
set_option maxRecDepth 100000
theorem encX_is : encV 9 300 1 520 = (9, 1, 49, 1, 2, 18, 211, 0) := rfl
theorem awake_is : Faw [] = some true := by
  refine Faw_of ?_
  unfold taw
  simp only [vP_is, vL_is, vU_is, vE_is, vA_is, vB_is, enc_is, encX_is, bindO_val, vS_is, vR_is]
  rfl
end Gv
