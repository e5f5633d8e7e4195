import Derived.KernelRfl
import Derived.Test.YtggnifebabjoiaaGvEnv
import Derived.Test.YtggnifebabjoiaaP6
import Derived.Test.YtggnifebabjoiaaS2

/- What an example of the document gives. -/
namespace Gv
open Go
set_option maxRecDepth 100000
def EvL : List Entry := [.inl 21 a21 s21, .inl 73 a73 s73, .inl 74 a74 s74, .inl 75 a75 s75, .inl 78 a78 s78, .inl 79 a79 s79, .inl 83 a83 s83, .inl 84 a84 s84, .inl 85 a85 s85, .inl 86 a86 s86, .inl 87 a87 s87, .inl 88 a88 s88, .inl 89 a89 s89, .inl 90 a90 s90, .inl 91 a91 s91, .inl 114 a114 s114, .inl 115 a115 s115, .inl 116 a116 s116, .inl 117 a117 s117, .inl 118 a118 s118, .inl 119 a119 s119, .itr 123 a123 s123]
theorem EvL_ok : ∀ e ∈ EvL, EntOK env e := (ent_inl rfl (ent_inl rfl (ent_inl rfl (ent_inl rfl (ent_inl rfl (ent_inl rfl (ent_inl rfl (ent_inl rfl (ent_inl rfl (ent_inl rfl (ent_inl rfl (ent_inl rfl (ent_inl rfl (ent_inl rfl (ent_inl rfl (ent_inl rfl (ent_inl rfl (ent_inl rfl (ent_inl rfl (ent_inl rfl (ent_inl rfl (ent_itr rfl ent_nil))))))))))))))))))))))
theorem vL0 : semF (callP (Fn env) EvL 100000) s24 (loopT []) 400 a24 [.list 3 [.int .i64 (0), .int .i64 (900), .int .i64 (1000), .int .i64 (500), .int .i64 (800), .int .i64 (850), .int .i64 (1500), .int .i64 (200), .int .i64 (300)], .int .i64 1000] (fun rv => decR (RSh.tup [(Prod.mk true [(CK.int .i64), (CK.int .i64), (CK.int .i64), (CK.int .i64)]), (Prod.mk false [(CK.int .i64)])]) rv.pv) = some (1, 2, 500, 650, 0) := by kernel_rfl
theorem vL_is : Fn env 24 (RSh.tup [(Prod.mk true [(CK.int .i64), (CK.int .i64), (CK.int .i64), (CK.int .i64)]), (Prod.mk false [(CK.int .i64)])]) [.list 3 [.int .i64 (0), .int .i64 (900), .int .i64 (1000), .int .i64 (500), .int .i64 (800), .int .i64 (850), .int .i64 (1500), .int .i64 (200), .int .i64 (300)], .int .i64 1000] = some (1, 2, 500, 650, 0) := fn_of EvL_ok rfl rfl lo_nil vL0
end Gv

/- What an example of the document gives. -/
namespace Gv
open Go
set_option maxRecDepth 100000
def EvA : List Entry := [.inl 47 a47 s47, .inl 54 a54 s54, .inl 73 a73 s73, .inl 74 a74 s74, .inl 78 a78 s78, .inl 79 a79 s79, .inl 83 a83 s83, .inl 97 a97 s97, .inl 98 a98 s98, .inl 103 a103 s103, .inl 104 a104 s104, .inl 105 a105 s105, .inl 106 a106 s106, .inl 107 a107 s107, .inl 114 a114 s114, .inl 115 a115 s115, .inl 116 a116 s116, .inl 117 a117 s117, .inl 120 a120 s120, .inl 121 a121 s121, .inl 122 a122 s122]
theorem EvA_ok : ∀ e ∈ EvA, EntOK env e := (ent_inl rfl (ent_inl rfl (ent_inl rfl (ent_inl rfl (ent_inl rfl (ent_inl rfl (ent_inl rfl (ent_inl rfl (ent_inl rfl (ent_inl rfl (ent_inl rfl (ent_inl rfl (ent_inl rfl (ent_inl rfl (ent_inl rfl (ent_inl rfl (ent_inl rfl (ent_inl rfl (ent_inl rfl (ent_inl rfl (ent_inl rfl ent_nil)))))))))))))))))))))
theorem vA0 : semF (callP (Fn env) EvA 100000) s57 (loopT []) 400 a57 [.agg [.int .i64 (500), .int .i64 (300), .int .i64 (20), .int .i64 (60)], .list 5 [.int .i64 (10), .int .i64 (520), .int .i64 (600), .int .i64 (30), .int .i64 (200), .int .i64 (290), .int .i64 (40), .int .i64 (250), .int .i64 (310), .int .i64 (55), .int .i64 (100), .int .i64 (200), .int .i64 (80), .int .i64 (0), .int .i64 (100)]] (fun rv => decR (RSh.tup [(Prod.mk false [CK.list]), (Prod.mk false [(CK.int .i64)])]) rv.pv) = some ((1, [.int .i64 (1), .int .i64 (10), .int .i64 (79)]), 0) := by kernel_rfl
theorem vA_is : Fn env 57 (RSh.tup [(Prod.mk false [CK.list]), (Prod.mk false [(CK.int .i64)])]) [.agg [.int .i64 (500), .int .i64 (300), .int .i64 (20), .int .i64 (60)], .list 5 [.int .i64 (10), .int .i64 (520), .int .i64 (600), .int .i64 (30), .int .i64 (200), .int .i64 (290), .int .i64 (40), .int .i64 (250), .int .i64 (310), .int .i64 (55), .int .i64 (100), .int .i64 (200), .int .i64 (80), .int .i64 (0), .int .i64 (100)]] = some ((1, [.int .i64 (1), .int .i64 (10), .int .i64 (79)]), 0) := fn_of EvA_ok rfl rfl lo_nil vA0
end Gv

/- What an example of the document gives. -/
namespace Gv
open Go
set_option maxRecDepth 100000
def EvB : List Entry := [.inl 21 a21 s21, .inl 73 a73 s73, .inl 74 a74 s74, .inl 78 a78 s78, .inl 79 a79 s79, .inl 83 a83 s83, .inl 84 a84 s84, .inl 85 a85 s85, .inl 86 a86 s86, .inl 87 a87 s87, .inl 95 a95 s95, .inl 114 a114 s114, .inl 115 a115 s115, .inl 116 a116 s116, .inl 117 a117 s117, .inl 118 a118 s118]
theorem EvB_ok : ∀ e ∈ EvB, EntOK env e := (ent_inl rfl (ent_inl rfl (ent_inl rfl (ent_inl rfl (ent_inl rfl (ent_inl rfl (ent_inl rfl (ent_inl rfl (ent_inl rfl (ent_inl rfl (ent_inl rfl (ent_inl rfl (ent_inl rfl (ent_inl rfl (ent_inl rfl (ent_inl rfl ent_nil))))))))))))))))
theorem vB0 : semF (callP (Fn env) EvB 100000) s39 (loopT []) 400 a39 [.list 3 [.int .i64 (0), .int .i64 (900), .int .i64 (1000), .int .i64 (500), .int .i64 (800), .int .i64 (850), .int .i64 (1500), .int .i64 (200), .int .i64 (300)], .agg [.int .i64 (0), .int .i64 (2000)], .int .i64 400] (fun rv => decR (RSh.tup [(Prod.mk false [CK.list]), (Prod.mk false [(CK.int .i64)])]) rv.pv) = some ((2, [.int .i64 (901), .int .i64 (1099), .int .i64 (1901), .int .i64 (2000)]), 0) := by kernel_rfl
theorem vB_is : Fn env 39 (RSh.tup [(Prod.mk false [CK.list]), (Prod.mk false [(CK.int .i64)])]) [.list 3 [.int .i64 (0), .int .i64 (900), .int .i64 (1000), .int .i64 (500), .int .i64 (800), .int .i64 (850), .int .i64 (1500), .int .i64 (200), .int .i64 (300)], .agg [.int .i64 (0), .int .i64 (2000)], .int .i64 400] = some ((2, [.int .i64 (901), .int .i64 (1099), .int .i64 (1901), .int .i64 (2000)]), 0) := fn_of EvB_ok rfl rfl lo_nil vB0
end Gv

/- What an example of the document gives. -/
namespace Gv
open Go
set_option maxRecDepth 100000
def EvS : List Entry := []
theorem EvS_ok : ∀ e ∈ EvS, EntOK env e := ent_nil
theorem vS0 : semF (callP (Fn env) EvS 100000) s59 (loopT []) 400 a59 [.list 1 [.int .i64 (1), .int .i64 (10), .int .i64 (79)], .list 1 [.int .i64 (1), .int .i64 (10), .int .i64 (79)]] (fun rv => decR (RSh.one CK.bool) rv.pv) = some true := by kernel_rfl
theorem vS_is : Fn env 59 (RSh.one CK.bool) [.list 1 [.int .i64 (1), .int .i64 (10), .int .i64 (79)], .list 1 [.int .i64 (1), .int .i64 (10), .int .i64 (79)]] = some true := fn_of EvS_ok rfl rfl lo_nil vS0
end Gv

/- What an example of the document gives. -/
namespace Gv
open Go
set_option maxRecDepth 100000
def EvR : List Entry := []
theorem EvR_ok : ∀ e ∈ EvR, EntOK env e := ent_nil
theorem vR0 : semF (callP (Fn env) EvR 100000) s32 (loopT []) 400 a32 [.list 2 [.int .i64 (901), .int .i64 (1099), .int .i64 (1901), .int .i64 (2000)], .list 2 [.int .i64 (901), .int .i64 (1099), .int .i64 (1901), .int .i64 (2000)]] (fun rv => decR (RSh.one CK.bool) rv.pv) = some true := by kernel_rfl
theorem vR_is : Fn env 32 (RSh.one CK.bool) [.list 2 [.int .i64 (901), .int .i64 (1099), .int .i64 (1901), .int .i64 (2000)], .list 2 [.int .i64 (901), .int .i64 (1099), .int .i64 (1901), .int .i64 (2000)]] = some true := fn_of EvR_ok rfl rfl lo_nil vR0
end Gv

/- What an example of the document gives. -/
namespace Gv
open Go
set_option maxRecDepth 100000
def EvP : List Entry := []
theorem EvP_ok : ∀ e ∈ EvP, EntOK env e := ent_nil
theorem vP0 : semF (callP (Fn env) EvP 100000) s70 (loopT []) 400 a70 [] (fun rv => decR (RSh.one CK.list) rv.pv) = some (3, [.int .i64 (0), .int .i64 (900), .int .i64 (1000), .int .i64 (500), .int .i64 (800), .int .i64 (850), .int .i64 (1500), .int .i64 (200), .int .i64 (300)]) := by kernel_rfl
theorem vP_is : Fn env 70 (RSh.one CK.list) [] = some (3, [.int .i64 (0), .int .i64 (900), .int .i64 (1000), .int .i64 (500), .int .i64 (800), .int .i64 (850), .int .i64 (1500), .int .i64 (200), .int .i64 (300)]) := fn_of EvP_ok rfl rfl lo_nil vP0
end Gv

/- What an example of the document gives. -/
namespace Gv
open Go
set_option maxRecDepth 100000
def EvU : List Entry := []
theorem EvU_ok : ∀ e ∈ EvU, EntOK env e := ent_nil
theorem vU0 : semF (callP (Fn env) EvU 100000) s71 (loopT []) 400 a71 [] (fun rv => decR (RSh.agg [(CK.int .i64), (CK.int .i64), (CK.int .i64), (CK.int .i64)]) rv.pv) = some (500, 300, 20, 60) := by kernel_rfl
theorem vU_is : Fn env 71 (RSh.agg [(CK.int .i64), (CK.int .i64), (CK.int .i64), (CK.int .i64)]) [] = some (500, 300, 20, 60) := fn_of EvU_ok rfl rfl lo_nil vU0
end Gv

/- What an example of the document gives. -/
namespace Gv
open Go
set_option maxRecDepth 100000
def EvE : List Entry := []
theorem EvE_ok : ∀ e ∈ EvE, EntOK env e := ent_nil
theorem vE0 : semF (callP (Fn env) EvE 100000) s72 (loopT []) 400 a72 [] (fun rv => decR (RSh.one CK.list) rv.pv) = some (5, [.int .i64 (10), .int .i64 (520), .int .i64 (600), .int .i64 (30), .int .i64 (200), .int .i64 (290), .int .i64 (40), .int .i64 (250), .int .i64 (310), .int .i64 (55), .int .i64 (100), .int .i64 (200), .int .i64 (80), .int .i64 (0), .int .i64 (100)]) := by kernel_rfl
theorem vE_is : Fn env 72 (RSh.one CK.list) [] = some (5, [.int .i64 (10), .int .i64 (520), .int .i64 (600), .int .i64 (30), .int .i64 (200), .int .i64 (290), .int .i64 (40), .int .i64 (250), .int .i64 (310), .int .i64 (55), .int .i64 (100), .int .i64 (200), .int .i64 (80), .int .i64 (0), .int .i64 (100)]) := fn_of EvE_ok rfl rfl lo_nil vE0
end Gv

/- The examples of the document hold. -/
namespace Gv
open Go
set_option maxRecDepth 100000
theorem encX_is : encV 9 300 1 520 = (9, 1, 49, 1, 2, 18, 211, 0) := rfl
theorem awake_is : Faw [] = some true := by
  refine Faw_of ?_
  unfold taw
  simp only [vP_is, vL_is, vU_is, vE_is, vA_is, vB_is, enc_is, encX_is, bindO_val, vS_is, vR_is]
  rfl
end Gv
