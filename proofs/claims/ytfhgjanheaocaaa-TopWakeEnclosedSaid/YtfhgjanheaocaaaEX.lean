import Derived.KernelRfl
import Derived.Test.YtfhgjanheaocaaaGvEnv
import Derived.Test.YtfhgjanheaocaaaQL4

/- What an example of the document gives. -/
namespace Gv
open Go
set_option maxRecDepth 100000
def Ev22 : List Entry := [.inl 38 a38 s38, .inl 62 a62 s62, .inl 40 a40 s40, .inl 41 a41 s41, .inl 63 a63 s63, .inl 56 a56 s56, .inl 50 a50 s50, .inl 84 a84 s84, .inl 43 a43 s43, .inl 85 a85 s85]
theorem Ev22_ok : ∀ e ∈ Ev22, EntOK env e := (ent_inl rfl (ent_inl rfl (ent_inl rfl (ent_inl rfl (ent_inl rfl (ent_inl rfl (ent_inl rfl (ent_inl rfl (ent_inl rfl (ent_inl rfl ent_nil))))))))))
theorem v220 : semF (callP (Fn env) Ev22 100000) s24 (loopT []) 400 a24 [(PV.agg [.int .i64 0, .int .i64 10, .int .i64 3, .int .i64 10]), (PV.agg [.int .i64 0, .int .i64 0, .int .i64 1]), (PV.agg [.int .i64 3, .int .i64 14])] (fun rv => decR (.tup [(false, [(.int .i64)]), (false, [(.int .i64)])]) rv.pv) = some (20, 0) := by kernel_rfl
theorem v22_is : Fn env 24 (.tup [(false, [(.int .i64)]), (false, [(.int .i64)])]) [(PV.agg [.int .i64 0, .int .i64 10, .int .i64 3, .int .i64 10]), (PV.agg [.int .i64 0, .int .i64 0, .int .i64 1]), (PV.agg [.int .i64 3, .int .i64 14])] = some (20, 0) := fn_of Ev22_ok rfl rfl lo_nil v220
end Gv

/- What an example of the document gives. -/
namespace Gv
open Go
set_option maxRecDepth 100000
def Ev58 : List Entry := [.inl 48 a48 s48, .inl 38 a38 s38, .inl 56 a56 s56, .inl 50 a50 s50, .inl 78 a78 s78, .inl 79 a79 s79, .inl 49 a49 s49, .inl 55 a55 s55, .inl 57 a57 s57, .inl 58 a58 s58, .inl 60 a60 s60, .inl 61 a61 s61, .inl 95 a95 s95, .inl 96 a96 s96, .inl 97 a97 s97, .inl 82 a82 s82, .inl 81 a81 s81, .inl 83 a83 s83]
theorem Ev58_ok : ∀ e ∈ Ev58, EntOK env e := (ent_inl rfl (ent_inl rfl (ent_inl rfl (ent_inl rfl (ent_inl rfl (ent_inl rfl (ent_inl rfl (ent_inl rfl (ent_inl rfl (ent_inl rfl (ent_inl rfl (ent_inl rfl (ent_inl rfl (ent_inl rfl (ent_inl rfl (ent_inl rfl (ent_inl rfl (ent_inl rfl ent_nil))))))))))))))))))
theorem v580 : semF (callP (Fn env) Ev58 100000) s34 (loopT []) 400 a34 [(PV.agg [.int .i64 0, .int .i64 2, .int .i64 10, .int .i64 12, .int .i64 8, .int .i64 10]), (PV.agg [.int .i64 (-1), .int .i64 1, .int .i64 1, .int .i64 2, .int .i64 0, .int .i64 1]), (PV.agg [.int .i64 (-100), .int .i64 100, .int .i64 5, .int .i64 50, .int .i64 1, .int .i64 0, .int .i64 20])] (fun rv => decR (.tup [(false, [(.int .i64)]), (false, [(.int .i64)])]) rv.pv) = some (8, 0) := by kernel_rfl
theorem v58_is : Fn env 34 (.tup [(false, [(.int .i64)]), (false, [(.int .i64)])]) [(PV.agg [.int .i64 0, .int .i64 2, .int .i64 10, .int .i64 12, .int .i64 8, .int .i64 10]), (PV.agg [.int .i64 (-1), .int .i64 1, .int .i64 1, .int .i64 2, .int .i64 0, .int .i64 1]), (PV.agg [.int .i64 (-100), .int .i64 100, .int .i64 5, .int .i64 50, .int .i64 1, .int .i64 0, .int .i64 20])] = some (8, 0) := fn_of Ev58_ok rfl rfl lo_nil v580
end Gv

/- The examples that the law asks after. -/
namespace Gv
open Go
set_option maxRecDepth 100000
def Eex : List Entry := []
theorem Eex_ok : ∀ e ∈ Eex, EntOK env e := ent_nil
theorem ex250 : semF (callP (Fn env) Eex 100000) s25 (loopT []) 400 a25 [] (fun rv => decR (RSh.agg [(CK.int .i64), (CK.int .i64), (CK.int .i64), (CK.int .i64)]) rv.pv) = some (0, 10, 3, 10) := by kernel_rfl
theorem ex25_is : Fn env 25 (RSh.agg [(CK.int .i64), (CK.int .i64), (CK.int .i64), (CK.int .i64)]) [] = some (0, 10, 3, 10) := fn_of Eex_ok rfl rfl lo_nil ex250
theorem ex260 : semF (callP (Fn env) Eex 100000) s26 (loopT []) 400 a26 [] (fun rv => decR (RSh.agg [(CK.int .i64), (CK.int .i64), (CK.int .i64)]) rv.pv) = some (0, 0, 1) := by kernel_rfl
theorem ex26_is : Fn env 26 (RSh.agg [(CK.int .i64), (CK.int .i64), (CK.int .i64)]) [] = some (0, 0, 1) := fn_of Eex_ok rfl rfl lo_nil ex260
theorem ex320 : semF (callP (Fn env) Eex 100000) s32 (loopT []) 400 a32 [] (fun rv => decR (RSh.agg [(CK.int .i64), (CK.int .i64), (CK.int .i64), (CK.int .i64), (CK.int .i64), (CK.int .i64)]) rv.pv) = some (0, 2, 10, 12, 8, 10) := by kernel_rfl
theorem ex32_is : Fn env 32 (RSh.agg [(CK.int .i64), (CK.int .i64), (CK.int .i64), (CK.int .i64), (CK.int .i64), (CK.int .i64)]) [] = some (0, 2, 10, 12, 8, 10) := fn_of Eex_ok rfl rfl lo_nil ex320
theorem ex330 : semF (callP (Fn env) Eex 100000) s33 (loopT []) 400 a33 [] (fun rv => decR (RSh.agg [(CK.int .i64), (CK.int .i64), (CK.int .i64), (CK.int .i64), (CK.int .i64), (CK.int .i64)]) rv.pv) = some (-1, 1, 1, 2, 0, 1) := by kernel_rfl
theorem ex33_is : Fn env 33 (RSh.agg [(CK.int .i64), (CK.int .i64), (CK.int .i64), (CK.int .i64), (CK.int .i64), (CK.int .i64)]) [] = some (-1, 1, 1, 2, 0, 1) := fn_of Eex_ok rfl rfl lo_nil ex330
theorem ex350 : semF (callP (Fn env) Eex 100000) s35 (loopT []) 400 a35 [] (fun rv => decR (RSh.agg [(CK.int .i64), (CK.int .i64), (CK.int .i64), (CK.int .i64), (CK.int .i64), (CK.int .i64), (CK.int .i64)]) rv.pv) = some (-100, 100, 5, 50, 1, 0, 20) := by kernel_rfl
theorem ex35_is : Fn env 35 (RSh.agg [(CK.int .i64), (CK.int .i64), (CK.int .i64), (CK.int .i64), (CK.int .i64), (CK.int .i64), (CK.int .i64)]) [] = some (-100, 100, 5, 50, 1, 0, 20) := fn_of Eex_ok rfl rfl lo_nil ex350
theorem shown_is : Fshown [] = some true := by
  refine Fshown_of ?_
  unfold tshown
  simp only [ex25_is, ex26_is, ex32_is, ex33_is, ex35_is, bindO_val]
  have h1 : Fn env 24 (RSh.tup [(Prod.mk false [(CK.int .i64)]), (Prod.mk false [(CK.int .i64)])]) _ = _ := v22_is
  have h2 : Fn env 34 (RSh.tup [(Prod.mk false [(CK.int .i64)]), (Prod.mk false [(CK.int .i64)])]) _ = _ := v58_is
  rw [h1, bindO_val, h2, bindO_val]
  rfl
end Gv
