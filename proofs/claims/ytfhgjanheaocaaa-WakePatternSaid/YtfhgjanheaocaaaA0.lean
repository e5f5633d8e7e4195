import Derived.KernelRfl
import Derived.Test.YtfhgjanheaocaaaGvEnv

/- What an example of the document gives. -/
namespace Gv
open Go
set_option maxRecDepth 100000
def Ev17 : List Entry := [.inl 64 a64 s64, .inl 65 a65 s65, .inl 66 a66 s66, .inl 38 a38 s38, .inl 40 a40 s40, .inl 88 a88 s88, .inl 41 a41 s41, .inl 63 a63 s63, .inl 56 a56 s56, .inl 104 a104 s104, .inl 50 a50 s50, .inl 78 a78 s78, .inl 79 a79 s79, .inl 86 a86 s86, .inl 87 a87 s87, .itr 89 a89 s89, .inl 77 a77 s77, .inl 100 a100 s100, .inl 101 a101 s101, .inl 84 a84 s84, .inl 43 a43 s43, .inl 85 a85 s85, .inl 95 a95 s95, .inl 96 a96 s96, .inl 97 a97 s97, .inl 98 a98 s98, .inl 99 a99 s99, .inl 107 a107 s107]
theorem Ev17_ok : ∀ e ∈ Ev17, EntOK env e := (ent_inl rfl (ent_inl rfl (ent_inl rfl (ent_inl rfl (ent_inl rfl (ent_inl rfl (ent_inl rfl (ent_inl rfl (ent_inl rfl (ent_inl rfl (ent_inl rfl (ent_inl rfl (ent_inl rfl (ent_inl rfl (ent_inl rfl (ent_itr rfl (ent_inl rfl (ent_inl rfl (ent_inl rfl (ent_inl rfl (ent_inl rfl (ent_inl rfl (ent_inl rfl (ent_inl rfl (ent_inl rfl (ent_inl rfl (ent_inl rfl (ent_inl rfl ent_nil))))))))))))))))))))))))))))
theorem v170 : semF (callP (Fn env) Ev17 100000) s27 (loopT []) 400 a27 [(PV.agg [.int .i64 0, .int .i64 1, .int .i64 10, .int .i64 10, .int .i64 3, (PV.list 2 [.int .i64 5, .int .i64 10]), .int .i64 0, .int .i64 0, .int .i64 1, (PV.list 1 [.int .i64 3, .int .i64 14, .int .i64 20])])] (fun rv => decR (.tup [(true, [(.int .i64), (.int .i64), (.int .i64), (.int .i64)]), (false, [(.int .i64)]), (false, [(.int .i64)])]) rv.pv) = some (0, 10, 3, 10, 0, 0) := by kernel_rfl
theorem v17_is : Fn env 27 (.tup [(true, [(.int .i64), (.int .i64), (.int .i64), (.int .i64)]), (false, [(.int .i64)]), (false, [(.int .i64)])]) [(PV.agg [.int .i64 0, .int .i64 1, .int .i64 10, .int .i64 10, .int .i64 3, (PV.list 2 [.int .i64 5, .int .i64 10]), .int .i64 0, .int .i64 0, .int .i64 1, (PV.list 1 [.int .i64 3, .int .i64 14, .int .i64 20])])] = some (0, 10, 3, 10, 0, 0) := fn_of Ev17_ok rfl rfl lo_nil v170
end Gv

/- What an example of the document gives. -/
namespace Gv
open Go
set_option maxRecDepth 100000
def Ev22 : List Entry := [.inl 38 a38 s38, .inl 62 a62 s62, .inl 40 a40 s40, .inl 41 a41 s41, .inl 63 a63 s63, .inl 56 a56 s56, .inl 50 a50 s50, .inl 84 a84 s84, .inl 43 a43 s43, .inl 85 a85 s85]
theorem Ev22_ok : ∀ e ∈ Ev22, EntOK env e := (ent_inl rfl (ent_inl rfl (ent_inl rfl (ent_inl rfl (ent_inl rfl (ent_inl rfl (ent_inl rfl (ent_inl rfl (ent_inl rfl (ent_inl rfl ent_nil))))))))))
theorem v220 : semF (callP (Fn env) Ev22 100000) s24 (loopT []) 400 a24 [(PV.agg [.int .i64 0, .int .i64 10, .int .i64 3, .int .i64 10]), (PV.agg [.int .i64 0, .int .i64 0, .int .i64 1]), (PV.agg [.int .i64 3, .int .i64 14])] (fun rv => decR (.tup [(false, [(.int .i64)]), (false, [(.int .i64)])]) rv.pv) = some (20, 0) := by kernel_rfl
theorem v22_is : Fn env 24 (.tup [(false, [(.int .i64)]), (false, [(.int .i64)])]) [(PV.agg [.int .i64 0, .int .i64 10, .int .i64 3, .int .i64 10]), (PV.agg [.int .i64 0, .int .i64 0, .int .i64 1]), (PV.agg [.int .i64 3, .int .i64 14])] = some (20, 0) := fn_of Ev22_ok rfl rfl lo_nil v220
end Gv

/- What an example of the document gives. -/
namespace Gv
open Go
set_option maxRecDepth 100000
def Ev28 : List Entry := [.inl 90 a90 s90, .inl 38 a38 s38, .inl 56 a56 s56, .inl 102 a102 s102, .inl 103 a103 s103, .inl 104 a104 s104, .inl 72 a72 s72, .inl 50 a50 s50, .inl 67 a67 s67, .inl 68 (primA 1 cheapG) s68, .inl 69 a69 s69, .inl 108 a108 s108]
theorem Ev28_ok : ∀ e ∈ Ev28, EntOK env e := (ent_inl rfl (ent_inl rfl (ent_inl rfl (ent_inl rfl (ent_inl rfl (ent_inl rfl (ent_inl rfl (ent_inl rfl (ent_inl rfl (ent_inl rfl (ent_inl rfl (ent_inl rfl ent_nil))))))))))))
theorem v280 : semF (callP (Fn env) Ev28 100000) s29 (loopT []) 400 a29 [(PV.list 2 [(PV.list 2 [.int .i64 1, .int .i64 2]), (PV.list 2 [.int .i64 2, .int .i64 4])])] (fun rv => decR (.tup [(false, [.list]), (false, [(.int .i64)]), (false, [(.int .i64)])]) rv.pv) = some ((2, [.int .i64 1, .int .i64 0]), 4, 0) := by kernel_rfl
theorem v28_is : Fn env 29 (.tup [(false, [.list]), (false, [(.int .i64)]), (false, [(.int .i64)])]) [(PV.list 2 [(PV.list 2 [.int .i64 1, .int .i64 2]), (PV.list 2 [.int .i64 2, .int .i64 4])])] = some ((2, [.int .i64 1, .int .i64 0]), 4, 0) := fn_of Ev28_ok rfl rfl lo_nil v280
end Gv

/- What an example of the document gives. -/
namespace Gv
open Go
set_option maxRecDepth 100000
def Ev32 : List Entry := []
theorem Ev32_ok : ∀ e ∈ Ev32, EntOK env e := ent_nil
theorem v320 : semF (callP (Fn env) Ev32 100000) s36 (loopT []) 400 a36 [(PV.list 2 [.int .i64 1, .int .i64 0]), (PV.list 2 [.int .i64 1, .int .i64 0])] (fun rv => decR (.one .bool) rv.pv) = some true := by kernel_rfl
theorem v32_is : Fn env 36 (.one .bool) [(PV.list 2 [.int .i64 1, .int .i64 0]), (PV.list 2 [.int .i64 1, .int .i64 0])] = some true := fn_of Ev32_ok rfl rfl lo_nil v320
end Gv

/- What an example of the document gives. -/
namespace Gv
open Go
set_option maxRecDepth 100000
def Ev39 : List Entry := [.inl 38 a38 s38, .inl 41 a41 s41, .inl 56 a56 s56, .inl 72 a72 s72, .inl 50 a50 s50, .inl 70 a70 s70, .inl 71 a71 s71, .inl 73 (primA 3 linksG) s73, .inl 74 a74 s74, .inl 75 a75 s75, .inl 51 a51 s51, .inl 92 a92 s92, .inl 39 a39 s39, .inl 94 a94 s94, .inl 80 a80 s80]
theorem Ev39_ok : ∀ e ∈ Ev39, EntOK env e := (ent_inl rfl (ent_inl rfl (ent_inl rfl (ent_inl rfl (ent_inl rfl (ent_inl rfl (ent_inl rfl (ent_inl rfl (ent_inl rfl (ent_inl rfl (ent_inl rfl (ent_inl rfl (ent_inl rfl (ent_inl rfl (ent_inl rfl ent_nil)))))))))))))))
theorem v390 : semF (callP (Fn env) Ev39 100000) s30 (loopT []) 400 a30 [(PV.list 3 [(PV.list 1 [.int .i64 0, .int .i64 10, .int .i64 10]), (PV.list 2 [.int .i64 2, .int .i64 9, .int .i64 8, .int .i64 50, .int .i64 50, .int .i64 5]), (PV.list 1 [.int .i64 51, .int .i64 49, .int .i64 5])]), .int .i64 5] (fun rv => decR (RSh.tup [(false, [.list]), (false, [(.int .i64)])]) rv.pv) = some ((2, [(PV.list 2 [.int .i64 0, .int .i64 0, .int .i64 1, .int .i64 0]), (PV.list 2 [.int .i64 1, .int .i64 1, .int .i64 2, .int .i64 0])]), 0) := by kernel_rfl
theorem v39_is : Fn env 30 (RSh.tup [(false, [.list]), (false, [(.int .i64)])]) [(PV.list 3 [(PV.list 1 [.int .i64 0, .int .i64 10, .int .i64 10]), (PV.list 2 [.int .i64 2, .int .i64 9, .int .i64 8, .int .i64 50, .int .i64 50, .int .i64 5]), (PV.list 1 [.int .i64 51, .int .i64 49, .int .i64 5])]), .int .i64 5] = some ((2, [(PV.list 2 [.int .i64 0, .int .i64 0, .int .i64 1, .int .i64 0]), (PV.list 2 [.int .i64 1, .int .i64 1, .int .i64 2, .int .i64 0])]), 0) := fn_of Ev39_ok rfl rfl lo_nil v390
end Gv

/- What an example of the document gives. -/
namespace Gv
open Go
set_option maxRecDepth 100000
def Ev45 : List Entry := [.inl 48 a48 s48, .inl 38 a38 s38, .inl 56 a56 s56, .inl 50 a50 s50, .inl 78 a78 s78, .inl 79 a79 s79, .inl 49 a49 s49, .inl 55 a55 s55, .inl 95 a95 s95, .inl 96 a96 s96, .inl 97 a97 s97, .inl 82 a82 s82]
theorem Ev45_ok : ∀ e ∈ Ev45, EntOK env e := (ent_inl rfl (ent_inl rfl (ent_inl rfl (ent_inl rfl (ent_inl rfl (ent_inl rfl (ent_inl rfl (ent_inl rfl (ent_inl rfl (ent_inl rfl (ent_inl rfl (ent_inl rfl ent_nil))))))))))))
theorem v450 : semF (callP (Fn env) Ev45 100000) s17 (loopT []) 400 a17 [(PV.agg [.int .i64 0, .int .i64 2, .int .i64 10, .int .i64 12, .int .i64 8, .int .i64 10]), (PV.agg [.int .i64 (-1), .int .i64 1, .int .i64 1, .int .i64 2, .int .i64 0, .int .i64 1]), .int .i64 3] (fun rv => decR (.tup [(true, [(.int .i64), (.int .i64), (.int .i64), (.int .i64), (.int .i64), (.int .i64)]), (false, [(.int .i64)])]) rv.pv) = some (-3, 5, 4, 9, 5, 10, 0) := by kernel_rfl
theorem v45_is : Fn env 17 (.tup [(true, [(.int .i64), (.int .i64), (.int .i64), (.int .i64), (.int .i64), (.int .i64)]), (false, [(.int .i64)])]) [(PV.agg [.int .i64 0, .int .i64 2, .int .i64 10, .int .i64 12, .int .i64 8, .int .i64 10]), (PV.agg [.int .i64 (-1), .int .i64 1, .int .i64 1, .int .i64 2, .int .i64 0, .int .i64 1]), .int .i64 3] = some (-3, 5, 4, 9, 5, 10, 0) := fn_of Ev45_ok rfl rfl lo_nil v450
end Gv

/- What an example of the document gives. -/
namespace Gv
open Go
set_option maxRecDepth 100000
def Ev58 : List Entry := [.inl 48 a48 s48, .inl 38 a38 s38, .inl 56 a56 s56, .inl 50 a50 s50, .inl 78 a78 s78, .inl 79 a79 s79, .inl 49 a49 s49, .inl 55 a55 s55, .inl 57 a57 s57, .inl 58 a58 s58, .inl 60 a60 s60, .inl 61 a61 s61, .inl 95 a95 s95, .inl 96 a96 s96, .inl 97 a97 s97, .inl 82 a82 s82, .inl 81 a81 s81, .inl 83 a83 s83]
theorem Ev58_ok : ∀ e ∈ Ev58, EntOK env e := (ent_inl rfl (ent_inl rfl (ent_inl rfl (ent_inl rfl (ent_inl rfl (ent_inl rfl (ent_inl rfl (ent_inl rfl (ent_inl rfl (ent_inl rfl (ent_inl rfl (ent_inl rfl (ent_inl rfl (ent_inl rfl (ent_inl rfl (ent_inl rfl (ent_inl rfl (ent_inl rfl ent_nil))))))))))))))))))
theorem v580 : semF (callP (Fn env) Ev58 100000) s34 (loopT []) 400 a34 [(PV.agg [.int .i64 0, .int .i64 2, .int .i64 10, .int .i64 12, .int .i64 8, .int .i64 10]), (PV.agg [.int .i64 (-1), .int .i64 1, .int .i64 1, .int .i64 2, .int .i64 0, .int .i64 1]), (PV.agg [.int .i64 (-100), .int .i64 100, .int .i64 5, .int .i64 50, .int .i64 1, .int .i64 0, .int .i64 20])] (fun rv => decR (.tup [(false, [(.int .i64)]), (false, [(.int .i64)])]) rv.pv) = some (8, 0) := by kernel_rfl
theorem v58_is : Fn env 34 (.tup [(false, [(.int .i64)]), (false, [(.int .i64)])]) [(PV.agg [.int .i64 0, .int .i64 2, .int .i64 10, .int .i64 12, .int .i64 8, .int .i64 10]), (PV.agg [.int .i64 (-1), .int .i64 1, .int .i64 1, .int .i64 2, .int .i64 0, .int .i64 1]), (PV.agg [.int .i64 (-100), .int .i64 100, .int .i64 5, .int .i64 50, .int .i64 1, .int .i64 0, .int .i64 20])] = some (8, 0) := fn_of Ev58_ok rfl rfl lo_nil v580
end Gv

/- What an example of the document gives. -/
namespace Gv
open Go
set_option maxRecDepth 100000
def Ev70 : List Entry := []
theorem Ev70_ok : ∀ e ∈ Ev70, EntOK env e := ent_nil
theorem v700 : semF (callP (Fn env) Ev70 100000) s37 (loopT []) 400 a37 [(PV.list 2 [(PV.list 2 [.int .i64 0, .int .i64 0, .int .i64 1, .int .i64 0]), (PV.list 2 [.int .i64 1, .int .i64 1, .int .i64 2, .int .i64 0])]), (PV.list 2 [(PV.list 2 [.int .i64 0, .int .i64 0, .int .i64 1, .int .i64 0]), (PV.list 2 [.int .i64 1, .int .i64 1, .int .i64 2, .int .i64 0])])] (fun rv => decR (.one .bool) rv.pv) = some true := by kernel_rfl
theorem v70_is : Fn env 37 (.one .bool) [(PV.list 2 [(PV.list 2 [.int .i64 0, .int .i64 0, .int .i64 1, .int .i64 0]), (PV.list 2 [.int .i64 1, .int .i64 1, .int .i64 2, .int .i64 0])]), (PV.list 2 [(PV.list 2 [.int .i64 0, .int .i64 0, .int .i64 1, .int .i64 0]), (PV.list 2 [.int .i64 1, .int .i64 1, .int .i64 2, .int .i64 0])])] = some true := fn_of Ev70_ok rfl rfl lo_nil v700
end Gv

/- What the functions do, round by round: PA. -/
namespace Gv
open Go
set_option maxRecDepth 100000
def Eaw : List Entry := [.inl 76 a76 s76, .inl 25 a25 s25, .inl 26 a26 s26, .inl 28 a28 s28, .inl 31 a31 s31, .inl 32 a32 s32, .inl 33 a33 s33, .inl 35 a35 s35, .out 24 (RSh.tup [(Prod.mk false [(CK.int .i64)]), (Prod.mk false [(CK.int .i64)])]), .out 27 (RSh.tup [(Prod.mk true [(CK.int .i64), (CK.int .i64), (CK.int .i64), (CK.int .i64)]), (Prod.mk false [(CK.int .i64)]), (Prod.mk false [(CK.int .i64)])]), .out 29 (RSh.tup [(Prod.mk false [CK.list]), (Prod.mk false [(CK.int .i64)]), (Prod.mk false [(CK.int .i64)])]), .out 30 (RSh.tup [(Prod.mk false [CK.list]), (Prod.mk false [(CK.int .i64)])]), .out 17 (RSh.tup [(Prod.mk true [(CK.int .i64), (CK.int .i64), (CK.int .i64), (CK.int .i64), (CK.int .i64), (CK.int .i64)]), (Prod.mk false [(CK.int .i64)])]), .out 34 (RSh.tup [(Prod.mk false [(CK.int .i64)]), (Prod.mk false [(CK.int .i64)])]), .out 36 (RSh.one CK.bool), .out 37 (RSh.one CK.bool)]
theorem Eaw_ok : ∀ e ∈ Eaw, EntOK env e := (ent_inl rfl (ent_inl rfl (ent_inl rfl (ent_inl rfl (ent_inl rfl (ent_inl rfl (ent_inl rfl (ent_inl rfl (ent_out (ent_out (ent_out (ent_out (ent_out (ent_out (ent_out (ent_out ent_nil))))))))))))))))
def taw (F : FnT) : Option (Bool) :=
  bindO (F 24 (RSh.tup [(Prod.mk false [(CK.int .i64)]), (Prod.mk false [(CK.int .i64)])]) [(PV.agg [(PV.int .i64 (0 : Int)), (PV.int .i64 (10 : Int)), (PV.int .i64 (3 : Int)), (PV.int .i64 (10 : Int))]), (PV.agg [(PV.int .i64 (0 : Int)), (PV.int .i64 (0 : Int)), (PV.int .i64 (1 : Int))]), (PV.agg [(PV.int .i64 (3 : Int)), (PV.int .i64 (14 : Int))])]) fun (y0 : ((Int) × (Int))) =>
  bindO (F 27 (RSh.tup [(Prod.mk true [(CK.int .i64), (CK.int .i64), (CK.int .i64), (CK.int .i64)]), (Prod.mk false [(CK.int .i64)]), (Prod.mk false [(CK.int .i64)])]) [(PV.agg [(PV.int .i64 (0 : Int)), (PV.int .i64 (1 : Int)), (PV.int .i64 (10 : Int)), (PV.int .i64 (10 : Int)), (PV.int .i64 (3 : Int)), (PV.list 2 [(PV.int .i64 (5 : Int)), (PV.int .i64 (10 : Int))]), (PV.int .i64 (0 : Int)), (PV.int .i64 (0 : Int)), (PV.int .i64 (1 : Int)), (PV.list 1 [(PV.int .i64 (3 : Int)), (PV.int .i64 (14 : Int)), (PV.int .i64 (20 : Int))])])]) fun (y1 : ((Int) × ((Int) × ((Int) × ((Int) × ((Int) × (Int))))))) =>
  bindO (F 29 (RSh.tup [(Prod.mk false [CK.list]), (Prod.mk false [(CK.int .i64)]), (Prod.mk false [(CK.int .i64)])]) [(PV.list 2 [(PV.list 2 [(PV.int .i64 (1 : Int)), (PV.int .i64 (2 : Int))]), (PV.list 2 [(PV.int .i64 (2 : Int)), (PV.int .i64 (4 : Int))])])]) fun (y2 : (((Nat) × (List PV)) × ((Int) × (Int)))) =>
  bindO (F 30 (RSh.tup [(Prod.mk false [CK.list]), (Prod.mk false [(CK.int .i64)])]) [(PV.list 3 [(PV.list 1 [(PV.int .i64 (0 : Int)), (PV.int .i64 (10 : Int)), (PV.int .i64 (10 : Int))]), (PV.list 2 [(PV.int .i64 (2 : Int)), (PV.int .i64 (9 : Int)), (PV.int .i64 (8 : Int)), (PV.int .i64 (50 : Int)), (PV.int .i64 (50 : Int)), (PV.int .i64 (5 : Int))]), (PV.list 1 [(PV.int .i64 (51 : Int)), (PV.int .i64 (49 : Int)), (PV.int .i64 (5 : Int))])]), (PV.int .i64 (5 : Int))]) fun (y3 : (((Nat) × (List PV)) × (Int))) =>
  bindO (F 17 (RSh.tup [(Prod.mk true [(CK.int .i64), (CK.int .i64), (CK.int .i64), (CK.int .i64), (CK.int .i64), (CK.int .i64)]), (Prod.mk false [(CK.int .i64)])]) [(PV.agg [(PV.int .i64 (0 : Int)), (PV.int .i64 (2 : Int)), (PV.int .i64 (10 : Int)), (PV.int .i64 (12 : Int)), (PV.int .i64 (8 : Int)), (PV.int .i64 (10 : Int))]), (PV.agg [(PV.int .i64 (-1 : Int)), (PV.int .i64 (1 : Int)), (PV.int .i64 (1 : Int)), (PV.int .i64 (2 : Int)), (PV.int .i64 (0 : Int)), (PV.int .i64 (1 : Int))]), (PV.int .i64 (3 : Int))]) fun (y4 : ((Int) × ((Int) × ((Int) × ((Int) × ((Int) × ((Int) × (Int)))))))) =>
  bindO (F 34 (RSh.tup [(Prod.mk false [(CK.int .i64)]), (Prod.mk false [(CK.int .i64)])]) [(PV.agg [(PV.int .i64 (0 : Int)), (PV.int .i64 (2 : Int)), (PV.int .i64 (10 : Int)), (PV.int .i64 (12 : Int)), (PV.int .i64 (8 : Int)), (PV.int .i64 (10 : Int))]), (PV.agg [(PV.int .i64 (-1 : Int)), (PV.int .i64 (1 : Int)), (PV.int .i64 (1 : Int)), (PV.int .i64 (2 : Int)), (PV.int .i64 (0 : Int)), (PV.int .i64 (1 : Int))]), (PV.agg [(PV.int .i64 (-100 : Int)), (PV.int .i64 (100 : Int)), (PV.int .i64 (5 : Int)), (PV.int .i64 (50 : Int)), (PV.int .i64 (1 : Int)), (PV.int .i64 (0 : Int)), (PV.int .i64 (20 : Int))])]) fun (y5 : ((Int) × (Int))) =>
  bif (y0.2 == (0 : Int)) then
    bif (y0.1 == (20 : Int)) then
      bif (y1.2.2.2.2.2 == (0 : Int)) then
        bif ((y1.1 == (0 : Int)) && ((y1.2.1 == (10 : Int)) && ((y1.2.2.1 == (3 : Int)) && ((y1.2.2.2.1 == (10 : Int)) && true)))) then
          bif (y1.2.2.2.2.1 == (0 : Int)) then
            bif (y2.2.2 == (0 : Int)) then
              bif (y2.2.1 == (4 : Int)) then
                bindO (F 36 (RSh.one CK.bool) [(PV.list y2.1.1 y2.1.2), (PV.list 2 [(PV.int .i64 (1 : Int)), (PV.int .i64 (0 : Int))])]) fun (y6 : (Bool)) =>
                bif y6 then
                  bif (y3.2 == (0 : Int)) then
                    bindO (F 37 (RSh.one CK.bool) [(PV.list y3.1.1 y3.1.2), (PV.list 2 [(PV.list 2 [(PV.int .i64 (0 : Int)), (PV.int .i64 (0 : Int)), (PV.int .i64 (1 : Int)), (PV.int .i64 (0 : Int))]), (PV.list 2 [(PV.int .i64 (1 : Int)), (PV.int .i64 (1 : Int)), (PV.int .i64 (2 : Int)), (PV.int .i64 (0 : Int))])])]) fun (y7 : (Bool)) =>
                    bif y7 then
                      bif (y4.2.2.2.2.2.2 == (0 : Int)) then
                        bif ((y4.1 == (-3 : Int)) && ((y4.2.1 == (5 : Int)) && ((y4.2.2.1 == (4 : Int)) && ((y4.2.2.2.1 == (9 : Int)) && ((y4.2.2.2.2.1 == (5 : Int)) && ((y4.2.2.2.2.2.1 == (10 : Int)) && true)))))) then
                          bif (y5.2 == (0 : Int)) then
                            bif (y5.1 == (8 : Int)) then
                              some true
                            else some false
                          else some false
                        else some false
                      else some false
                    else some false
                  else some false
                else some false
              else some false
            else some false
          else some false
        else some false
      else some false
    else some false
  else some false
theorem taw_eq (F : FnT) : semF (callP F Eaw 20) s5 (loopT []) 400 a5 [] (fun rv => decR (RSh.one CK.bool) rv.pv) = taw F := by kernel_rfl
noncomputable abbrev Faw (args : List PV) := Fn env 5 (RSh.one CK.bool) args
theorem Faw_of  {res : (Bool)} (h : taw (Fn env) = some res) : Faw [] = some res :=
  fn_of Eaw_ok rfl rfl lo_nil ((taw_eq _).trans h)
end Gv

/- The examples of the document hold. -/
namespace Gv
open Go
set_option maxRecDepth 100000
theorem awake_is : Faw [] = some true := by
  refine Faw_of ?_
  unfold taw
  simp only [v17_is, v22_is, v28_is, v39_is, v45_is, v58_is, bindO_val, v32_is, v70_is]
  rfl
end Gv
