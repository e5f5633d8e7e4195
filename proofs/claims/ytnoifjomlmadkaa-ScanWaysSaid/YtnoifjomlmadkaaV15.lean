import Derived.KernelRfl
import Derived.Test.YtnoifjomlmadkaaGvEnv

/- What an example of the document gives. -/
namespace Gv
open Go
set_option maxRecDepth 100000
def Eex58 : List Entry := []
theorem Eex58_ok : ∀ e ∈ Eex58, EntOK env e := ent_nil
theorem ex580 : semF (callP (Fn env) Eex58 100000) s58 (loopT []) 400 a58 [PV.list 2 [PV.int .i64 1, PV.int .i64 0], PV.list 2 [(PV.int IntKind.i64 (1 : Int)), (PV.int IntKind.i64 (0 : Int))]] (fun rv => decR (RSh.one CK.bool) rv.pv) = some true := by kernel_rfl
theorem ex58_is : Fn env 58 (RSh.one CK.bool) [PV.list 2 [PV.int .i64 1, PV.int .i64 0], PV.list 2 [(PV.int IntKind.i64 (1 : Int)), (PV.int IntKind.i64 (0 : Int))]] = some true := fn_of Eex58_ok rfl rfl lo_nil ex580
end Gv

/- What an example of the document gives. -/
namespace Gv
open Go
set_option maxRecDepth 100000
def Eex75 : List Entry := [.inl 16 a16 s16, .inl 28 a28 s28, .inl 59 a59 s59, .inl 60 a60 s60, .inl 65 a65 s65, .inl 71 a71 s71, .inl 72 a72 s72, .inl 73 a73 s73, .inl 74 a74 s74, .inl 102 a102 s102, .inl 103 a103 s103, .inl 104 a104 s104, .inl 105 a105 s105, .inl 106 a106 s106, .inl 123 a123 s123, .inl 125 a125 s125]
theorem Eex75_ok : ∀ e ∈ Eex75, EntOK env e := (ent_inl rfl (ent_inl rfl (ent_inl rfl (ent_inl rfl (ent_inl rfl (ent_inl rfl (ent_inl rfl (ent_inl rfl (ent_inl rfl (ent_inl rfl (ent_inl rfl (ent_inl rfl (ent_inl rfl (ent_inl rfl (ent_inl rfl (ent_inl rfl ent_nil))))))))))))))))
theorem ex750 : semF (callP (Fn env) Eex75 100000) s75 (loopT []) 400 a75 [PV.agg [PV.int .i64 0, PV.int .i64 0, PV.int .i64 3, PV.int .i64 1, PV.int .i64 3, PV.int .i64 1, PV.list 0 []]] (fun rv => decR (RSh.one (CK.int IntKind.i64)) rv.pv) = some 0 := by kernel_rfl
theorem ex75_is : Fn env 75 (RSh.one (CK.int IntKind.i64)) [PV.agg [PV.int .i64 0, PV.int .i64 0, PV.int .i64 3, PV.int .i64 1, PV.int .i64 3, PV.int .i64 1, PV.list 0 []]] = some 0 := fn_of Eex75_ok rfl rfl lo_nil ex750
end Gv

/- What an example of the document gives. -/
namespace Gv
open Go
set_option maxRecDepth 100000
def Eex89 : List Entry := [.inl 59 a59 s59, .inl 60 a60 s60, .inl 65 a65 s65, .inl 71 a71 s71, .inl 102 a102 s102, .inl 103 a103 s103, .inl 113 a113 s113, .inl 126 a126 s126]
theorem Eex89_ok : ∀ e ∈ Eex89, EntOK env e := (ent_inl rfl (ent_inl rfl (ent_inl rfl (ent_inl rfl (ent_inl rfl (ent_inl rfl (ent_inl rfl (ent_inl rfl ent_nil))))))))
theorem ex890 : semF (callP (Fn env) Eex89 100000) s89 (loopT []) 400 a89 [PV.list 2 [PV.int .i64 20, PV.int .i64 0, PV.int .i64 10, PV.int .i64 0]] (fun rv => decR (RSh.one (CK.int IntKind.i64)) rv.pv) = some 0 := by kernel_rfl
theorem ex89_is : Fn env 89 (RSh.one (CK.int IntKind.i64)) [PV.list 2 [PV.int .i64 20, PV.int .i64 0, PV.int .i64 10, PV.int .i64 0]] = some 0 := fn_of Eex89_ok rfl rfl lo_nil ex890
end Gv

/- What an example of the document gives. -/
namespace Gv
open Go
set_option maxRecDepth 100000
def Eex92a : List Entry := []
theorem Eex92a_ok : ∀ e ∈ Eex92a, EntOK env e := ent_nil
theorem ex92a0 : semF (callP (Fn env) Eex92a 100000) s92 (loopT []) 400 a92 [PV.list 3 [PV.list 2 [PV.int .i64 0, PV.bool true, PV.int .i64 6, PV.bool true], PV.list 2 [PV.int .i64 6, PV.bool true, PV.int .i64 0, PV.bool true], PV.list 2 [PV.int .i64 9, PV.bool true, PV.int .i64 6, PV.bool true]], PV.list 2 [PV.int .i64 0, PV.int .i64 1]] (fun rv => decR (RSh.agg [(CK.int IntKind.i64), CK.bool]) rv.pv) = some (15, true) := by kernel_rfl
theorem ex92a_is : Fn env 92 (RSh.agg [(CK.int IntKind.i64), CK.bool]) [PV.list 3 [PV.list 2 [PV.int .i64 0, PV.bool true, PV.int .i64 6, PV.bool true], PV.list 2 [PV.int .i64 6, PV.bool true, PV.int .i64 0, PV.bool true], PV.list 2 [PV.int .i64 9, PV.bool true, PV.int .i64 6, PV.bool true]], PV.list 2 [PV.int .i64 0, PV.int .i64 1]] = some (15, true) := fn_of Eex92a_ok rfl rfl lo_nil ex92a0
end Gv

/- What an example of the document gives. -/
namespace Gv
open Go
set_option maxRecDepth 100000
def Eex92b : List Entry := []
theorem Eex92b_ok : ∀ e ∈ Eex92b, EntOK env e := ent_nil
theorem ex92b0 : semF (callP (Fn env) Eex92b 100000) s92 (loopT []) 400 a92 [PV.list 3 [PV.list 2 [PV.int .i64 0, PV.bool true, PV.int .i64 6, PV.bool true], PV.list 2 [PV.int .i64 6, PV.bool true, PV.int .i64 0, PV.bool true], PV.list 2 [PV.int .i64 9, PV.bool true, PV.int .i64 6, PV.bool true]], PV.list 2 [PV.int .i64 1, PV.int .i64 0]] (fun rv => decR (RSh.agg [(CK.int IntKind.i64), CK.bool]) rv.pv) = some (12, true) := by kernel_rfl
theorem ex92b_is : Fn env 92 (RSh.agg [(CK.int IntKind.i64), CK.bool]) [PV.list 3 [PV.list 2 [PV.int .i64 0, PV.bool true, PV.int .i64 6, PV.bool true], PV.list 2 [PV.int .i64 6, PV.bool true, PV.int .i64 0, PV.bool true], PV.list 2 [PV.int .i64 9, PV.bool true, PV.int .i64 6, PV.bool true]], PV.list 2 [PV.int .i64 1, PV.int .i64 0]] = some (12, true) := fn_of Eex92b_ok rfl rfl lo_nil ex92b0
end Gv

/- What an example of the document gives. -/
namespace Gv
open Go
set_option maxRecDepth 100000
def Eex15 : List Entry := [.inl 16 a16 s16, .inl 59 a59 s59, .inl 60 a60 s60, .inl 61 a61 s61, .inl 62 a62 s62, .inl 65 a65 s65]
theorem Eex15_ok : ∀ e ∈ Eex15, EntOK env e := (ent_inl rfl (ent_inl rfl (ent_inl rfl (ent_inl rfl (ent_inl rfl (ent_inl rfl ent_nil))))))
theorem ex150 : semF (callP (Fn env) Eex15 100000) s15 (loopT []) 400 a15 [(PV.agg [(PV.int IntKind.i64 (3 : Int)), (PV.int IntKind.i64 (1 : Int))]), (PV.int IntKind.i64 (20 : Int))] (fun rv => decR (RSh.tup [(Prod.mk false [(CK.int IntKind.i64)]), (Prod.mk false [(CK.int IntKind.i64)])]) rv.pv) = some (9, 0) := by kernel_rfl
theorem ex15_is : Fn env 15 (RSh.tup [(Prod.mk false [(CK.int IntKind.i64)]), (Prod.mk false [(CK.int IntKind.i64)])]) [(PV.agg [(PV.int IntKind.i64 (3 : Int)), (PV.int IntKind.i64 (1 : Int))]), (PV.int IntKind.i64 (20 : Int))] = some (9, 0) := fn_of Eex15_ok rfl rfl lo_nil ex150
end Gv
