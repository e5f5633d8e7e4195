import Derived.KernelRfl
import Derived.Test.YtnoifjomlmadkaaGvEnv

/- What moves of the document's head take, and that they are dark. -/
namespace Gv
open Go
set_option maxRecDepth 100000
def Eex81_0_10 : List Entry := [.inl 74 a74 s74, .inl 78 a78 s78, .inl 88 a88 s88, .inl 104 a104 s104, .inl 105 a105 s105, .inl 106 a106 s106, .itr 108 a108 s108, .inl 109 a109 s109, .inl 123 a123 s123, .inl 125 a125 s125]
theorem Eex81_0_10_ok : ∀ e ∈ Eex81_0_10, EntOK env e := (ent_inl rfl (ent_inl rfl (ent_inl rfl (ent_inl rfl (ent_inl rfl (ent_inl rfl (ent_itr rfl (ent_inl rfl (ent_inl rfl (ent_inl rfl ent_nil))))))))))
theorem ex81_0_100 : semF (callP (Fn env) Eex81_0_10 100000) s81 (loopT []) 400 a81 [PV.agg [PV.int .i64 0, PV.int .i64 0, PV.int .i64 3, PV.int .i64 1, PV.int .i64 3, PV.int .i64 1, PV.list 0 []], PV.agg [PV.int .i64 0, PV.int .i64 0], PV.agg [PV.int .i64 10, PV.int .i64 0]] (fun rv => decR (RSh.one CK.bool) rv.pv) = some true := by kernel_rfl
theorem ex81_0_10_is : Fn env 81 (RSh.one CK.bool) [PV.agg [PV.int .i64 0, PV.int .i64 0, PV.int .i64 3, PV.int .i64 1, PV.int .i64 3, PV.int .i64 1, PV.list 0 []], PV.agg [PV.int .i64 0, PV.int .i64 0], PV.agg [PV.int .i64 10, PV.int .i64 0]] = some true := fn_of Eex81_0_10_ok rfl rfl lo_nil ex81_0_100
end Gv

/- What moves of the document's head take, and that they are dark. -/
namespace Gv
open Go
set_option maxRecDepth 100000
def Eex80_20_20 : List Entry := [.inl 61 a61 s61, .inl 62 a62 s62, .inl 110 a110 s110, .inl 123 a123 s123]
theorem Eex80_20_20_ok : ∀ e ∈ Eex80_20_20, EntOK env e := (ent_inl rfl (ent_inl rfl (ent_inl rfl (ent_inl rfl ent_nil))))
theorem ex80_20_200 : semF (callP (Fn env) Eex80_20_20 100000) s80 (loopT []) 400 a80 [PV.agg [PV.int .i64 0, PV.int .i64 0, PV.int .i64 3, PV.int .i64 1, PV.int .i64 3, PV.int .i64 1, PV.list 0 []], PV.agg [PV.int .i64 20, PV.int .i64 0], PV.agg [PV.int .i64 20, PV.int .i64 0]] (fun rv => decR (RSh.one (CK.int IntKind.i64)) rv.pv) = some 0 := by kernel_rfl
theorem ex80_20_20_is : Fn env 80 (RSh.one (CK.int IntKind.i64)) [PV.agg [PV.int .i64 0, PV.int .i64 0, PV.int .i64 3, PV.int .i64 1, PV.int .i64 3, PV.int .i64 1, PV.list 0 []], PV.agg [PV.int .i64 20, PV.int .i64 0], PV.agg [PV.int .i64 20, PV.int .i64 0]] = some 0 := fn_of Eex80_20_20_ok rfl rfl lo_nil ex80_20_200
def Eex80_20_10 : List Entry := [.inl 61 a61 s61, .inl 62 a62 s62, .inl 110 a110 s110, .inl 123 a123 s123]
theorem Eex80_20_10_ok : ∀ e ∈ Eex80_20_10, EntOK env e := (ent_inl rfl (ent_inl rfl (ent_inl rfl (ent_inl rfl ent_nil))))
theorem ex80_20_100 : semF (callP (Fn env) Eex80_20_10 100000) s80 (loopT []) 400 a80 [PV.agg [PV.int .i64 0, PV.int .i64 0, PV.int .i64 3, PV.int .i64 1, PV.int .i64 3, PV.int .i64 1, PV.list 0 []], PV.agg [PV.int .i64 20, PV.int .i64 0], PV.agg [PV.int .i64 10, PV.int .i64 0]] (fun rv => decR (RSh.one (CK.int IntKind.i64)) rv.pv) = some 6 := by kernel_rfl
theorem ex80_20_10_is : Fn env 80 (RSh.one (CK.int IntKind.i64)) [PV.agg [PV.int .i64 0, PV.int .i64 0, PV.int .i64 3, PV.int .i64 1, PV.int .i64 3, PV.int .i64 1, PV.list 0 []], PV.agg [PV.int .i64 20, PV.int .i64 0], PV.agg [PV.int .i64 10, PV.int .i64 0]] = some 6 := fn_of Eex80_20_10_ok rfl rfl lo_nil ex80_20_100
def Eex80_10_20 : List Entry := [.inl 61 a61 s61, .inl 62 a62 s62, .inl 110 a110 s110, .inl 123 a123 s123]
theorem Eex80_10_20_ok : ∀ e ∈ Eex80_10_20, EntOK env e := (ent_inl rfl (ent_inl rfl (ent_inl rfl (ent_inl rfl ent_nil))))
theorem ex80_10_200 : semF (callP (Fn env) Eex80_10_20 100000) s80 (loopT []) 400 a80 [PV.agg [PV.int .i64 0, PV.int .i64 0, PV.int .i64 3, PV.int .i64 1, PV.int .i64 3, PV.int .i64 1, PV.list 0 []], PV.agg [PV.int .i64 10, PV.int .i64 0], PV.agg [PV.int .i64 20, PV.int .i64 0]] (fun rv => decR (RSh.one (CK.int IntKind.i64)) rv.pv) = some 6 := by kernel_rfl
theorem ex80_10_20_is : Fn env 80 (RSh.one (CK.int IntKind.i64)) [PV.agg [PV.int .i64 0, PV.int .i64 0, PV.int .i64 3, PV.int .i64 1, PV.int .i64 3, PV.int .i64 1, PV.list 0 []], PV.agg [PV.int .i64 10, PV.int .i64 0], PV.agg [PV.int .i64 20, PV.int .i64 0]] = some 6 := fn_of Eex80_10_20_ok rfl rfl lo_nil ex80_10_200
def Eex80_10_10 : List Entry := [.inl 61 a61 s61, .inl 62 a62 s62, .inl 110 a110 s110, .inl 123 a123 s123]
theorem Eex80_10_10_ok : ∀ e ∈ Eex80_10_10, EntOK env e := (ent_inl rfl (ent_inl rfl (ent_inl rfl (ent_inl rfl ent_nil))))
theorem ex80_10_100 : semF (callP (Fn env) Eex80_10_10 100000) s80 (loopT []) 400 a80 [PV.agg [PV.int .i64 0, PV.int .i64 0, PV.int .i64 3, PV.int .i64 1, PV.int .i64 3, PV.int .i64 1, PV.list 0 []], PV.agg [PV.int .i64 10, PV.int .i64 0], PV.agg [PV.int .i64 10, PV.int .i64 0]] (fun rv => decR (RSh.one (CK.int IntKind.i64)) rv.pv) = some 0 := by kernel_rfl
theorem ex80_10_10_is : Fn env 80 (RSh.one (CK.int IntKind.i64)) [PV.agg [PV.int .i64 0, PV.int .i64 0, PV.int .i64 3, PV.int .i64 1, PV.int .i64 3, PV.int .i64 1, PV.list 0 []], PV.agg [PV.int .i64 10, PV.int .i64 0], PV.agg [PV.int .i64 10, PV.int .i64 0]] = some 0 := fn_of Eex80_10_10_ok rfl rfl lo_nil ex80_10_100
def Eex80_0_20 : List Entry := [.inl 61 a61 s61, .inl 62 a62 s62, .inl 110 a110 s110, .inl 123 a123 s123]
theorem Eex80_0_20_ok : ∀ e ∈ Eex80_0_20, EntOK env e := (ent_inl rfl (ent_inl rfl (ent_inl rfl (ent_inl rfl ent_nil))))
theorem ex80_0_200 : semF (callP (Fn env) Eex80_0_20 100000) s80 (loopT []) 400 a80 [PV.agg [PV.int .i64 0, PV.int .i64 0, PV.int .i64 3, PV.int .i64 1, PV.int .i64 3, PV.int .i64 1, PV.list 0 []], PV.agg [PV.int .i64 0, PV.int .i64 0], PV.agg [PV.int .i64 20, PV.int .i64 0]] (fun rv => decR (RSh.one (CK.int IntKind.i64)) rv.pv) = some 9 := by kernel_rfl
theorem ex80_0_20_is : Fn env 80 (RSh.one (CK.int IntKind.i64)) [PV.agg [PV.int .i64 0, PV.int .i64 0, PV.int .i64 3, PV.int .i64 1, PV.int .i64 3, PV.int .i64 1, PV.list 0 []], PV.agg [PV.int .i64 0, PV.int .i64 0], PV.agg [PV.int .i64 20, PV.int .i64 0]] = some 9 := fn_of Eex80_0_20_ok rfl rfl lo_nil ex80_0_200
def Eex80_0_10 : List Entry := [.inl 61 a61 s61, .inl 62 a62 s62, .inl 110 a110 s110, .inl 123 a123 s123]
theorem Eex80_0_10_ok : ∀ e ∈ Eex80_0_10, EntOK env e := (ent_inl rfl (ent_inl rfl (ent_inl rfl (ent_inl rfl ent_nil))))
theorem ex80_0_100 : semF (callP (Fn env) Eex80_0_10 100000) s80 (loopT []) 400 a80 [PV.agg [PV.int .i64 0, PV.int .i64 0, PV.int .i64 3, PV.int .i64 1, PV.int .i64 3, PV.int .i64 1, PV.list 0 []], PV.agg [PV.int .i64 0, PV.int .i64 0], PV.agg [PV.int .i64 10, PV.int .i64 0]] (fun rv => decR (RSh.one (CK.int IntKind.i64)) rv.pv) = some 6 := by kernel_rfl
theorem ex80_0_10_is : Fn env 80 (RSh.one (CK.int IntKind.i64)) [PV.agg [PV.int .i64 0, PV.int .i64 0, PV.int .i64 3, PV.int .i64 1, PV.int .i64 3, PV.int .i64 1, PV.list 0 []], PV.agg [PV.int .i64 0, PV.int .i64 0], PV.agg [PV.int .i64 10, PV.int .i64 0]] = some 6 := fn_of Eex80_0_10_ok rfl rfl lo_nil ex80_0_100
def Eex81_20_20 : List Entry := [.inl 74 a74 s74, .inl 78 a78 s78, .inl 88 a88 s88, .inl 104 a104 s104, .inl 105 a105 s105, .inl 106 a106 s106, .itr 108 a108 s108, .inl 109 a109 s109, .inl 123 a123 s123, .inl 125 a125 s125]
theorem Eex81_20_20_ok : ∀ e ∈ Eex81_20_20, EntOK env e := (ent_inl rfl (ent_inl rfl (ent_inl rfl (ent_inl rfl (ent_inl rfl (ent_inl rfl (ent_itr rfl (ent_inl rfl (ent_inl rfl (ent_inl rfl ent_nil))))))))))
theorem ex81_20_200 : semF (callP (Fn env) Eex81_20_20 100000) s81 (loopT []) 400 a81 [PV.agg [PV.int .i64 0, PV.int .i64 0, PV.int .i64 3, PV.int .i64 1, PV.int .i64 3, PV.int .i64 1, PV.list 0 []], PV.agg [PV.int .i64 20, PV.int .i64 0], PV.agg [PV.int .i64 20, PV.int .i64 0]] (fun rv => decR (RSh.one CK.bool) rv.pv) = some true := by kernel_rfl
theorem ex81_20_20_is : Fn env 81 (RSh.one CK.bool) [PV.agg [PV.int .i64 0, PV.int .i64 0, PV.int .i64 3, PV.int .i64 1, PV.int .i64 3, PV.int .i64 1, PV.list 0 []], PV.agg [PV.int .i64 20, PV.int .i64 0], PV.agg [PV.int .i64 20, PV.int .i64 0]] = some true := fn_of Eex81_20_20_ok rfl rfl lo_nil ex81_20_200
def Eex81_20_10 : List Entry := [.inl 74 a74 s74, .inl 78 a78 s78, .inl 88 a88 s88, .inl 104 a104 s104, .inl 105 a105 s105, .inl 106 a106 s106, .itr 108 a108 s108, .inl 109 a109 s109, .inl 123 a123 s123, .inl 125 a125 s125]
theorem Eex81_20_10_ok : ∀ e ∈ Eex81_20_10, EntOK env e := (ent_inl rfl (ent_inl rfl (ent_inl rfl (ent_inl rfl (ent_inl rfl (ent_inl rfl (ent_itr rfl (ent_inl rfl (ent_inl rfl (ent_inl rfl ent_nil))))))))))
theorem ex81_20_100 : semF (callP (Fn env) Eex81_20_10 100000) s81 (loopT []) 400 a81 [PV.agg [PV.int .i64 0, PV.int .i64 0, PV.int .i64 3, PV.int .i64 1, PV.int .i64 3, PV.int .i64 1, PV.list 0 []], PV.agg [PV.int .i64 20, PV.int .i64 0], PV.agg [PV.int .i64 10, PV.int .i64 0]] (fun rv => decR (RSh.one CK.bool) rv.pv) = some true := by kernel_rfl
theorem ex81_20_10_is : Fn env 81 (RSh.one CK.bool) [PV.agg [PV.int .i64 0, PV.int .i64 0, PV.int .i64 3, PV.int .i64 1, PV.int .i64 3, PV.int .i64 1, PV.list 0 []], PV.agg [PV.int .i64 20, PV.int .i64 0], PV.agg [PV.int .i64 10, PV.int .i64 0]] = some true := fn_of Eex81_20_10_ok rfl rfl lo_nil ex81_20_100
def Eex81_10_20 : List Entry := [.inl 74 a74 s74, .inl 78 a78 s78, .inl 88 a88 s88, .inl 104 a104 s104, .inl 105 a105 s105, .inl 106 a106 s106, .itr 108 a108 s108, .inl 109 a109 s109, .inl 123 a123 s123, .inl 125 a125 s125]
theorem Eex81_10_20_ok : ∀ e ∈ Eex81_10_20, EntOK env e := (ent_inl rfl (ent_inl rfl (ent_inl rfl (ent_inl rfl (ent_inl rfl (ent_inl rfl (ent_itr rfl (ent_inl rfl (ent_inl rfl (ent_inl rfl ent_nil))))))))))
theorem ex81_10_200 : semF (callP (Fn env) Eex81_10_20 100000) s81 (loopT []) 400 a81 [PV.agg [PV.int .i64 0, PV.int .i64 0, PV.int .i64 3, PV.int .i64 1, PV.int .i64 3, PV.int .i64 1, PV.list 0 []], PV.agg [PV.int .i64 10, PV.int .i64 0], PV.agg [PV.int .i64 20, PV.int .i64 0]] (fun rv => decR (RSh.one CK.bool) rv.pv) = some true := by kernel_rfl
theorem ex81_10_20_is : Fn env 81 (RSh.one CK.bool) [PV.agg [PV.int .i64 0, PV.int .i64 0, PV.int .i64 3, PV.int .i64 1, PV.int .i64 3, PV.int .i64 1, PV.list 0 []], PV.agg [PV.int .i64 10, PV.int .i64 0], PV.agg [PV.int .i64 20, PV.int .i64 0]] = some true := fn_of Eex81_10_20_ok rfl rfl lo_nil ex81_10_200
def Eex81_10_10 : List Entry := [.inl 74 a74 s74, .inl 78 a78 s78, .inl 88 a88 s88, .inl 104 a104 s104, .inl 105 a105 s105, .inl 106 a106 s106, .itr 108 a108 s108, .inl 109 a109 s109, .inl 123 a123 s123, .inl 125 a125 s125]
theorem Eex81_10_10_ok : ∀ e ∈ Eex81_10_10, EntOK env e := (ent_inl rfl (ent_inl rfl (ent_inl rfl (ent_inl rfl (ent_inl rfl (ent_inl rfl (ent_itr rfl (ent_inl rfl (ent_inl rfl (ent_inl rfl ent_nil))))))))))
theorem ex81_10_100 : semF (callP (Fn env) Eex81_10_10 100000) s81 (loopT []) 400 a81 [PV.agg [PV.int .i64 0, PV.int .i64 0, PV.int .i64 3, PV.int .i64 1, PV.int .i64 3, PV.int .i64 1, PV.list 0 []], PV.agg [PV.int .i64 10, PV.int .i64 0], PV.agg [PV.int .i64 10, PV.int .i64 0]] (fun rv => decR (RSh.one CK.bool) rv.pv) = some true := by kernel_rfl
theorem ex81_10_10_is : Fn env 81 (RSh.one CK.bool) [PV.agg [PV.int .i64 0, PV.int .i64 0, PV.int .i64 3, PV.int .i64 1, PV.int .i64 3, PV.int .i64 1, PV.list 0 []], PV.agg [PV.int .i64 10, PV.int .i64 0], PV.agg [PV.int .i64 10, PV.int .i64 0]] = some true := fn_of Eex81_10_10_ok rfl rfl lo_nil ex81_10_100
end Gv
