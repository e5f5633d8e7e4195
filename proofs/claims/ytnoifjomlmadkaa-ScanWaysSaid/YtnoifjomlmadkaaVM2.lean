/- What moves of the document's head take, and that they are dark. -/
import Derived.KernelRfl
import Derived.Test.YtnoifjomlmadkaaGvEnv
namespace Gv
open Go
set_option maxRecDepth 100000
def Eex81_0_20 : List Entry := [.inl 74 a74 s74, .inl 78 a78 s78, .inl 88 a88 s88, .inl 104 a104 s104, .inl 105 a105 s105, .inl 106 a106 s106, .itr 108 a108 s108, .inl 109 a109 s109, .inl 123 a123 s123, .inl 125 a125 s125]
theorem Eex81_0_20_ok : ∀ e ∈ Eex81_0_20, EntOK env e := (ent_inl rfl (ent_inl rfl (ent_inl rfl (ent_inl rfl (ent_inl rfl (ent_inl rfl (ent_itr rfl (ent_inl rfl (ent_inl rfl (ent_inl rfl ent_nil))))))))))
theorem ex81_0_200 : semF (callP (Fn env) Eex81_0_20 100000) s81 (loopT []) 400 a81 [PV.agg [PV.int .i64 0, PV.int .i64 0, PV.int .i64 3, PV.int .i64 1, PV.int .i64 3, PV.int .i64 1, PV.list 0 []], PV.agg [PV.int .i64 0, PV.int .i64 0], PV.agg [PV.int .i64 20, PV.int .i64 0]] (fun rv => decR (RSh.one CK.bool) rv.pv) = some true := by kernel_rfl
theorem ex81_0_20_is : Fn env 81 (RSh.one CK.bool) [PV.agg [PV.int .i64 0, PV.int .i64 0, PV.int .i64 3, PV.int .i64 1, PV.int .i64 3, PV.int .i64 1, PV.list 0 []], PV.agg [PV.int .i64 0, PV.int .i64 0], PV.agg [PV.int .i64 20, PV.int .i64 0]] = some true := fn_of Eex81_0_20_ok rfl rfl lo_nil ex81_0_200
end Gv
