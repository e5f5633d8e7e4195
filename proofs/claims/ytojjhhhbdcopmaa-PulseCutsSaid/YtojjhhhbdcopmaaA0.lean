/- The examples of the document hold. -/
import Derived.KernelRfl
import Derived.Test.YtojjhhhbdcopmaaGvEnv
namespace Gv
open Go
set_option maxRecDepth 100000
def Eawake : List Entry := [.inl 18 a18 s18, .inl 20 a20 s20, .inl 22 a22 s22, .inl 27 a27 s27, .inl 32 a32 s32, .inl 42 a42 s42, .inl 49 a49 s49, .inl 70 a70 s70, .inl 80 a80 s80, .inl 87 a87 s87, .inl 88 a88 s88, .inl 89 a89 s89, .inl 90 a90 s90, .inl 91 a91 s91, .inl 92 a92 s92, .inl 93 a93 s93, .inl 94 a94 s94, .inl 95 a95 s95, .inl 96 a96 s96, .inl 97 a97 s97, .inl 98 a98 s98, .inl 99 a99 s99, .inl 100 a100 s100, .inl 105 a105 s105, .inl 106 a106 s106, .inl 107 a107 s107, .inl 109 a109 s109, .inl 110 a110 s110, .inl 113 a113 s113, .inl 117 a117 s117, .inl 123 a123 s123, .inl 124 a124 s124, .inl 125 a125 s125, .inl 126 a126 s126, .inl 133 a133 s133, .inl 134 a134 s134, .inl 135 a135 s135, .inl 136 a136 s136, .inl 138 a138 s138, .inl 139 a139 s139, .inl 140 a140 s140, .inl 142 a142 s142, .inl 143 a143 s143, .inl 144 a144 s144, .inl 147 a147 s147, .inl 148 a148 s148, .inl 149 a149 s149, .inl 152 a152 s152, .inl 153 a153 s153, .inl 154 a154 s154, .inl 155 a155 s155]
theorem Eawake_ok : ∀ e ∈ Eawake, EntOK env e := ((ent_inl rfl (ent_inl rfl (ent_inl rfl (ent_inl rfl (ent_inl rfl (ent_inl rfl (ent_inl rfl (ent_inl rfl (ent_inl rfl (ent_inl rfl (ent_inl rfl (ent_inl rfl (ent_inl rfl (ent_inl rfl (ent_inl rfl (ent_inl rfl (ent_inl rfl (ent_inl rfl (ent_inl rfl (ent_inl rfl (ent_inl rfl (ent_inl rfl (ent_inl rfl (ent_inl rfl (ent_inl rfl (ent_inl rfl (ent_inl rfl (ent_inl rfl (ent_inl rfl (ent_inl rfl (ent_inl rfl (ent_inl rfl (ent_inl rfl (ent_inl rfl (ent_inl rfl (ent_inl rfl (ent_inl rfl (ent_inl rfl (ent_inl rfl (ent_inl rfl (ent_inl rfl (ent_inl rfl (ent_inl rfl (ent_inl rfl (ent_inl rfl (ent_inl rfl (ent_inl rfl (ent_inl rfl (ent_inl rfl (ent_inl rfl (ent_inl rfl ent_nil))))))))))))))))))))))))))))))))))))))))))))))))))))
theorem awake0 : semF (callP (Fn env) Eawake 100000) s15 (loopT []) 400 a15 [] (fun rv => decR (.one .bool) rv.pv) = some true := by kernel_rfl
theorem awake_is : Fn env 15 (.one .bool) [] = some true := fn_of Eawake_ok rfl rfl lo_nil awake0
end Gv
