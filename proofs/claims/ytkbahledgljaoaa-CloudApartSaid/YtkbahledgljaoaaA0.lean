/- The examples of the document hold. -/
import Derived.KernelRfl
import Derived.Test.YtkbahledgljaoaaGvEnv
namespace Gv
open Go
set_option maxRecDepth 100000
def Eawake : List Entry := [.inl 22 a22 s22, .inl 29 a29 s29, .inl 35 (primA 2 ceilH) s35, .inl 41 a41 s41, .inl 43 (primA 2 eyeH) s43, .inl 49 a49 s49, .inl 50 a50 s50, .inl 51 a51 s51, .inl 52 a52 s52, .inl 54 a54 s54, .inl 55 a55 s55, .inl 56 a56 s56, .inl 60 a60 s60, .inl 62 a62 s62, .inl 63 a63 s63, .inl 64 a64 s64, .inl 66 a66 s66, .inl 67 a67 s67, .inl 68 a68 s68, .inl 71 a71 s71, .inl 79 a79 s79, .inl 80 a80 s80, .inl 81 a81 s81, .inl 82 (primA 1 midG) s82, .inl 83 a83 s83, .inl 84 a84 s84, .inl 85 (primA 2 turnsG) s85, .inl 86 a86 s86, .inl 93 a93 s93, .inl 94 a94 s94, .inl 95 a95 s95, .inl 97 a97 s97, .inl 98 (primA 3 grownG) s98, .inl 99 a99 s99, .inl 100 a100 s100, .inl 103 a103 s103, .inl 104 a104 s104, .inl 105 a105 s105, .inl 108 a108 s108, .inl 109 a109 s109, .inl 110 a110 s110, .inl 111 a111 s111, .inl 112 a112 s112, .inl 117 a117 s117]
theorem Eawake_ok : ∀ e ∈ Eawake, EntOK env e := ((ent_inl rfl (ent_inl rfl (ent_inl rfl (ent_inl rfl (ent_inl rfl (ent_inl rfl (ent_inl rfl (ent_inl rfl (ent_inl rfl (ent_inl rfl (ent_inl rfl (ent_inl rfl (ent_inl rfl (ent_inl rfl (ent_inl rfl (ent_inl rfl (ent_inl rfl (ent_inl rfl (ent_inl rfl (ent_inl rfl (ent_inl rfl (ent_inl rfl (ent_inl rfl (ent_inl rfl (ent_inl rfl (ent_inl rfl (ent_inl rfl (ent_inl rfl (ent_inl rfl (ent_inl rfl (ent_inl rfl (ent_inl rfl (ent_inl rfl (ent_inl rfl (ent_inl rfl (ent_inl rfl (ent_inl rfl (ent_inl rfl (ent_inl rfl (ent_inl rfl (ent_inl rfl (ent_inl rfl (ent_inl rfl (ent_inl rfl ent_nil)))))))))))))))))))))))))))))))))))))))))))))
theorem awake0 : semF (callP (Fn env) Eawake 100000) s10 (loopT []) 400 a10 [] (fun rv => decR (.one .bool) rv.pv) = some true := by kernel_rfl
theorem awake_is : Fn env 10 (.one .bool) [] = some true := fn_of Eawake_ok rfl rfl lo_nil awake0
end Gv
