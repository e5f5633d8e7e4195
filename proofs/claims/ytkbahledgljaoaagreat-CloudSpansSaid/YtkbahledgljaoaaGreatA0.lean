/- The examples of the document hold. -/
import Derived.KernelRfl
import Derived.Test.YtkbahledgljaoaaGreatGvEnv
namespace Gv
open Go
set_option maxRecDepth 100000
def Eawake : List Entry := [.inl 10 a10 s10, .inl 12 a12 s12, .inl 19 a19 s19, .inl 53 a53 s53, .inl 54 (primA 2 ceilH) s54, .inl 55 a55 s55, .inl 56 a56 s56, .inl 57 a57 s57, .inl 58 (primA 2 eyeG) s58, .inl 59 a59 s59, .inl 60 a60 s60, .inl 61 a61 s61, .inl 62 a62 s62, .inl 63 a63 s63, .inl 64 a64 s64, .inl 65 a65 s65, .inl 66 a66 s66, .inl 69 a69 s69, .inl 71 a71 s71, .inl 83 a83 s83, .inl 84 a84 s84, .inl 95 a95 s95, .inl 96 a96 s96, .inl 101 a101 s101, .inl 102 a102 s102, .inl 103 a103 s103, .inl 104 (primA 2 turnsG) s104, .inl 105 a105 s105, .inl 110 a110 s110, .inl 111 a111 s111, .inl 112 a112 s112, .inl 116 a116 s116, .inl 130 (primA 3 grownG) s130, .inl 131 a131 s131, .inl 132 a132 s132, .inl 133 a133 s133, .inl 136 a136 s136, .inl 137 a137 s137, .inl 138 a138 s138, .inl 140 a140 s140, .inl 152 (primA 1 midG) s152, .inl 153 a153 s153, .inl 154 a154 s154, .inl 159 a159 s159]
theorem Eawake_ok : ∀ e ∈ Eawake, EntOK env e := ((ent_inl rfl (ent_inl rfl (ent_inl rfl (ent_inl rfl (ent_inl rfl (ent_inl rfl (ent_inl rfl (ent_inl rfl (ent_inl rfl (ent_inl rfl (ent_inl rfl (ent_inl rfl (ent_inl rfl (ent_inl rfl (ent_inl rfl (ent_inl rfl (ent_inl rfl (ent_inl rfl (ent_inl rfl (ent_inl rfl (ent_inl rfl (ent_inl rfl (ent_inl rfl (ent_inl rfl (ent_inl rfl (ent_inl rfl (ent_inl rfl (ent_inl rfl (ent_inl rfl (ent_inl rfl (ent_inl rfl (ent_inl rfl (ent_inl rfl (ent_inl rfl (ent_inl rfl (ent_inl rfl (ent_inl rfl (ent_inl rfl (ent_inl rfl (ent_inl rfl (ent_inl rfl (ent_inl rfl (ent_inl rfl (ent_inl rfl ent_nil)))))))))))))))))))))))))))))))))))))))))))))
theorem awake0 : semF (callP (Fn env) Eawake 100000) s8 (loopT []) 400 a8 [] (fun rv => decR (.one .bool) rv.pv) = some true := by kernel_rfl
theorem awake_is : Fn env 8 (.one .bool) [] = some true := fn_of Eawake_ok rfl rfl lo_nil awake0
end Gv
