/- The examples of the document hold. -/
import Derived.KernelRfl
import Derived.Test.YtpfdbblfpmebcaaGvEnv
namespace Gv
open Go
set_option maxRecDepth 100000
def Eawake : List Entry := [.inl 16 a16 s16, .inl 26 a26 s26, .inl 52 a52 s52, .inl 53 a53 s53, .inl 54 a54 s54, .inl 55 a55 s55, .inl 56 a56 s56, .inl 57 a57 s57, .inl 58 a58 s58, .inl 59 a59 s59, .inl 60 a60 s60, .inl 61 a61 s61, .inl 62 a62 s62, .inl 63 a63 s63, .inl 64 a64 s64, .inl 97 a97 s97, .inl 98 a98 s98, .inl 99 a99 s99, .inl 100 a100 s100, .inl 101 a101 s101, .inl 102 a102 s102, .inl 103 a103 s103, .inl 104 a104 s104, .inl 105 a105 s105, .inl 106 a106 s106, .inl 107 a107 s107, .inl 108 a108 s108, .inl 109 a109 s109, .inl 110 a110 s110, .inl 111 a111 s111, .inl 112 a112 s112, .inl 139 a139 s139, .inl 140 a140 s140, .inl 141 a141 s141, .inl 142 a142 s142, .inl 143 a143 s143, .inl 144 a144 s144, .inl 145 a145 s145, .inl 146 a146 s146, .inl 147 a147 s147, .inl 148 a148 s148, .inl 149 a149 s149, .inl 150 a150 s150, .inl 151 a151 s151, .inl 152 a152 s152, .inl 166 a166 s166, .inl 167 a167 s167, .inl 168 a168 s168, .inl 169 a169 s169, .inl 172 a172 s172, .inl 173 a173 s173]
theorem Eawake_ok : ∀ e ∈ Eawake, EntOK env e := ((ent_inl rfl (ent_inl rfl (ent_inl rfl (ent_inl rfl (ent_inl rfl (ent_inl rfl (ent_inl rfl (ent_inl rfl (ent_inl rfl (ent_inl rfl (ent_inl rfl (ent_inl rfl (ent_inl rfl (ent_inl rfl (ent_inl rfl (ent_inl rfl (ent_inl rfl (ent_inl rfl (ent_inl rfl (ent_inl rfl (ent_inl rfl (ent_inl rfl (ent_inl rfl (ent_inl rfl (ent_inl rfl (ent_inl rfl (ent_inl rfl (ent_inl rfl (ent_inl rfl (ent_inl rfl (ent_inl rfl (ent_inl rfl (ent_inl rfl (ent_inl rfl (ent_inl rfl (ent_inl rfl (ent_inl rfl (ent_inl rfl (ent_inl rfl (ent_inl rfl (ent_inl rfl (ent_inl rfl (ent_inl rfl (ent_inl rfl (ent_inl rfl (ent_inl rfl (ent_inl rfl (ent_inl rfl (ent_inl rfl (ent_inl rfl (ent_inl rfl ent_nil))))))))))))))))))))))))))))))))))))))))))))))))))))
theorem awake0 : semF (callP (Fn env) Eawake 100000) s10 (loopT []) 400 a10 [] (fun rv => decR (.one .bool) rv.pv) = some true := by kernel_rfl
theorem awake_is : Fn env 10 (.one .bool) [] = some true := fn_of Eawake_ok rfl rfl lo_nil awake0
end Gv
