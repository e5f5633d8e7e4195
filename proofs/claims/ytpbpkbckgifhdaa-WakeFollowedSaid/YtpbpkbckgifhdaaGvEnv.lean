/- The program's functions, as the abstract machine runs them. -/
import Derived.Test.YtpbpkbckgifhdaaGvEnvA
import Derived.Test.YtpbpkbckgifhdaaGvClo
import Derived.Test.YtpbpkbckgifhdaaGvTold
namespace Gv
open Go Go.Proofs
set_option maxRecDepth 100000

def env (f : Nat) : Option AFn := match f with
 | 6 => some a6
 | 12 => some a12
 | 17 => some a17
 | 22 => some a22
 | 23 => some a23
 | 26 => some a26
 | 28 => some a28
 | 32 => some a32
 | 37 => some a37
 | 38 => some a38
 | 39 => some a39
 | 40 => some a40
 | 41 => some a41
 | 42 => some a42
 | 43 => some a43
 | 44 => some a44
 | 45 => some a45
 | 56 => some a56
 | 58 => some a58
 | 63 => some a63
 | 64 => some a64
 | 65 => some a65
 | 66 => some a66
 | 67 => some a67
 | 68 => some a68
 | 69 => some a69
 | 70 => some a70
 | 75 => some a75
 | 76 => some a76
 | 77 => some a77
 | 79 => some a79
 | 80 => some a80
 | 81 => some a81
 | 82 => some a82
 | 83 => some a83
 | 84 => some a84
 | 85 => some a85
 | 86 => some a86
 | 88 => some a88
 | 89 => some a89
 | 90 => some a90
 | 91 => some a91
 | 92 => some a92
 | 93 => some a93
 | 94 => some (primA 1 cheapG)
 | 95 => some a95
 | 96 => some (primA 1 allG)
 | 99 => some (primA 1 assignG)
 | 108 => some a108
 | 109 => some a109
 | 110 => some a110
 | 111 => some a111
 | 112 => some a112
 | 113 => some a113
 | 114 => some (primA 3 linksG)
 | 115 => some a115
 | 116 => some a116
 | 117 => some a117
 | 118 => some a118
 | 119 => some a119
 | 120 => some a120
 | 121 => some a121
 | 122 => some a122
 | 123 => some a123
 | 124 => some a124
 | 128 => some a128
 | 133 => some a133
 | 134 => some a134
 | 136 => some a136
 | 137 => some a137
 | 138 => some a138
 | 139 => some a139
 | 140 => some a140
 | 141 => some a141
 | 142 => some a142
 | 143 => some a143
 | 144 => some a144
 | 145 => some a145
 | 146 => some a146
 | 148 => some a148
 | 149 => some a149
 | 150 => some a150
 | 152 => some a152
 | 153 => some a153
 | 154 => some a154
 | 155 => some a155
 | 156 => some a156
 | 157 => some a157
 | 158 => some a158
 | 159 => some a159
 | 160 => some a160
 | 161 => some a161
 | 162 => some a162
 | 163 => some (toldA 2 [none] ordersG)
 | 165 => some (primA 1 (cloneG 1))
 | 166 => some a166
 | _ => none
theorem env_ok : EnvOK Try.prog env := by
 intro f af h
 unfold env at h
 split at h <;> first | (cases h; done) | skip
 ·cases h; exact .inl ⟨Try.f6, r6, k6, Try.func6, e6⟩
 ·cases h; exact .inl ⟨Try.f12, r12, k12, Try.func12, e12⟩
 ·cases h; exact .inl ⟨Try.f17, r17, k17, Try.func17, e17⟩
 ·cases h; exact .inl ⟨Try.f22, r22, k22, Try.func22, e22⟩
 ·cases h; exact .inl ⟨Try.f23, r23, k23, Try.func23, e23⟩
 ·cases h; exact .inl ⟨Try.f26, r26, k26, Try.func26, e26⟩
 ·cases h; exact .inl ⟨Try.f28, r28, k28, Try.func28, e28⟩
 ·cases h; exact .inl ⟨Try.f32, r32, k32, Try.func32, e32⟩
 ·cases h; exact .inl ⟨Try.f37, r37, k37, Try.func37, e37⟩
 ·cases h; exact .inl ⟨Try.f38, r38, k38, Try.func38, e38⟩
 ·cases h; exact .inl ⟨Try.f39, r39, k39, Try.func39, e39⟩
 ·cases h; exact .inl ⟨Try.f40, r40, k40, Try.func40, e40⟩
 ·cases h; exact .inl ⟨Try.f41, r41, k41, Try.func41, e41⟩
 ·cases h; exact .inl ⟨Try.f42, r42, k42, Try.func42, e42⟩
 ·cases h; exact .inl ⟨Try.f43, r43, k43, Try.func43, e43⟩
 ·cases h; exact .inl ⟨Try.f44, r44, k44, Try.func44, e44⟩
 ·cases h; exact .inl ⟨Try.f45, r45, k45, Try.func45, e45⟩
 ·cases h; exact .inl ⟨Try.f56, r56, k56, Try.func56, e56⟩
 ·cases h; exact .inl ⟨Try.f58, r58, k58, Try.func58, e58⟩
 ·cases h; exact .inl ⟨Try.f63, r63, k63, Try.func63, e63⟩
 ·cases h; exact .inl ⟨Try.f64, r64, k64, Try.func64, e64⟩
 ·cases h; exact .inl ⟨Try.f65, r65, k65, Try.func65, e65⟩
 ·cases h; exact .inl ⟨Try.f66, r66, k66, Try.func66, e66⟩
 ·cases h; exact .inl ⟨Try.f67, r67, k67, Try.func67, e67⟩
 ·cases h; exact .inl ⟨Try.f68, r68, k68, Try.func68, e68⟩
 ·cases h; exact .inl ⟨Try.f69, r69, k69, Try.func69, e69⟩
 ·cases h; exact .inl ⟨Try.f70, r70, k70, Try.func70, e70⟩
 ·cases h; exact .inl ⟨Try.f75, r75, k75, Try.func75, e75⟩
 ·cases h; exact .inl ⟨Try.f76, r76, k76, Try.func76, e76⟩
 ·cases h; exact .inl ⟨Try.f77, r77, k77, Try.func77, e77⟩
 ·cases h; exact .inl ⟨Try.f79, r79, k79, Try.func79, e79⟩
 ·cases h; exact .inl ⟨Try.f80, r80, k80, Try.func80, e80⟩
 ·cases h; exact .inl ⟨Try.f81, r81, k81, Try.func81, e81⟩
 ·cases h; exact .inl ⟨Try.f82, r82, k82, Try.func82, e82⟩
 ·cases h; exact .inl ⟨Try.f83, r83, k83, Try.func83, e83⟩
 ·cases h; exact .inl ⟨Try.f84, r84, k84, Try.func84, e84⟩
 ·cases h; exact .inl ⟨Try.f85, r85, k85, Try.func85, e85⟩
 ·cases h; exact .inl ⟨Try.f86, r86, k86, Try.func86, e86⟩
 ·cases h; exact .inl ⟨Try.f88, r88, k88, Try.func88, e88⟩
 ·cases h; exact .inl ⟨Try.f89, r89, k89, Try.func89, e89⟩
 ·cases h; exact .inl ⟨Try.f90, r90, k90, Try.func90, e90⟩
 ·cases h; exact .inl ⟨Try.f91, r91, k91, Try.func91, e91⟩
 ·cases h; exact .inl ⟨Try.f92, r92, k92, Try.func92, e92⟩
 ·cases h; exact .inl ⟨Try.f93, r93, k93, Try.func93, e93⟩
 ·cases h; exact .inr (.inl ⟨_, _, rfl, prim94⟩)
 ·cases h; exact .inl ⟨Try.f95, r95, k95, Try.func95, e95⟩
 ·cases h; exact .inr (.inl ⟨_, _, rfl, prim96⟩)
 ·cases h; exact .inr (.inl ⟨_, _, rfl, prim99⟩)
 ·cases h; exact .inl ⟨Try.f108, r108, k108, Try.func108, e108⟩
 ·cases h; exact .inl ⟨Try.f109, r109, k109, Try.func109, e109⟩
 ·cases h; exact .inl ⟨Try.f110, r110, k110, Try.func110, e110⟩
 ·cases h; exact .inl ⟨Try.f111, r111, k111, Try.func111, e111⟩
 ·cases h; exact .inl ⟨Try.f112, r112, k112, Try.func112, e112⟩
 ·cases h; exact .inl ⟨Try.f113, r113, k113, Try.func113, e113⟩
 ·cases h; exact .inr (.inl ⟨_, _, rfl, prim114⟩)
 ·cases h; exact .inl ⟨Try.f115, r115, k115, Try.func115, e115⟩
 ·cases h; exact .inl ⟨Try.f116, r116, k116, Try.func116, e116⟩
 ·cases h; exact .inl ⟨Try.f117, r117, k117, Try.func117, e117⟩
 ·cases h; exact .inl ⟨Try.f118, r118, k118, Try.func118, e118⟩
 ·cases h; exact .inl ⟨Try.f119, r119, k119, Try.func119, e119⟩
 ·cases h; exact .inl ⟨Try.f120, r120, k120, Try.func120, e120⟩
 ·cases h; exact .inl ⟨Try.f121, r121, k121, Try.func121, e121⟩
 ·cases h; exact .inl ⟨Try.f122, r122, k122, Try.func122, e122⟩
 ·cases h; exact .inl ⟨Try.f123, r123, k123, Try.func123, e123⟩
 ·cases h; exact .inl ⟨Try.f124, r124, k124, Try.func124, e124⟩
 ·cases h; exact .inl ⟨Try.f128, r128, k128, Try.func128, e128⟩
 ·cases h; exact .inl ⟨Try.f133, r133, k133, Try.func133, e133⟩
 ·cases h; exact .inl ⟨Try.f134, r134, k134, Try.func134, e134⟩
 ·cases h; exact .inl ⟨Try.f136, r136, k136, Try.func136, e136⟩
 ·cases h; exact .inl ⟨Try.f137, r137, k137, Try.func137, e137⟩
 ·cases h; exact .inl ⟨Try.f138, r138, k138, Try.func138, e138⟩
 ·cases h; exact .inl ⟨Try.f139, r139, k139, Try.func139, e139⟩
 ·cases h; exact .inl ⟨Try.f140, r140, k140, Try.func140, e140⟩
 ·cases h; exact .inl ⟨Try.f141, r141, k141, Try.func141, e141⟩
 ·cases h; exact .inl ⟨Try.f142, r142, k142, Try.func142, e142⟩
 ·cases h; exact .inl ⟨Try.f143, r143, k143, Try.func143, e143⟩
 ·cases h; exact .inl ⟨Try.f144, r144, k144, Try.func144, e144⟩
 ·cases h; exact .inl ⟨Try.f145, r145, k145, Try.func145, e145⟩
 ·cases h; exact .inl ⟨Try.f146, r146, k146, Try.func146, e146⟩
 ·cases h; exact .inl ⟨Try.f148, r148, k148, Try.func148, e148⟩
 ·cases h; exact .inl ⟨Try.f149, r149, k149, Try.func149, e149⟩
 ·cases h; exact .inl ⟨Try.f150, r150, k150, Try.func150, e150⟩
 ·cases h; exact .inl ⟨Try.f152, r152, k152, Try.func152, e152⟩
 ·cases h; exact .inl ⟨Try.f153, r153, k153, Try.func153, e153⟩
 ·cases h; exact .inl ⟨Try.f154, r154, k154, Try.func154, e154⟩
 ·cases h; exact .inl ⟨Try.f155, r155, k155, Try.func155, e155⟩
 ·cases h; exact .inl ⟨Try.f156, r156, k156, Try.func156, e156⟩
 ·cases h; exact .inl ⟨Try.f157, r157, k157, Try.func157, e157⟩
 ·cases h; exact .inl ⟨Try.f158, r158, k158, Try.func158, e158⟩
 ·cases h; exact .inl ⟨Try.f159, r159, k159, Try.func159, e159⟩
 ·cases h; exact .inl ⟨Try.f160, r160, k160, Try.func160, e160⟩
 ·cases h; exact .inl ⟨Try.f161, r161, k161, Try.func161, e161⟩
 ·cases h; exact .inl ⟨Try.f162, r162, k162, Try.func162, e162⟩
 ·cases h; exact .inr (.inr (.inr ⟨_, _, _, rfl, told163⟩))
 ·cases h; exact .inr (.inl ⟨1, _, rfl, clone165⟩)
 ·cases h; exact .inl ⟨Try.f166, r166, k166, Try.func166, e166⟩
end Gv
