/- The program's functions, as the abstract machine runs them. -/
import Derived.Test.YtkbahledgljaoaaGreatGvEnvA
import Derived.Test.YtkbahledgljaoaaGreatGvEnvB
import Derived.Test.YtkbahledgljaoaaGreatGvTold
namespace Gv
open Go Go.Proofs
set_option maxRecDepth 100000
set_option maxHeartbeats 4000000

def env (f : Nat) : Option AFn := match f with
  | 2 => some a2
  | 3 => some a3
  | 4 => some a4
  | 8 => some a8
  | 9 => some a9
  | 10 => some a10
  | 11 => some a11
  | 12 => some a12
  | 15 => some a15
  | 16 => some a16
  | 17 => some a17
  | 18 => some a18
  | 19 => some a19
  | 20 => some a20
  | 23 => some a23
  | 24 => some a24
  | 25 => some a25
  | 26 => some a26
  | 27 => some a27
  | 28 => some a28
  | 29 => some a29
  | 30 => some a30
  | 31 => some a31
  | 32 => some a32
  | 38 => some a38
  | 53 => some a53
  | 54 => some (primA 2 ceilH)
  | 55 => some a55
  | 56 => some a56
  | 57 => some a57
  | 58 => some (primA 2 eyeG)
  | 59 => some a59
  | 60 => some a60
  | 61 => some a61
  | 62 => some a62
  | 63 => some a63
  | 64 => some a64
  | 65 => some a65
  | 66 => some a66
  | 69 => some a69
  | 70 => some a70
  | 71 => some a71
  | 72 => some a72
  | 73 => some a73
  | 74 => some a74
  | 75 => some a75
  | 76 => some a76
  | 77 => some a77
  | 78 => some a78
  | 79 => some a79
  | 80 => some a80
  | 81 => some a81
  | 82 => some a82
  | 83 => some a83
  | 84 => some a84
  | 95 => some a95
  | 96 => some a96
  | 101 => some a101
  | 102 => some a102
  | 103 => some a103
  | 104 => some (primA 2 turnsG)
  | 105 => some a105
  | 110 => some a110
  | 111 => some a111
  | 112 => some a112
  | 114 => some a114
  | 115 => some a115
  | 116 => some a116
  | 117 => some a117
  | 118 => some a118
  | 119 => some a119
  | 120 => some a120
  | 121 => some a121
  | 122 => some a122
  | 123 => some a123
  | 124 => some a124
  | 125 => some a125
  | 130 => some (primA 3 grownG)
  | 131 => some a131
  | 132 => some a132
  | 133 => some a133
  | 136 => some a136
  | 137 => some a137
  | 138 => some a138
  | 140 => some a140
  | 142 => some a142
  | 143 => some a143
  | 144 => some a144
  | 145 => some a145
  | 146 => some a146
  | 147 => some a147
  | 148 => some a148
  | 149 => some a149
  | 150 => some a150
  | 152 => some (primA 1 midG)
  | 153 => some a153
  | 154 => some a154
  | 159 => some a159
  | 162 => some a162
  | 163 => some a163
  | 164 => some a164
  | 165 => some a165
  | 166 => some a166
  | 167 => some a167
  | 182 => some a182
  | _ => none
theorem env_ok : EnvOK Tryz.prog env := by
  intro f af h
  unfold env at h
  split at h <;> first | (cases h; done) | skip
  · cases h; exact .inl ⟨Tryz.f2, r2, k2, Tryz.func2, e2⟩
  · cases h; exact .inl ⟨Tryz.f3, r3, k3, Tryz.func3, e3⟩
  · cases h; exact .inl ⟨Tryz.f4, r4, k4, Tryz.func4, e4⟩
  · cases h; exact .inl ⟨Tryz.f8, r8, k8, Tryz.func8, e8⟩
  · cases h; exact .inl ⟨Tryz.f9, r9, k9, Tryz.func9, e9⟩
  · cases h; exact .inl ⟨Tryz.f10, r10, k10, Tryz.func10, e10⟩
  · cases h; exact .inl ⟨Tryz.f11, r11, k11, Tryz.func11, e11⟩
  · cases h; exact .inl ⟨Tryz.f12, r12, k12, Tryz.func12, e12⟩
  · cases h; exact .inl ⟨Tryz.f15, r15, k15, Tryz.func15, e15⟩
  · cases h; exact .inl ⟨Tryz.f16, r16, k16, Tryz.func16, e16⟩
  · cases h; exact .inl ⟨Tryz.f17, r17, k17, Tryz.func17, e17⟩
  · cases h; exact .inl ⟨Tryz.f18, r18, k18, Tryz.func18, e18⟩
  · cases h; exact .inl ⟨Tryz.f19, r19, k19, Tryz.func19, e19⟩
  · cases h; exact .inl ⟨Tryz.f20, r20, k20, Tryz.func20, e20⟩
  · cases h; exact .inl ⟨Tryz.f23, r23, k23, Tryz.func23, e23⟩
  · cases h; exact .inl ⟨Tryz.f24, r24, k24, Tryz.func24, e24⟩
  · cases h; exact .inl ⟨Tryz.f25, r25, k25, Tryz.func25, e25⟩
  · cases h; exact .inl ⟨Tryz.f26, r26, k26, Tryz.func26, e26⟩
  · cases h; exact .inl ⟨Tryz.f27, r27, k27, Tryz.func27, e27⟩
  · cases h; exact .inl ⟨Tryz.f28, r28, k28, Tryz.func28, e28⟩
  · cases h; exact .inl ⟨Tryz.f29, r29, k29, Tryz.func29, e29⟩
  · cases h; exact .inl ⟨Tryz.f30, r30, k30, Tryz.func30, e30⟩
  · cases h; exact .inl ⟨Tryz.f31, r31, k31, Tryz.func31, e31⟩
  · cases h; exact .inl ⟨Tryz.f32, r32, k32, Tryz.func32, e32⟩
  · cases h; exact .inl ⟨Tryz.f38, r38, k38, Tryz.func38, e38⟩
  · cases h; exact .inl ⟨Tryz.f53, r53, k53, Tryz.func53, e53⟩
  · cases h; exact .inr (.inl ⟨_, _, rfl, ceil35z⟩)
  · cases h; exact .inl ⟨Tryz.f55, r55, k55, Tryz.func55, e55⟩
  · cases h; exact .inl ⟨Tryz.f56, r56, k56, Tryz.func56, e56⟩
  · cases h; exact .inl ⟨Tryz.f57, r57, k57, Tryz.func57, e57⟩
  · cases h; exact .inr (.inl ⟨_, _, rfl, eye43⟩)
  · cases h; exact .inl ⟨Tryz.f59, r59, k59, Tryz.func59, e59⟩
  · cases h; exact .inl ⟨Tryz.f60, r60, k60, Tryz.func60, e60⟩
  · cases h; exact .inl ⟨Tryz.f61, r61, k61, Tryz.func61, e61⟩
  · cases h; exact .inl ⟨Tryz.f62, r62, k62, Tryz.func62, e62⟩
  · cases h; exact .inl ⟨Tryz.f63, r63, k63, Tryz.func63, e63⟩
  · cases h; exact .inl ⟨Tryz.f64, r64, k64, Tryz.func64, e64⟩
  · cases h; exact .inl ⟨Tryz.f65, r65, k65, Tryz.func65, e65⟩
  · cases h; exact .inl ⟨Tryz.f66, r66, k66, Tryz.func66, e66⟩
  · cases h; exact .inl ⟨Tryz.f69, r69, k69, Tryz.func69, e69⟩
  · cases h; exact .inl ⟨Tryz.f70, r70, k70, Tryz.func70, e70⟩
  · cases h; exact .inl ⟨Tryz.f71, r71, k71, Tryz.func71, e71⟩
  · cases h; exact .inl ⟨Tryz.f72, r72, k72, Tryz.func72, e72⟩
  · cases h; exact .inl ⟨Tryz.f73, r73, k73, Tryz.func73, e73⟩
  · cases h; exact .inl ⟨Tryz.f74, r74, k74, Tryz.func74, e74⟩
  · cases h; exact .inl ⟨Tryz.f75, r75, k75, Tryz.func75, e75⟩
  · cases h; exact .inl ⟨Tryz.f76, r76, k76, Tryz.func76, e76⟩
  · cases h; exact .inl ⟨Tryz.f77, r77, k77, Tryz.func77, e77⟩
  · cases h; exact .inl ⟨Tryz.f78, r78, k78, Tryz.func78, e78⟩
  · cases h; exact .inl ⟨Tryz.f79, r79, k79, Tryz.func79, e79⟩
  · cases h; exact .inl ⟨Tryz.f80, r80, k80, Tryz.func80, e80⟩
  · cases h; exact .inl ⟨Tryz.f81, r81, k81, Tryz.func81, e81⟩
  · cases h; exact .inl ⟨Tryz.f82, r82, k82, Tryz.func82, e82⟩
  · cases h; exact .inl ⟨Tryz.f83, r83, k83, Tryz.func83, e83⟩
  · cases h; exact .inl ⟨Tryz.f84, r84, k84, Tryz.func84, e84⟩
  · cases h; exact .inl ⟨Tryz.f95, r95, k95, Tryz.func95, e95⟩
  · cases h; exact .inl ⟨Tryz.f96, r96, k96, Tryz.func96, e96⟩
  · cases h; exact .inl ⟨Tryz.f101, r101, k101, Tryz.func101, e101⟩
  · cases h; exact .inl ⟨Tryz.f102, r102, k102, Tryz.func102, e102⟩
  · cases h; exact .inl ⟨Tryz.f103, r103, k103, Tryz.func103, e103⟩
  · cases h; exact .inr (.inl ⟨_, _, rfl, turns85⟩)
  · cases h; exact .inl ⟨Tryz.f105, r105, k105, Tryz.func105, e105⟩
  · cases h; exact .inl ⟨Tryz.f110, r110, k110, Tryz.func110, e110⟩
  · cases h; exact .inl ⟨Tryz.f111, r111, k111, Tryz.func111, e111⟩
  · cases h; exact .inl ⟨Tryz.f112, r112, k112, Tryz.func112, e112⟩
  · cases h; exact .inl ⟨Tryz.f114, r114, k114, Tryz.func114, e114⟩
  · cases h; exact .inl ⟨Tryz.f115, r115, k115, Tryz.func115, e115⟩
  · cases h; exact .inl ⟨Tryz.f116, r116, k116, Tryz.func116, e116⟩
  · cases h; exact .inl ⟨Tryz.f117, r117, k117, Tryz.func117, e117⟩
  · cases h; exact .inl ⟨Tryz.f118, r118, k118, Tryz.func118, e118⟩
  · cases h; exact .inl ⟨Tryz.f119, r119, k119, Tryz.func119, e119⟩
  · cases h; exact .inl ⟨Tryz.f120, r120, k120, Tryz.func120, e120⟩
  · cases h; exact .inl ⟨Tryz.f121, r121, k121, Tryz.func121, e121⟩
  · cases h; exact .inl ⟨Tryz.f122, r122, k122, Tryz.func122, e122⟩
  · cases h; exact .inl ⟨Tryz.f123, r123, k123, Tryz.func123, e123⟩
  · cases h; exact .inl ⟨Tryz.f124, r124, k124, Tryz.func124, e124⟩
  · cases h; exact .inl ⟨Tryz.f125, r125, k125, Tryz.func125, e125⟩
  · cases h; exact .inr (.inl ⟨_, _, rfl, grown98⟩)
  · cases h; exact .inl ⟨Tryz.f131, r131, k131, Tryz.func131, e131⟩
  · cases h; exact .inl ⟨Tryz.f132, r132, k132, Tryz.func132, e132⟩
  · cases h; exact .inl ⟨Tryz.f133, r133, k133, Tryz.func133, e133⟩
  · cases h; exact .inl ⟨Tryz.f136, r136, k136, Tryz.func136, e136⟩
  · cases h; exact .inl ⟨Tryz.f137, r137, k137, Tryz.func137, e137⟩
  · cases h; exact .inl ⟨Tryz.f138, r138, k138, Tryz.func138, e138⟩
  · cases h; exact .inl ⟨Tryz.f140, r140, k140, Tryz.func140, e140⟩
  · cases h; exact .inl ⟨Tryz.f142, r142, k142, Tryz.func142, e142⟩
  · cases h; exact .inl ⟨Tryz.f143, r143, k143, Tryz.func143, e143⟩
  · cases h; exact .inl ⟨Tryz.f144, r144, k144, Tryz.func144, e144⟩
  · cases h; exact .inl ⟨Tryz.f145, r145, k145, Tryz.func145, e145⟩
  · cases h; exact .inl ⟨Tryz.f146, r146, k146, Tryz.func146, e146⟩
  · cases h; exact .inl ⟨Tryz.f147, r147, k147, Tryz.func147, e147⟩
  · cases h; exact .inl ⟨Tryz.f148, r148, k148, Tryz.func148, e148⟩
  · cases h; exact .inl ⟨Tryz.f149, r149, k149, Tryz.func149, e149⟩
  · cases h; exact .inl ⟨Tryz.f150, r150, k150, Tryz.func150, e150⟩
  · cases h; exact .inr (.inl ⟨_, _, rfl, mid82⟩)
  · cases h; exact .inl ⟨Tryz.f153, r153, k153, Tryz.func153, e153⟩
  · cases h; exact .inl ⟨Tryz.f154, r154, k154, Tryz.func154, e154⟩
  · cases h; exact .inl ⟨Tryz.f159, r159, k159, Tryz.func159, e159⟩
  · cases h; exact .inl ⟨Tryz.f162, r162, k162, Tryz.func162, e162⟩
  · cases h; exact .inl ⟨Tryz.f163, r163, k163, Tryz.func163, e163⟩
  · cases h; exact .inl ⟨Tryz.f164, r164, k164, Tryz.func164, e164⟩
  · cases h; exact .inl ⟨Tryz.f165, r165, k165, Tryz.func165, e165⟩
  · cases h; exact .inl ⟨Tryz.f166, r166, k166, Tryz.func166, e166⟩
  · cases h; exact .inl ⟨Tryz.f167, r167, k167, Tryz.func167, e167⟩
  · cases h; exact .inl ⟨Tryz.f182, r182, k182, Tryz.func182, e182⟩
end Gv
