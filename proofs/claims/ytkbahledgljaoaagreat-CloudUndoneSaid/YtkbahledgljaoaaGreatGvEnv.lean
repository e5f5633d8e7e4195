/- The program's functions, as the abstract machine runs them. -/
import Derived.Test.YtkbahledgljaoaaGreatGvEnvA
import Derived.Test.YtkbahledgljaoaaGreatGvEnvB
import Derived.Test.YtkbahledgljaoaaGreatGvTold
namespace Gv
open Go Go.Proofs
set_option maxRecDepth 100000

def env (f : Nat) : Option AFn := match f with
  | 3 => some a3
  | 5 => some a5
  | 6 => some a6
  | 7 => some a7
  | 8 => some a8
  | 9 => some a9
  | 10 => some a10
  | 11 => some a11
  | 12 => some a12
  | 13 => some a13
  | 14 => some a14
  | 15 => some a15
  | 16 => some a16
  | 17 => some a17
  | 18 => some a18
  | 19 => some a19
  | 20 => some a20
  | 21 => some a21
  | 22 => some a22
  | 23 => some a23
  | 24 => some a24
  | 25 => some a25
  | 26 => some a26
  | 31 => some a31
  | 32 => some a32
  | 33 => some a33
  | 34 => some a34
  | 35 => some a35
  | 36 => some a36
  | 37 => some a37
  | 38 => some a38
  | 39 => some a39
  | 40 => some a40
  | 41 => some a41
  | 42 => some a42
  | 43 => some a43
  | 44 => some a44
  | 45 => some a45
  | 46 => some a46
  | 47 => some a47
  | 48 => some a48
  | 49 => some a49
  | 50 => some a50
  | 51 => some a51
  | 52 => some a52
  | 53 => some a53
  | 54 => some (primA 2 ceilH)
  | 55 => some a55
  | 56 => some a56
  | 57 => some a57
  | 58 => some (primA 2 eyeG)
  | 59 => some a59
  | 60 => some a60
  | 61 => some a61
  | 62 => some a62
  | 63 => some a63
  | 64 => some a64
  | 65 => some a65
  | 66 => some a66
  | 67 => some a67
  | 68 => some a68
  | 69 => some a69
  | 70 => some a70
  | 71 => some a71
  | 72 => some a72
  | 73 => some a73
  | 74 => some a74
  | 75 => some a75
  | 76 => some a76
  | 82 => some a82
  | 83 => some a83
  | 84 => some a84
  | 85 => some a85
  | 87 => some a87
  | 88 => some a88
  | 89 => some a89
  | 90 => some a90
  | 91 => some a91
  | 92 => some a92
  | 93 => some a93
  | 94 => some a94
  | 95 => some a95
  | 96 => some a96
  | 101 => some a101
  | 102 => some a102
  | 103 => some a103
  | 104 => some (primA 2 turnsG)
  | 105 => some a105
  | 110 => some a110
  | 111 => some a111
  | 112 => some a112
  | 113 => some a113
  | 114 => some a114
  | 115 => some a115
  | 116 => some a116
  | 117 => some a117
  | 126 => some a126
  | 127 => some a127
  | 128 => some a128
  | 129 => some a129
  | 130 => some (primA 3 grownG)
  | 131 => some a131
  | 132 => some a132
  | 133 => some a133
  | 136 => some a136
  | 137 => some a137
  | 138 => some a138
  | 140 => some a140
  | 141 => some a141
  | 142 => some a142
  | 143 => some a143
  | 151 => some a151
  | 152 => some (primA 1 midG)
  | 153 => some a153
  | 154 => some a154
  | 159 => some a159
  | _ => none
theorem env_ok : EnvOK Tryz.prog env := by
  intro f af h
  unfold env at h
  split at h <;> first | (cases h; done) | skip
  · cases h; exact .inl ⟨Tryz.f3, r3, k3, Tryz.func3, e3⟩
  · cases h; exact .inl ⟨Tryz.f5, r5, k5, Tryz.func5, e5⟩
  · cases h; exact .inl ⟨Tryz.f6, r6, k6, Tryz.func6, e6⟩
  · cases h; exact .inl ⟨Tryz.f7, r7, k7, Tryz.func7, e7⟩
  · cases h; exact .inl ⟨Tryz.f8, r8, k8, Tryz.func8, e8⟩
  · cases h; exact .inl ⟨Tryz.f9, r9, k9, Tryz.func9, e9⟩
  · cases h; exact .inl ⟨Tryz.f10, r10, k10, Tryz.func10, e10⟩
  · cases h; exact .inl ⟨Tryz.f11, r11, k11, Tryz.func11, e11⟩
  · cases h; exact .inl ⟨Tryz.f12, r12, k12, Tryz.func12, e12⟩
  · cases h; exact .inl ⟨Tryz.f13, r13, k13, Tryz.func13, e13⟩
  · cases h; exact .inl ⟨Tryz.f14, r14, k14, Tryz.func14, e14⟩
  · cases h; exact .inl ⟨Tryz.f15, r15, k15, Tryz.func15, e15⟩
  · cases h; exact .inl ⟨Tryz.f16, r16, k16, Tryz.func16, e16⟩
  · cases h; exact .inl ⟨Tryz.f17, r17, k17, Tryz.func17, e17⟩
  · cases h; exact .inl ⟨Tryz.f18, r18, k18, Tryz.func18, e18⟩
  · cases h; exact .inl ⟨Tryz.f19, r19, k19, Tryz.func19, e19⟩
  · cases h; exact .inl ⟨Tryz.f20, r20, k20, Tryz.func20, e20⟩
  · cases h; exact .inl ⟨Tryz.f21, r21, k21, Tryz.func21, e21⟩
  · cases h; exact .inl ⟨Tryz.f22, r22, k22, Tryz.func22, e22⟩
  · cases h; exact .inl ⟨Tryz.f23, r23, k23, Tryz.func23, e23⟩
  · cases h; exact .inl ⟨Tryz.f24, r24, k24, Tryz.func24, e24⟩
  · cases h; exact .inl ⟨Tryz.f25, r25, k25, Tryz.func25, e25⟩
  · cases h; exact .inl ⟨Tryz.f26, r26, k26, Tryz.func26, e26⟩
  · cases h; exact .inl ⟨Tryz.f31, r31, k31, Tryz.func31, e31⟩
  · cases h; exact .inl ⟨Tryz.f32, r32, k32, Tryz.func32, e32⟩
  · cases h; exact .inl ⟨Tryz.f33, r33, k33, Tryz.func33, e33⟩
  · cases h; exact .inl ⟨Tryz.f34, r34, k34, Tryz.func34, e34⟩
  · cases h; exact .inl ⟨Tryz.f35, r35, k35, Tryz.func35, e35⟩
  · cases h; exact .inl ⟨Tryz.f36, r36, k36, Tryz.func36, e36⟩
  · cases h; exact .inl ⟨Tryz.f37, r37, k37, Tryz.func37, e37⟩
  · cases h; exact .inl ⟨Tryz.f38, r38, k38, Tryz.func38, e38⟩
  · cases h; exact .inl ⟨Tryz.f39, r39, k39, Tryz.func39, e39⟩
  · cases h; exact .inl ⟨Tryz.f40, r40, k40, Tryz.func40, e40⟩
  · cases h; exact .inl ⟨Tryz.f41, r41, k41, Tryz.func41, e41⟩
  · cases h; exact .inl ⟨Tryz.f42, r42, k42, Tryz.func42, e42⟩
  · cases h; exact .inl ⟨Tryz.f43, r43, k43, Tryz.func43, e43⟩
  · cases h; exact .inl ⟨Tryz.f44, r44, k44, Tryz.func44, e44⟩
  · cases h; exact .inl ⟨Tryz.f45, r45, k45, Tryz.func45, e45⟩
  · cases h; exact .inl ⟨Tryz.f46, r46, k46, Tryz.func46, e46⟩
  · cases h; exact .inl ⟨Tryz.f47, r47, k47, Tryz.func47, e47⟩
  · cases h; exact .inl ⟨Tryz.f48, r48, k48, Tryz.func48, e48⟩
  · cases h; exact .inl ⟨Tryz.f49, r49, k49, Tryz.func49, e49⟩
  · cases h; exact .inl ⟨Tryz.f50, r50, k50, Tryz.func50, e50⟩
  · cases h; exact .inl ⟨Tryz.f51, r51, k51, Tryz.func51, e51⟩
  · cases h; exact .inl ⟨Tryz.f52, r52, k52, Tryz.func52, e52⟩
  · cases h; exact .inl ⟨Tryz.f53, r53, k53, Tryz.func53, e53⟩
  · cases h; exact .inr (.inl ⟨_, _, rfl, ceil35z⟩)
  · cases h; exact .inl ⟨Tryz.f55, r55, k55, Tryz.func55, e55⟩
  · cases h; exact .inl ⟨Tryz.f56, r56, k56, Tryz.func56, e56⟩
  · cases h; exact .inl ⟨Tryz.f57, r57, k57, Tryz.func57, e57⟩
  · cases h; exact .inr (.inl ⟨_, _, rfl, eye43⟩)
  · cases h; exact .inl ⟨Tryz.f59, r59, k59, Tryz.func59, e59⟩
  · cases h; exact .inl ⟨Tryz.f60, r60, k60, Tryz.func60, e60⟩
  · cases h; exact .inl ⟨Tryz.f61, r61, k61, Tryz.func61, e61⟩
  · cases h; exact .inl ⟨Tryz.f62, r62, k62, Tryz.func62, e62⟩
  · cases h; exact .inl ⟨Tryz.f63, r63, k63, Tryz.func63, e63⟩
  · cases h; exact .inl ⟨Tryz.f64, r64, k64, Tryz.func64, e64⟩
  · cases h; exact .inl ⟨Tryz.f65, r65, k65, Tryz.func65, e65⟩
  · cases h; exact .inl ⟨Tryz.f66, r66, k66, Tryz.func66, e66⟩
  · cases h; exact .inl ⟨Tryz.f67, r67, k67, Tryz.func67, e67⟩
  · cases h; exact .inl ⟨Tryz.f68, r68, k68, Tryz.func68, e68⟩
  · cases h; exact .inl ⟨Tryz.f69, r69, k69, Tryz.func69, e69⟩
  · cases h; exact .inl ⟨Tryz.f70, r70, k70, Tryz.func70, e70⟩
  · cases h; exact .inl ⟨Tryz.f71, r71, k71, Tryz.func71, e71⟩
  · cases h; exact .inl ⟨Tryz.f72, r72, k72, Tryz.func72, e72⟩
  · cases h; exact .inl ⟨Tryz.f73, r73, k73, Tryz.func73, e73⟩
  · cases h; exact .inl ⟨Tryz.f74, r74, k74, Tryz.func74, e74⟩
  · cases h; exact .inl ⟨Tryz.f75, r75, k75, Tryz.func75, e75⟩
  · cases h; exact .inl ⟨Tryz.f76, r76, k76, Tryz.func76, e76⟩
  · cases h; exact .inl ⟨Tryz.f82, r82, k82, Tryz.func82, e82⟩
  · cases h; exact .inl ⟨Tryz.f83, r83, k83, Tryz.func83, e83⟩
  · cases h; exact .inl ⟨Tryz.f84, r84, k84, Tryz.func84, e84⟩
  · cases h; exact .inl ⟨Tryz.f85, r85, k85, Tryz.func85, e85⟩
  · cases h; exact .inl ⟨Tryz.f87, r87, k87, Tryz.func87, e87⟩
  · cases h; exact .inl ⟨Tryz.f88, r88, k88, Tryz.func88, e88⟩
  · cases h; exact .inl ⟨Tryz.f89, r89, k89, Tryz.func89, e89⟩
  · cases h; exact .inl ⟨Tryz.f90, r90, k90, Tryz.func90, e90⟩
  · cases h; exact .inl ⟨Tryz.f91, r91, k91, Tryz.func91, e91⟩
  · cases h; exact .inl ⟨Tryz.f92, r92, k92, Tryz.func92, e92⟩
  · cases h; exact .inl ⟨Tryz.f93, r93, k93, Tryz.func93, e93⟩
  · cases h; exact .inl ⟨Tryz.f94, r94, k94, Tryz.func94, e94⟩
  · cases h; exact .inl ⟨Tryz.f95, r95, k95, Tryz.func95, e95⟩
  · cases h; exact .inl ⟨Tryz.f96, r96, k96, Tryz.func96, e96⟩
  · cases h; exact .inl ⟨Tryz.f101, r101, k101, Tryz.func101, e101⟩
  · cases h; exact .inl ⟨Tryz.f102, r102, k102, Tryz.func102, e102⟩
  · cases h; exact .inl ⟨Tryz.f103, r103, k103, Tryz.func103, e103⟩
  · cases h; exact .inr (.inl ⟨_, _, rfl, turns85⟩)
  · cases h; exact .inl ⟨Tryz.f105, r105, k105, Tryz.func105, e105⟩
  · cases h; exact .inl ⟨Tryz.f110, r110, k110, Tryz.func110, e110⟩
  · cases h; exact .inl ⟨Tryz.f111, r111, k111, Tryz.func111, e111⟩
  · cases h; exact .inl ⟨Tryz.f112, r112, k112, Tryz.func112, e112⟩
  · cases h; exact .inl ⟨Tryz.f113, r113, k113, Tryz.func113, e113⟩
  · cases h; exact .inl ⟨Tryz.f114, r114, k114, Tryz.func114, e114⟩
  · cases h; exact .inl ⟨Tryz.f115, r115, k115, Tryz.func115, e115⟩
  · cases h; exact .inl ⟨Tryz.f116, r116, k116, Tryz.func116, e116⟩
  · cases h; exact .inl ⟨Tryz.f117, r117, k117, Tryz.func117, e117⟩
  · cases h; exact .inl ⟨Tryz.f126, r126, k126, Tryz.func126, e126⟩
  · cases h; exact .inl ⟨Tryz.f127, r127, k127, Tryz.func127, e127⟩
  · cases h; exact .inl ⟨Tryz.f128, r128, k128, Tryz.func128, e128⟩
  · cases h; exact .inl ⟨Tryz.f129, r129, k129, Tryz.func129, e129⟩
  · cases h; exact .inr (.inl ⟨_, _, rfl, grown98⟩)
  · cases h; exact .inl ⟨Tryz.f131, r131, k131, Tryz.func131, e131⟩
  · cases h; exact .inl ⟨Tryz.f132, r132, k132, Tryz.func132, e132⟩
  · cases h; exact .inl ⟨Tryz.f133, r133, k133, Tryz.func133, e133⟩
  · cases h; exact .inl ⟨Tryz.f136, r136, k136, Tryz.func136, e136⟩
  · cases h; exact .inl ⟨Tryz.f137, r137, k137, Tryz.func137, e137⟩
  · cases h; exact .inl ⟨Tryz.f138, r138, k138, Tryz.func138, e138⟩
  · cases h; exact .inl ⟨Tryz.f140, r140, k140, Tryz.func140, e140⟩
  · cases h; exact .inl ⟨Tryz.f141, r141, k141, Tryz.func141, e141⟩
  · cases h; exact .inl ⟨Tryz.f142, r142, k142, Tryz.func142, e142⟩
  · cases h; exact .inl ⟨Tryz.f143, r143, k143, Tryz.func143, e143⟩
  · cases h; exact .inl ⟨Tryz.f151, r151, k151, Tryz.func151, e151⟩
  · cases h; exact .inr (.inl ⟨_, _, rfl, mid82⟩)
  · cases h; exact .inl ⟨Tryz.f153, r153, k153, Tryz.func153, e153⟩
  · cases h; exact .inl ⟨Tryz.f154, r154, k154, Tryz.func154, e154⟩
  · cases h; exact .inl ⟨Tryz.f159, r159, k159, Tryz.func159, e159⟩
end Gv
