/- The program's functions, as the abstract machine runs them. -/
import Derived.Test.YtpcpegneobkbdaaGvEnvA
import Derived.Test.YtpcpegneobkbdaaGvEnvB
namespace Gv
open Go Go.Proofs
set_option maxRecDepth 100000

def env (f : Nat) : Option AFn := match f with
  | 5 => some a5
  | 7 => some a7
  | 8 => some a8
  | 15 => some a15
  | 16 => some a16
  | 17 => some a17
  | 18 => some a18
  | 19 => some a19
  | 20 => some a20
  | 21 => some a21
  | 22 => some a22
  | 23 => some a23
  | 24 => some a24
  | 25 => some a25
  | 26 => some a26
  | 27 => some a27
  | 28 => some a28
  | 29 => some a29
  | 30 => some a30
  | 31 => some a31
  | 32 => some a32
  | 33 => some a33
  | 34 => some a34
  | 35 => some a35
  | 36 => some a36
  | 37 => some a37
  | 38 => some a38
  | 39 => some a39
  | 40 => some a40
  | 41 => some a41
  | 42 => some a42
  | 43 => some a43
  | 44 => some a44
  | 48 => some a48
  | 49 => some a49
  | 50 => some a50
  | 51 => some a51
  | 52 => some a52
  | 61 => some a61
  | 63 => some a63
  | 64 => some a64
  | 65 => some a65
  | 66 => some a66
  | 67 => some a67
  | 68 => some a68
  | 70 => some a70
  | 76 => some a76
  | 78 => some a78
  | 80 => some a80
  | 87 => some a87
  | 88 => some a88
  | 89 => some a89
  | 90 => some a90
  | 91 => some a91
  | 92 => some a92
  | 93 => some a93
  | 94 => some a94
  | 95 => some a95
  | 96 => some a96
  | 97 => some a97
  | 98 => some a98
  | 99 => some a99
  | 100 => some a100
  | 101 => some a101
  | 102 => some a102
  | 103 => some a103
  | 104 => some a104
  | 105 => some a105
  | 106 => some a106
  | 107 => some a107
  | 109 => some a109
  | 110 => some a110
  | 111 => some a111
  | 112 => some a112
  | 113 => some a113
  | 117 => some a117
  | 120 => some a120
  | 121 => some a121
  | 122 => some a122
  | 123 => some a123
  | 124 => some a124
  | 125 => some a125
  | 126 => some a126
  | 133 => some a133
  | 134 => some a134
  | 135 => some a135
  | 136 => some a136
  | 138 => some a138
  | 139 => some a139
  | 140 => some a140
  | 141 => some a141
  | 142 => some a142
  | 143 => some a143
  | 144 => some a144
  | 147 => some a147
  | 148 => some a148
  | 149 => some a149
  | 152 => some a152
  | 153 => some a153
  | 154 => some a154
  | 155 => some a155
  | _ => none
theorem env_ok : EnvOK Try.prog env := by
  intro f af h
  unfold env at h
  split at h <;> first | (cases h; done) | skip
  · cases h; exact ⟨Try.f5, r5, k5, Try.func5, e5⟩
  · cases h; exact ⟨Try.f7, r7, k7, Try.func7, e7⟩
  · cases h; exact ⟨Try.f8, r8, k8, Try.func8, e8⟩
  · cases h; exact ⟨Try.f15, r15, k15, Try.func15, e15⟩
  · cases h; exact ⟨Try.f16, r16, k16, Try.func16, e16⟩
  · cases h; exact ⟨Try.f17, r17, k17, Try.func17, e17⟩
  · cases h; exact ⟨Try.f18, r18, k18, Try.func18, e18⟩
  · cases h; exact ⟨Try.f19, r19, k19, Try.func19, e19⟩
  · cases h; exact ⟨Try.f20, r20, k20, Try.func20, e20⟩
  · cases h; exact ⟨Try.f21, r21, k21, Try.func21, e21⟩
  · cases h; exact ⟨Try.f22, r22, k22, Try.func22, e22⟩
  · cases h; exact ⟨Try.f23, r23, k23, Try.func23, e23⟩
  · cases h; exact ⟨Try.f24, r24, k24, Try.func24, e24⟩
  · cases h; exact ⟨Try.f25, r25, k25, Try.func25, e25⟩
  · cases h; exact ⟨Try.f26, r26, k26, Try.func26, e26⟩
  · cases h; exact ⟨Try.f27, r27, k27, Try.func27, e27⟩
  · cases h; exact ⟨Try.f28, r28, k28, Try.func28, e28⟩
  · cases h; exact ⟨Try.f29, r29, k29, Try.func29, e29⟩
  · cases h; exact ⟨Try.f30, r30, k30, Try.func30, e30⟩
  · cases h; exact ⟨Try.f31, r31, k31, Try.func31, e31⟩
  · cases h; exact ⟨Try.f32, r32, k32, Try.func32, e32⟩
  · cases h; exact ⟨Try.f33, r33, k33, Try.func33, e33⟩
  · cases h; exact ⟨Try.f34, r34, k34, Try.func34, e34⟩
  · cases h; exact ⟨Try.f35, r35, k35, Try.func35, e35⟩
  · cases h; exact ⟨Try.f36, r36, k36, Try.func36, e36⟩
  · cases h; exact ⟨Try.f37, r37, k37, Try.func37, e37⟩
  · cases h; exact ⟨Try.f38, r38, k38, Try.func38, e38⟩
  · cases h; exact ⟨Try.f39, r39, k39, Try.func39, e39⟩
  · cases h; exact ⟨Try.f40, r40, k40, Try.func40, e40⟩
  · cases h; exact ⟨Try.f41, r41, k41, Try.func41, e41⟩
  · cases h; exact ⟨Try.f42, r42, k42, Try.func42, e42⟩
  · cases h; exact ⟨Try.f43, r43, k43, Try.func43, e43⟩
  · cases h; exact ⟨Try.f44, r44, k44, Try.func44, e44⟩
  · cases h; exact ⟨Try.f48, r48, k48, Try.func48, e48⟩
  · cases h; exact ⟨Try.f49, r49, k49, Try.func49, e49⟩
  · cases h; exact ⟨Try.f50, r50, k50, Try.func50, e50⟩
  · cases h; exact ⟨Try.f51, r51, k51, Try.func51, e51⟩
  · cases h; exact ⟨Try.f52, r52, k52, Try.func52, e52⟩
  · cases h; exact ⟨Try.f61, r61, k61, Try.func61, e61⟩
  · cases h; exact ⟨Try.f63, r63, k63, Try.func63, e63⟩
  · cases h; exact ⟨Try.f64, r64, k64, Try.func64, e64⟩
  · cases h; exact ⟨Try.f65, r65, k65, Try.func65, e65⟩
  · cases h; exact ⟨Try.f66, r66, k66, Try.func66, e66⟩
  · cases h; exact ⟨Try.f67, r67, k67, Try.func67, e67⟩
  · cases h; exact ⟨Try.f68, r68, k68, Try.func68, e68⟩
  · cases h; exact ⟨Try.f70, r70, k70, Try.func70, e70⟩
  · cases h; exact ⟨Try.f76, r76, k76, Try.func76, e76⟩
  · cases h; exact ⟨Try.f78, r78, k78, Try.func78, e78⟩
  · cases h; exact ⟨Try.f80, r80, k80, Try.func80, e80⟩
  · cases h; exact ⟨Try.f87, r87, k87, Try.func87, e87⟩
  · cases h; exact ⟨Try.f88, r88, k88, Try.func88, e88⟩
  · cases h; exact ⟨Try.f89, r89, k89, Try.func89, e89⟩
  · cases h; exact ⟨Try.f90, r90, k90, Try.func90, e90⟩
  · cases h; exact ⟨Try.f91, r91, k91, Try.func91, e91⟩
  · cases h; exact ⟨Try.f92, r92, k92, Try.func92, e92⟩
  · cases h; exact ⟨Try.f93, r93, k93, Try.func93, e93⟩
  · cases h; exact ⟨Try.f94, r94, k94, Try.func94, e94⟩
  · cases h; exact ⟨Try.f95, r95, k95, Try.func95, e95⟩
  · cases h; exact ⟨Try.f96, r96, k96, Try.func96, e96⟩
  · cases h; exact ⟨Try.f97, r97, k97, Try.func97, e97⟩
  · cases h; exact ⟨Try.f98, r98, k98, Try.func98, e98⟩
  · cases h; exact ⟨Try.f99, r99, k99, Try.func99, e99⟩
  · cases h; exact ⟨Try.f100, r100, k100, Try.func100, e100⟩
  · cases h; exact ⟨Try.f101, r101, k101, Try.func101, e101⟩
  · cases h; exact ⟨Try.f102, r102, k102, Try.func102, e102⟩
  · cases h; exact ⟨Try.f103, r103, k103, Try.func103, e103⟩
  · cases h; exact ⟨Try.f104, r104, k104, Try.func104, e104⟩
  · cases h; exact ⟨Try.f105, r105, k105, Try.func105, e105⟩
  · cases h; exact ⟨Try.f106, r106, k106, Try.func106, e106⟩
  · cases h; exact ⟨Try.f107, r107, k107, Try.func107, e107⟩
  · cases h; exact ⟨Try.f109, r109, k109, Try.func109, e109⟩
  · cases h; exact ⟨Try.f110, r110, k110, Try.func110, e110⟩
  · cases h; exact ⟨Try.f111, r111, k111, Try.func111, e111⟩
  · cases h; exact ⟨Try.f112, r112, k112, Try.func112, e112⟩
  · cases h; exact ⟨Try.f113, r113, k113, Try.func113, e113⟩
  · cases h; exact ⟨Try.f117, r117, k117, Try.func117, e117⟩
  · cases h; exact ⟨Try.f120, r120, k120, Try.func120, e120⟩
  · cases h; exact ⟨Try.f121, r121, k121, Try.func121, e121⟩
  · cases h; exact ⟨Try.f122, r122, k122, Try.func122, e122⟩
  · cases h; exact ⟨Try.f123, r123, k123, Try.func123, e123⟩
  · cases h; exact ⟨Try.f124, r124, k124, Try.func124, e124⟩
  · cases h; exact ⟨Try.f125, r125, k125, Try.func125, e125⟩
  · cases h; exact ⟨Try.f126, r126, k126, Try.func126, e126⟩
  · cases h; exact ⟨Try.f133, r133, k133, Try.func133, e133⟩
  · cases h; exact ⟨Try.f134, r134, k134, Try.func134, e134⟩
  · cases h; exact ⟨Try.f135, r135, k135, Try.func135, e135⟩
  · cases h; exact ⟨Try.f136, r136, k136, Try.func136, e136⟩
  · cases h; exact ⟨Try.f138, r138, k138, Try.func138, e138⟩
  · cases h; exact ⟨Try.f139, r139, k139, Try.func139, e139⟩
  · cases h; exact ⟨Try.f140, r140, k140, Try.func140, e140⟩
  · cases h; exact ⟨Try.f141, r141, k141, Try.func141, e141⟩
  · cases h; exact ⟨Try.f142, r142, k142, Try.func142, e142⟩
  · cases h; exact ⟨Try.f143, r143, k143, Try.func143, e143⟩
  · cases h; exact ⟨Try.f144, r144, k144, Try.func144, e144⟩
  · cases h; exact ⟨Try.f147, r147, k147, Try.func147, e147⟩
  · cases h; exact ⟨Try.f148, r148, k148, Try.func148, e148⟩
  · cases h; exact ⟨Try.f149, r149, k149, Try.func149, e149⟩
  · cases h; exact ⟨Try.f152, r152, k152, Try.func152, e152⟩
  · cases h; exact ⟨Try.f153, r153, k153, Try.func153, e153⟩
  · cases h; exact ⟨Try.f154, r154, k154, Try.func154, e154⟩
  · cases h; exact ⟨Try.f155, r155, k155, Try.func155, e155⟩
end Gv
