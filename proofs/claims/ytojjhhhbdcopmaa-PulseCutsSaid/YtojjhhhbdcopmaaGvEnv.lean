/- The program's functions, as the abstract machine runs them. -/
import Derived.Test.YtojjhhhbdcopmaaGvEnvA
import Derived.Test.YtojjhhhbdcopmaaGvLay
import Derived.Test.YtojjhhhbdcopmaaGvClo
namespace Gv
open Go Go.Proofs
set_option maxRecDepth 100000

def env (f : Nat) : Option AFn := match f with
  | 2 => some a2
  | 9 => some a9
  | 10 => some a10
  | 15 => some a15
  | 17 => some a17
  | 18 => some a18
  | 19 => some a19
  | 20 => some a20
  | 22 => some a22
  | 24 => some a24
  | 26 => some a26
  | 27 => some a27
  | 29 => some a29
  | 32 => some a32
  | 35 => some a35
  | 42 => some a42
  | 49 => some a49
  | 51 => some a51
  | 52 => some a52
  | 53 => some a53
  | 54 => some a54
  | 55 => some a55
  | 56 => some a56
  | 57 => some a57
  | 58 => some a58
  | 59 => some a59
  | 60 => some a60
  | 61 => some a61
  | 62 => some a62
  | 63 => some a63
  | 64 => some a64
  | 70 => some a70
  | 80 => some a80
  | 87 => some a87
  | 88 => some a88
  | 89 => some a89
  | 90 => some a90
  | 91 => some a91
  | 92 => some a92
  | 93 => some a93
  | 94 => some a94
  | 95 => some a95
  | 96 => some a96
  | 97 => some a97
  | 98 => some a98
  | 99 => some a99
  | 100 => some a100
  | 102 => some a102
  | 105 => some a105
  | 106 => some a106
  | 107 => some a107
  | 109 => some a109
  | 110 => some a110
  | 111 => some a111
  | 112 => some a112
  | 113 => some a113
  | 114 => some a114
  | 115 => some a115
  | 116 => some a116
  | 117 => some a117
  | 118 => some (primA 1 (cloneG 2))
  | 119 => some a119
  | 123 => some a123
  | 124 => some a124
  | 125 => some a125
  | 126 => some a126
  | 133 => some a133
  | 134 => some a134
  | 135 => some a135
  | 136 => some a136
  | 138 => some a138
  | 139 => some a139
  | 140 => some a140
  | 142 => some a142
  | 143 => some a143
  | 144 => some a144
  | 145 => some a145
  | 146 => some a146
  | 147 => some a147
  | 148 => some a148
  | 149 => some a149
  | 152 => some a152
  | 153 => some a153
  | 154 => some a154
  | 155 => some a155
  | _ => none
theorem env_ok : EnvOK Try.prog env := by
  intro f af h
  unfold env at h
  split at h <;> first | (cases h; done) | skip
  · cases h; exact .inl ⟨Try.f2, r2, k2, Try.func2, e2⟩
  · cases h; exact .inl ⟨Try.f9, r9, k9, Try.func9, e9⟩
  · cases h; exact .inl ⟨Try.f10, r10, k10, Try.func10, e10⟩
  · cases h; exact .inl ⟨Try.f15, r15, k15, Try.func15, e15⟩
  · cases h; exact .inl ⟨Try.f17, r17, k17, Try.func17, e17⟩
  · cases h; exact .inl ⟨Try.f18, r18, k18, Try.func18, e18⟩
  · cases h; exact .inl ⟨Try.f19, r19, k19, Try.func19, e19⟩
  · cases h; exact .inl ⟨Try.f20, r20, k20, Try.func20, e20⟩
  · cases h; exact .inl ⟨Try.f22, r22, k22, Try.func22, e22⟩
  · cases h; exact .inl ⟨Try.f24, r24, k24, Try.func24, e24⟩
  · cases h; exact .inl ⟨Try.f26, r26, k26, Try.func26, e26⟩
  · cases h; exact .inl ⟨Try.f27, r27, k27, Try.func27, e27⟩
  · cases h; exact .inl ⟨Try.f29, r29, k29, Try.func29, e29⟩
  · cases h; exact .inl ⟨Try.f32, r32, k32, Try.func32, e32⟩
  · cases h; exact .inl ⟨Try.f35, r35, k35, Try.func35, e35⟩
  · cases h; exact .inl ⟨Try.f42, r42, k42, Try.func42, e42⟩
  · cases h; exact .inl ⟨Try.f49, r49, k49, Try.func49, e49⟩
  · cases h; exact .inl ⟨Try.f51, r51, k51, Try.func51, e51⟩
  · cases h; exact .inl ⟨Try.f52, r52, k52, Try.func52, e52⟩
  · cases h; exact .inl ⟨Try.f53, r53, k53, Try.func53, e53⟩
  · cases h; exact .inl ⟨Try.f54, r54, k54, Try.func54, e54⟩
  · cases h; exact .inl ⟨Try.f55, r55, k55, Try.func55, e55⟩
  · cases h; exact .inl ⟨Try.f56, r56, k56, Try.func56, e56⟩
  · cases h; exact .inl ⟨Try.f57, r57, k57, Try.func57, e57⟩
  · cases h; exact .inl ⟨Try.f58, r58, k58, Try.func58, e58⟩
  · cases h; exact .inl ⟨Try.f59, r59, k59, Try.func59, e59⟩
  · cases h; exact .inl ⟨Try.f60, r60, k60, Try.func60, e60⟩
  · cases h; exact .inl ⟨Try.f61, r61, k61, Try.func61, e61⟩
  · cases h; exact .inl ⟨Try.f62, r62, k62, Try.func62, e62⟩
  · cases h; exact .inl ⟨Try.f63, r63, k63, Try.func63, e63⟩
  · cases h; exact .inl ⟨Try.f64, r64, k64, Try.func64, e64⟩
  · cases h; exact .inl ⟨Try.f70, r70, k70, Try.func70, e70⟩
  · cases h; exact .inl ⟨Try.f80, r80, k80, Try.func80, e80⟩
  · cases h; exact .inl ⟨Try.f87, r87, k87, Try.func87, e87⟩
  · cases h; exact .inl ⟨Try.f88, r88, k88, Try.func88, e88⟩
  · cases h; exact .inl ⟨Try.f89, r89, k89, Try.func89, e89⟩
  · cases h; exact .inl ⟨Try.f90, r90, k90, Try.func90, e90⟩
  · cases h; exact .inl ⟨Try.f91, r91, k91, Try.func91, e91⟩
  · cases h; exact .inl ⟨Try.f92, r92, k92, Try.func92, e92⟩
  · cases h; exact .inl ⟨Try.f93, r93, k93, Try.func93, e93⟩
  · cases h; exact .inl ⟨Try.f94, r94, k94, Try.func94, e94⟩
  · cases h; exact .inl ⟨Try.f95, r95, k95, Try.func95, e95⟩
  · cases h; exact .inl ⟨Try.f96, r96, k96, Try.func96, e96⟩
  · cases h; exact .inl ⟨Try.f97, r97, k97, Try.func97, e97⟩
  · cases h; exact .inl ⟨Try.f98, r98, k98, Try.func98, e98⟩
  · cases h; exact .inl ⟨Try.f99, r99, k99, Try.func99, e99⟩
  · cases h; exact .inl ⟨Try.f100, r100, k100, Try.func100, e100⟩
  · cases h; exact .inl ⟨Try.f102, r102, k102, Try.func102, e102⟩
  · cases h; exact .inl ⟨Try.f105, r105, k105, Try.func105, e105⟩
  · cases h; exact .inl ⟨Try.f106, r106, k106, Try.func106, e106⟩
  · cases h; exact .inl ⟨Try.f107, r107, k107, Try.func107, e107⟩
  · cases h; exact .inl ⟨Try.f109, r109, k109, Try.func109, e109⟩
  · cases h; exact .inl ⟨Try.f110, r110, k110, Try.func110, e110⟩
  · cases h; exact .inl ⟨Try.f111, r111, k111, Try.func111, e111⟩
  · cases h; exact .inl ⟨Try.f112, r112, k112, Try.func112, e112⟩
  · cases h; exact .inl ⟨Try.f113, r113, k113, Try.func113, e113⟩
  · cases h; exact .inl ⟨Try.f114, r114, k114, Try.func114, e114⟩
  · cases h; exact .inl ⟨Try.f115, r115, k115, Try.func115, e115⟩
  · cases h; exact .inl ⟨Try.f116, r116, k116, Try.func116, e116⟩
  · cases h; exact .inl ⟨Try.f117, r117, k117, Try.func117, e117⟩
  · cases h; exact .inr (.inl ⟨1, _, rfl, clone118⟩)
  · cases h; exact .inl ⟨Try.f119, r119, k119, Try.func119, e119⟩
  · cases h; exact .inl ⟨Try.f123, r123, k123, Try.func123, e123⟩
  · cases h; exact .inl ⟨Try.f124, r124, k124, Try.func124, e124⟩
  · cases h; exact .inl ⟨Try.f125, r125, k125, Try.func125, e125⟩
  · cases h; exact .inl ⟨Try.f126, r126, k126, Try.func126, e126⟩
  · cases h; exact .inl ⟨Try.f133, r133, k133, Try.func133, e133⟩
  · cases h; exact .inl ⟨Try.f134, r134, k134, Try.func134, e134⟩
  · cases h; exact .inl ⟨Try.f135, r135, k135, Try.func135, e135⟩
  · cases h; exact .inl ⟨Try.f136, r136, k136, Try.func136, e136⟩
  · cases h; exact .inl ⟨Try.f138, r138, k138, Try.func138, e138⟩
  · cases h; exact .inl ⟨Try.f139, r139, k139, Try.func139, e139⟩
  · cases h; exact .inl ⟨Try.f140, r140, k140, Try.func140, e140⟩
  · cases h; exact .inl ⟨Try.f142, r142, k142, Try.func142, e142⟩
  · cases h; exact .inl ⟨Try.f143, r143, k143, Try.func143, e143⟩
  · cases h; exact .inl ⟨Try.f144, r144, k144, Try.func144, e144⟩
  · cases h; exact .inr (.inr (.inl ⟨2, rfl, grow145⟩))
  · cases h; exact .inl ⟨Try.f146, r146, k146, Try.func146, e146⟩
  · cases h; exact .inl ⟨Try.f147, r147, k147, Try.func147, e147⟩
  · cases h; exact .inl ⟨Try.f148, r148, k148, Try.func148, e148⟩
  · cases h; exact .inl ⟨Try.f149, r149, k149, Try.func149, e149⟩
  · cases h; exact .inl ⟨Try.f152, r152, k152, Try.func152, e152⟩
  · cases h; exact .inl ⟨Try.f153, r153, k153, Try.func153, e153⟩
  · cases h; exact .inl ⟨Try.f154, r154, k154, Try.func154, e154⟩
  · cases h; exact .inl ⟨Try.f155, r155, k155, Try.func155, e155⟩
end Gv
