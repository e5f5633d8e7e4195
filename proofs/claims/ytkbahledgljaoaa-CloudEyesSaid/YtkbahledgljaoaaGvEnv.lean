/- The program's functions, as the abstract machine runs them. -/
import Derived.Test.YtkbahledgljaoaaGvEnvA
import Derived.Test.YtkbahledgljaoaaGvTold
namespace Gv
open Go Go.Proofs
set_option maxRecDepth 100000

def env (f : Nat) : Option AFn := match f with
  | 9 => some a9
  | 10 => some a10
  | 11 => some a11
  | 12 => some a12
  | 14 => some a14
  | 16 => some a16
  | 21 => some a21
  | 22 => some a22
  | 23 => some a23
  | 24 => some a24
  | 25 => some a25
  | 26 => some a26
  | 27 => some a27
  | 29 => some a29
  | 30 => some a30
  | 31 => some a31
  | 32 => some a32
  | 33 => some a33
  | 34 => some a34
  | 35 => some (primA 2 ceilH)
  | 36 => some a36
  | 37 => some a37
  | 38 => some a38
  | 39 => some a39
  | 40 => some a40
  | 41 => some a41
  | 42 => some a42
  | 43 => some (primA 2 eyeH)
  | 44 => some a44
  | 45 => some a45
  | 46 => some a46
  | 47 => some a47
  | 48 => some a48
  | 49 => some a49
  | 50 => some a50
  | 51 => some a51
  | 52 => some a52
  | 53 => some a53
  | 54 => some a54
  | 55 => some a55
  | 56 => some a56
  | 60 => some a60
  | 62 => some a62
  | 63 => some a63
  | 64 => some a64
  | 65 => some a65
  | 66 => some a66
  | 67 => some a67
  | 68 => some a68
  | 69 => some a69
  | 70 => some a70
  | 71 => some a71
  | 72 => some a72
  | 73 => some a73
  | 74 => some a74
  | 79 => some a79
  | 80 => some a80
  | 81 => some a81
  | 82 => some (primA 1 midG)
  | 83 => some a83
  | 84 => some a84
  | 85 => some (primA 2 turnsG)
  | 86 => some a86
  | 91 => some a91
  | 92 => some a92
  | 93 => some a93
  | 94 => some a94
  | 95 => some a95
  | 97 => some a97
  | 98 => some (primA 3 grownG)
  | 99 => some a99
  | 100 => some a100
  | 101 => some a101
  | 103 => some a103
  | 104 => some a104
  | 105 => some a105
  | 108 => some a108
  | 109 => some a109
  | 110 => some a110
  | 111 => some a111
  | 112 => some a112
  | 117 => some a117
  | _ => none
theorem env_ok : EnvOK Try.prog env := by
  intro f af h
  unfold env at h
  split at h <;> first | (cases h; done) | skip
  · cases h; exact .inl ⟨Try.f9, r9, k9, Try.func9, e9⟩
  · cases h; exact .inl ⟨Try.f10, r10, k10, Try.func10, e10⟩
  · cases h; exact .inl ⟨Try.f11, r11, k11, Try.func11, e11⟩
  · cases h; exact .inl ⟨Try.f12, r12, k12, Try.func12, e12⟩
  · cases h; exact .inl ⟨Try.f14, r14, k14, Try.func14, e14⟩
  · cases h; exact .inl ⟨Try.f16, r16, k16, Try.func16, e16⟩
  · cases h; exact .inl ⟨Try.f21, r21, k21, Try.func21, e21⟩
  · cases h; exact .inl ⟨Try.f22, r22, k22, Try.func22, e22⟩
  · cases h; exact .inl ⟨Try.f23, r23, k23, Try.func23, e23⟩
  · cases h; exact .inl ⟨Try.f24, r24, k24, Try.func24, e24⟩
  · cases h; exact .inl ⟨Try.f25, r25, k25, Try.func25, e25⟩
  · cases h; exact .inl ⟨Try.f26, r26, k26, Try.func26, e26⟩
  · cases h; exact .inl ⟨Try.f27, r27, k27, Try.func27, e27⟩
  · cases h; exact .inl ⟨Try.f29, r29, k29, Try.func29, e29⟩
  · cases h; exact .inl ⟨Try.f30, r30, k30, Try.func30, e30⟩
  · cases h; exact .inl ⟨Try.f31, r31, k31, Try.func31, e31⟩
  · cases h; exact .inl ⟨Try.f32, r32, k32, Try.func32, e32⟩
  · cases h; exact .inl ⟨Try.f33, r33, k33, Try.func33, e33⟩
  · cases h; exact .inl ⟨Try.f34, r34, k34, Try.func34, e34⟩
  · cases h; exact .inr (.inl ⟨_, _, rfl, ceil35z⟩)
  · cases h; exact .inl ⟨Try.f36, r36, k36, Try.func36, e36⟩
  · cases h; exact .inl ⟨Try.f37, r37, k37, Try.func37, e37⟩
  · cases h; exact .inl ⟨Try.f38, r38, k38, Try.func38, e38⟩
  · cases h; exact .inl ⟨Try.f39, r39, k39, Try.func39, e39⟩
  · cases h; exact .inl ⟨Try.f40, r40, k40, Try.func40, e40⟩
  · cases h; exact .inl ⟨Try.f41, r41, k41, Try.func41, e41⟩
  · cases h; exact .inl ⟨Try.f42, r42, k42, Try.func42, e42⟩
  · cases h; exact .inr (.inl ⟨_, _, rfl, eye43z⟩)
  · cases h; exact .inl ⟨Try.f44, r44, k44, Try.func44, e44⟩
  · cases h; exact .inl ⟨Try.f45, r45, k45, Try.func45, e45⟩
  · cases h; exact .inl ⟨Try.f46, r46, k46, Try.func46, e46⟩
  · cases h; exact .inl ⟨Try.f47, r47, k47, Try.func47, e47⟩
  · cases h; exact .inl ⟨Try.f48, r48, k48, Try.func48, e48⟩
  · cases h; exact .inl ⟨Try.f49, r49, k49, Try.func49, e49⟩
  · cases h; exact .inl ⟨Try.f50, r50, k50, Try.func50, e50⟩
  · cases h; exact .inl ⟨Try.f51, r51, k51, Try.func51, e51⟩
  · cases h; exact .inl ⟨Try.f52, r52, k52, Try.func52, e52⟩
  · cases h; exact .inl ⟨Try.f53, r53, k53, Try.func53, e53⟩
  · cases h; exact .inl ⟨Try.f54, r54, k54, Try.func54, e54⟩
  · cases h; exact .inl ⟨Try.f55, r55, k55, Try.func55, e55⟩
  · cases h; exact .inl ⟨Try.f56, r56, k56, Try.func56, e56⟩
  · cases h; exact .inl ⟨Try.f60, r60, k60, Try.func60, e60⟩
  · cases h; exact .inl ⟨Try.f62, r62, k62, Try.func62, e62⟩
  · cases h; exact .inl ⟨Try.f63, r63, k63, Try.func63, e63⟩
  · cases h; exact .inl ⟨Try.f64, r64, k64, Try.func64, e64⟩
  · cases h; exact .inl ⟨Try.f65, r65, k65, Try.func65, e65⟩
  · cases h; exact .inl ⟨Try.f66, r66, k66, Try.func66, e66⟩
  · cases h; exact .inl ⟨Try.f67, r67, k67, Try.func67, e67⟩
  · cases h; exact .inl ⟨Try.f68, r68, k68, Try.func68, e68⟩
  · cases h; exact .inl ⟨Try.f69, r69, k69, Try.func69, e69⟩
  · cases h; exact .inl ⟨Try.f70, r70, k70, Try.func70, e70⟩
  · cases h; exact .inl ⟨Try.f71, r71, k71, Try.func71, e71⟩
  · cases h; exact .inl ⟨Try.f72, r72, k72, Try.func72, e72⟩
  · cases h; exact .inl ⟨Try.f73, r73, k73, Try.func73, e73⟩
  · cases h; exact .inl ⟨Try.f74, r74, k74, Try.func74, e74⟩
  · cases h; exact .inl ⟨Try.f79, r79, k79, Try.func79, e79⟩
  · cases h; exact .inl ⟨Try.f80, r80, k80, Try.func80, e80⟩
  · cases h; exact .inl ⟨Try.f81, r81, k81, Try.func81, e81⟩
  · cases h; exact .inr (.inl ⟨_, _, rfl, mid82⟩)
  · cases h; exact .inl ⟨Try.f83, r83, k83, Try.func83, e83⟩
  · cases h; exact .inl ⟨Try.f84, r84, k84, Try.func84, e84⟩
  · cases h; exact .inr (.inl ⟨_, _, rfl, turns85⟩)
  · cases h; exact .inl ⟨Try.f86, r86, k86, Try.func86, e86⟩
  · cases h; exact .inl ⟨Try.f91, r91, k91, Try.func91, e91⟩
  · cases h; exact .inl ⟨Try.f92, r92, k92, Try.func92, e92⟩
  · cases h; exact .inl ⟨Try.f93, r93, k93, Try.func93, e93⟩
  · cases h; exact .inl ⟨Try.f94, r94, k94, Try.func94, e94⟩
  · cases h; exact .inl ⟨Try.f95, r95, k95, Try.func95, e95⟩
  · cases h; exact .inl ⟨Try.f97, r97, k97, Try.func97, e97⟩
  · cases h; exact .inr (.inl ⟨_, _, rfl, grown98⟩)
  · cases h; exact .inl ⟨Try.f99, r99, k99, Try.func99, e99⟩
  · cases h; exact .inl ⟨Try.f100, r100, k100, Try.func100, e100⟩
  · cases h; exact .inl ⟨Try.f101, r101, k101, Try.func101, e101⟩
  · cases h; exact .inl ⟨Try.f103, r103, k103, Try.func103, e103⟩
  · cases h; exact .inl ⟨Try.f104, r104, k104, Try.func104, e104⟩
  · cases h; exact .inl ⟨Try.f105, r105, k105, Try.func105, e105⟩
  · cases h; exact .inl ⟨Try.f108, r108, k108, Try.func108, e108⟩
  · cases h; exact .inl ⟨Try.f109, r109, k109, Try.func109, e109⟩
  · cases h; exact .inl ⟨Try.f110, r110, k110, Try.func110, e110⟩
  · cases h; exact .inl ⟨Try.f111, r111, k111, Try.func111, e111⟩
  · cases h; exact .inl ⟨Try.f112, r112, k112, Try.func112, e112⟩
  · cases h; exact .inl ⟨Try.f117, r117, k117, Try.func117, e117⟩
end Gv
