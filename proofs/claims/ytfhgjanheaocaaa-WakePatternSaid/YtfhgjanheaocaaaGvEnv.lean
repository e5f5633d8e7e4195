/- The program's functions, as the abstract machine runs them. -/
import Derived.Test.YtfhgjanheaocaaaGvEnvA
import Derived.Test.YtfhgjanheaocaaaGvClo
import Derived.Test.YtfhgjanheaocaaaGvTold
namespace Gv
open Go Go.Proofs
set_option maxRecDepth 100000

def env (f : Nat) : Option AFn := match f with
  | 3 => some a3
  | 5 => some a5
  | 6 => some a6
  | 7 => some a7
  | 8 => some a8
  | 9 => some a9
  | 10 => some a10
  | 11 => some a11
  | 17 => some a17
  | 24 => some a24
  | 25 => some a25
  | 26 => some a26
  | 27 => some a27
  | 28 => some a28
  | 29 => some a29
  | 30 => some a30
  | 31 => some a31
  | 32 => some a32
  | 33 => some a33
  | 34 => some a34
  | 35 => some a35
  | 36 => some a36
  | 37 => some a37
  | 38 => some a38
  | 39 => some a39
  | 40 => some a40
  | 41 => some a41
  | 42 => some a42
  | 43 => some a43
  | 44 => some a44
  | 48 => some a48
  | 49 => some a49
  | 50 => some a50
  | 51 => some a51
  | 55 => some a55
  | 56 => some a56
  | 57 => some a57
  | 58 => some a58
  | 60 => some a60
  | 61 => some a61
  | 62 => some a62
  | 63 => some a63
  | 64 => some a64
  | 65 => some a65
  | 66 => some a66
  | 67 => some a67
  | 68 => some (primA 1 cheapG)
  | 69 => some a69
  | 70 => some a70
  | 71 => some a71
  | 72 => some a72
  | 73 => some (primA 3 linksG)
  | 74 => some a74
  | 75 => some a75
  | 76 => some a76
  | 77 => some a77
  | 78 => some a78
  | 79 => some a79
  | 80 => some a80
  | 81 => some a81
  | 82 => some a82
  | 83 => some a83
  | 84 => some a84
  | 85 => some a85
  | 86 => some a86
  | 87 => some a87
  | 88 => some a88
  | 89 => some a89
  | 90 => some a90
  | 92 => some a92
  | 94 => some a94
  | 95 => some a95
  | 96 => some a96
  | 97 => some a97
  | 98 => some a98
  | 99 => some a99
  | 100 => some a100
  | 101 => some a101
  | 102 => some a102
  | 103 => some a103
  | 104 => some a104
  | 105 => some a105
  | 106 => some a106
  | 107 => some a107
  | 108 => some a108
  | 109 => some (toldA 2 [none] ordersG)
  | 111 => some (primA 1 (cloneG 1))
  | _ => none
theorem env_ok : EnvOK Try.prog env := by
  intro f af h
  unfold env at h
  split at h <;> first | (cases h; done) | skip
  · cases h; exact .inl ⟨Try.f3, r3, k3, Try.func3, e3⟩
  · cases h; exact .inl ⟨Try.f5, r5, k5, Try.func5, e5⟩
  · cases h; exact .inl ⟨Try.f6, r6, k6, Try.func6, e6⟩
  · cases h; exact .inl ⟨Try.f7, r7, k7, Try.func7, e7⟩
  · cases h; exact .inl ⟨Try.f8, r8, k8, Try.func8, e8⟩
  · cases h; exact .inl ⟨Try.f9, r9, k9, Try.func9, e9⟩
  · cases h; exact .inl ⟨Try.f10, r10, k10, Try.func10, e10⟩
  · cases h; exact .inl ⟨Try.f11, r11, k11, Try.func11, e11⟩
  · cases h; exact .inl ⟨Try.f17, r17, k17, Try.func17, e17⟩
  · cases h; exact .inl ⟨Try.f24, r24, k24, Try.func24, e24⟩
  · cases h; exact .inl ⟨Try.f25, r25, k25, Try.func25, e25⟩
  · cases h; exact .inl ⟨Try.f26, r26, k26, Try.func26, e26⟩
  · cases h; exact .inl ⟨Try.f27, r27, k27, Try.func27, e27⟩
  · cases h; exact .inl ⟨Try.f28, r28, k28, Try.func28, e28⟩
  · cases h; exact .inl ⟨Try.f29, r29, k29, Try.func29, e29⟩
  · cases h; exact .inl ⟨Try.f30, r30, k30, Try.func30, e30⟩
  · cases h; exact .inl ⟨Try.f31, r31, k31, Try.func31, e31⟩
  · cases h; exact .inl ⟨Try.f32, r32, k32, Try.func32, e32⟩
  · cases h; exact .inl ⟨Try.f33, r33, k33, Try.func33, e33⟩
  · cases h; exact .inl ⟨Try.f34, r34, k34, Try.func34, e34⟩
  · cases h; exact .inl ⟨Try.f35, r35, k35, Try.func35, e35⟩
  · cases h; exact .inl ⟨Try.f36, r36, k36, Try.func36, e36⟩
  · cases h; exact .inl ⟨Try.f37, r37, k37, Try.func37, e37⟩
  · cases h; exact .inl ⟨Try.f38, r38, k38, Try.func38, e38⟩
  · cases h; exact .inl ⟨Try.f39, r39, k39, Try.func39, e39⟩
  · cases h; exact .inl ⟨Try.f40, r40, k40, Try.func40, e40⟩
  · cases h; exact .inl ⟨Try.f41, r41, k41, Try.func41, e41⟩
  · cases h; exact .inl ⟨Try.f42, r42, k42, Try.func42, e42⟩
  · cases h; exact .inl ⟨Try.f43, r43, k43, Try.func43, e43⟩
  · cases h; exact .inl ⟨Try.f44, r44, k44, Try.func44, e44⟩
  · cases h; exact .inl ⟨Try.f48, r48, k48, Try.func48, e48⟩
  · cases h; exact .inl ⟨Try.f49, r49, k49, Try.func49, e49⟩
  · cases h; exact .inl ⟨Try.f50, r50, k50, Try.func50, e50⟩
  · cases h; exact .inl ⟨Try.f51, r51, k51, Try.func51, e51⟩
  · cases h; exact .inl ⟨Try.f55, r55, k55, Try.func55, e55⟩
  · cases h; exact .inl ⟨Try.f56, r56, k56, Try.func56, e56⟩
  · cases h; exact .inl ⟨Try.f57, r57, k57, Try.func57, e57⟩
  · cases h; exact .inl ⟨Try.f58, r58, k58, Try.func58, e58⟩
  · cases h; exact .inl ⟨Try.f60, r60, k60, Try.func60, e60⟩
  · cases h; exact .inl ⟨Try.f61, r61, k61, Try.func61, e61⟩
  · cases h; exact .inl ⟨Try.f62, r62, k62, Try.func62, e62⟩
  · cases h; exact .inl ⟨Try.f63, r63, k63, Try.func63, e63⟩
  · cases h; exact .inl ⟨Try.f64, r64, k64, Try.func64, e64⟩
  · cases h; exact .inl ⟨Try.f65, r65, k65, Try.func65, e65⟩
  · cases h; exact .inl ⟨Try.f66, r66, k66, Try.func66, e66⟩
  · cases h; exact .inl ⟨Try.f67, r67, k67, Try.func67, e67⟩
  · cases h; exact .inr (.inl ⟨_, _, rfl, prim94⟩)
  · cases h; exact .inl ⟨Try.f69, r69, k69, Try.func69, e69⟩
  · cases h; exact .inl ⟨Try.f70, r70, k70, Try.func70, e70⟩
  · cases h; exact .inl ⟨Try.f71, r71, k71, Try.func71, e71⟩
  · cases h; exact .inl ⟨Try.f72, r72, k72, Try.func72, e72⟩
  · cases h; exact .inr (.inl ⟨_, _, rfl, prim114⟩)
  · cases h; exact .inl ⟨Try.f74, r74, k74, Try.func74, e74⟩
  · cases h; exact .inl ⟨Try.f75, r75, k75, Try.func75, e75⟩
  · cases h; exact .inl ⟨Try.f76, r76, k76, Try.func76, e76⟩
  · cases h; exact .inl ⟨Try.f77, r77, k77, Try.func77, e77⟩
  · cases h; exact .inl ⟨Try.f78, r78, k78, Try.func78, e78⟩
  · cases h; exact .inl ⟨Try.f79, r79, k79, Try.func79, e79⟩
  · cases h; exact .inl ⟨Try.f80, r80, k80, Try.func80, e80⟩
  · cases h; exact .inl ⟨Try.f81, r81, k81, Try.func81, e81⟩
  · cases h; exact .inl ⟨Try.f82, r82, k82, Try.func82, e82⟩
  · cases h; exact .inl ⟨Try.f83, r83, k83, Try.func83, e83⟩
  · cases h; exact .inl ⟨Try.f84, r84, k84, Try.func84, e84⟩
  · cases h; exact .inl ⟨Try.f85, r85, k85, Try.func85, e85⟩
  · cases h; exact .inl ⟨Try.f86, r86, k86, Try.func86, e86⟩
  · cases h; exact .inl ⟨Try.f87, r87, k87, Try.func87, e87⟩
  · cases h; exact .inl ⟨Try.f88, r88, k88, Try.func88, e88⟩
  · cases h; exact .inl ⟨Try.f89, r89, k89, Try.func89, e89⟩
  · cases h; exact .inl ⟨Try.f90, r90, k90, Try.func90, e90⟩
  · cases h; exact .inl ⟨Try.f92, r92, k92, Try.func92, e92⟩
  · cases h; exact .inl ⟨Try.f94, r94, k94, Try.func94, e94⟩
  · cases h; exact .inl ⟨Try.f95, r95, k95, Try.func95, e95⟩
  · cases h; exact .inl ⟨Try.f96, r96, k96, Try.func96, e96⟩
  · cases h; exact .inl ⟨Try.f97, r97, k97, Try.func97, e97⟩
  · cases h; exact .inl ⟨Try.f98, r98, k98, Try.func98, e98⟩
  · cases h; exact .inl ⟨Try.f99, r99, k99, Try.func99, e99⟩
  · cases h; exact .inl ⟨Try.f100, r100, k100, Try.func100, e100⟩
  · cases h; exact .inl ⟨Try.f101, r101, k101, Try.func101, e101⟩
  · cases h; exact .inl ⟨Try.f102, r102, k102, Try.func102, e102⟩
  · cases h; exact .inl ⟨Try.f103, r103, k103, Try.func103, e103⟩
  · cases h; exact .inl ⟨Try.f104, r104, k104, Try.func104, e104⟩
  · cases h; exact .inl ⟨Try.f105, r105, k105, Try.func105, e105⟩
  · cases h; exact .inl ⟨Try.f106, r106, k106, Try.func106, e106⟩
  · cases h; exact .inl ⟨Try.f107, r107, k107, Try.func107, e107⟩
  · cases h; exact .inl ⟨Try.f108, r108, k108, Try.func108, e108⟩
  · cases h; exact .inr (.inr (.inr ⟨_, _, _, rfl, told163⟩))
  · cases h; exact .inr (.inl ⟨1, _, rfl, clone111⟩)
end Gv
