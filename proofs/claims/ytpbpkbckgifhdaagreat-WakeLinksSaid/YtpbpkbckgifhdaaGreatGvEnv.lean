/- The program's functions, as the abstract machine runs them. -/
import Derived.Test.YtpbpkbckgifhdaaGreatGvEnvA
import Derived.Test.YtpbpkbckgifhdaaGreatGvClo
import Derived.Test.YtpbpkbckgifhdaaGreatGvTold
namespace Gv
open Go Go.Proofs
set_option maxRecDepth 100000

def env (f : Nat) : Option AFn := match f with
 | 4 => some a4
 | 6 => some a6
 | 11 => some a11
 | 15 => some a15
 | 16 => some (primA 1 assignG)
 | 18 => some a18
 | 19 => some a19
 | 20 => some a20
 | 21 => some a21
 | 22 => some a22
 | 23 => some a23
 | 24 => some a24
 | 25 => some a25
 | 26 => some a26
 | 28 => some a28
 | 31 => some a31
 | 33 => some a33
 | 34 => some a34
 | 35 => some a35
 | 36 => some a36
 | 37 => some a37
 | 38 => some a38
 | 39 => some a39
 | 40 => some a40
 | 41 => some a41
 | 42 => some a42
 | 43 => some a43
 | 45 => some a45
 | 47 => some (primA 1 cheapG)
 | 49 => some a49
 | 50 => some (primA 1 allG)
 | 53 => some a53
 | 54 => some a54
 | 62 => some a62
 | 63 => some a63
 | 64 => some a64
 | 65 => some (primA 3 linkcG)
 | 66 => some (primA 3 linksG)
 | 67 => some a67
 | 68 => some a68
 | 69 => some a69
 | 70 => some a70
 | 71 => some a71
 | 72 => some a72
 | 73 => some a73
 | 74 => some a74
 | 75 => some a75
 | 76 => some a76
 | 77 => some a77
 | 78 => some a78
 | 79 => some a79
 | 80 => some a80
 | 81 => some a81
 | 82 => some a82
 | 83 => some a83
 | 84 => some a84
 | 85 => some a85
 | 86 => some a86
 | 87 => some a87
 | 88 => some a88
 | 89 => some a89
 | 90 => some a90
 | 91 => some a91
 | 92 => some a92
 | 94 => some a94
 | 95 => some a95
 | 96 => some a96
 | 97 => some a97
 | 98 => some a98
 | 99 => some a99
 | 100 => some a100
 | 101 => some a101
 | 102 => some a102
 | 103 => some a103
 | 104 => some a104
 | 105 => some a105
 | 106 => some a106
 | 107 => some a107
 | 108 => some a108
 | 109 => some a109
 | 110 => some a110
 | 111 => some a111
 | 112 => some a112
 | 113 => some a113
 | 114 => some a114
 | 115 => some a115
 | 116 => some a116
 | 117 => some (toldA 2 [none] ordersG)
 | 119 => some (primA 1 (cloneG 1))
 | 120 => some a120
 | 121 => some a121
 | 122 => some a122
 | 123 => some a123
 | 124 => some a124
 | 125 => some a125
 | 126 => some a126
 | 127 => some a127
 | 128 => some a128
 | 129 => some a129
 | 130 => some a130
 | _ => none
theorem env_ok : EnvOK Tryz.prog env := by
 intro f af h
 unfold env at h
 split at h <;> first | (cases h; done) | skip
 ·cases h; exact .inl ⟨Tryz.f4, r4, k4, Tryz.func4, e4⟩
 ·cases h; exact .inl ⟨Tryz.f6, r6, k6, Tryz.func6, e6⟩
 ·cases h; exact .inl ⟨Tryz.f11, r11, k11, Tryz.func11, e11⟩
 ·cases h; exact .inl ⟨Tryz.f15, r15, k15, Tryz.func15, e15⟩
 ·cases h; exact .inr (.inl ⟨_, _, rfl, prim99⟩)
 ·cases h; exact .inl ⟨Tryz.f18, r18, k18, Tryz.func18, e18⟩
 ·cases h; exact .inl ⟨Tryz.f19, r19, k19, Tryz.func19, e19⟩
 ·cases h; exact .inl ⟨Tryz.f20, r20, k20, Tryz.func20, e20⟩
 ·cases h; exact .inl ⟨Tryz.f21, r21, k21, Tryz.func21, e21⟩
 ·cases h; exact .inl ⟨Tryz.f22, r22, k22, Tryz.func22, e22⟩
 ·cases h; exact .inl ⟨Tryz.f23, r23, k23, Tryz.func23, e23⟩
 ·cases h; exact .inl ⟨Tryz.f24, r24, k24, Tryz.func24, e24⟩
 ·cases h; exact .inl ⟨Tryz.f25, r25, k25, Tryz.func25, e25⟩
 ·cases h; exact .inl ⟨Tryz.f26, r26, k26, Tryz.func26, e26⟩
 ·cases h; exact .inl ⟨Tryz.f28, r28, k28, Tryz.func28, e28⟩
 ·cases h; exact .inl ⟨Tryz.f31, r31, k31, Tryz.func31, e31⟩
 ·cases h; exact .inl ⟨Tryz.f33, r33, k33, Tryz.func33, e33⟩
 ·cases h; exact .inl ⟨Tryz.f34, r34, k34, Tryz.func34, e34⟩
 ·cases h; exact .inl ⟨Tryz.f35, r35, k35, Tryz.func35, e35⟩
 ·cases h; exact .inl ⟨Tryz.f36, r36, k36, Tryz.func36, e36⟩
 ·cases h; exact .inl ⟨Tryz.f37, r37, k37, Tryz.func37, e37⟩
 ·cases h; exact .inl ⟨Tryz.f38, r38, k38, Tryz.func38, e38⟩
 ·cases h; exact .inl ⟨Tryz.f39, r39, k39, Tryz.func39, e39⟩
 ·cases h; exact .inl ⟨Tryz.f40, r40, k40, Tryz.func40, e40⟩
 ·cases h; exact .inl ⟨Tryz.f41, r41, k41, Tryz.func41, e41⟩
 ·cases h; exact .inl ⟨Tryz.f42, r42, k42, Tryz.func42, e42⟩
 ·cases h; exact .inl ⟨Tryz.f43, r43, k43, Tryz.func43, e43⟩
 ·cases h; exact .inl ⟨Tryz.f45, r45, k45, Tryz.func45, e45⟩
 ·cases h; exact .inr (.inl ⟨_, _, rfl, prim94⟩)
 ·cases h; exact .inl ⟨Tryz.f49, r49, k49, Tryz.func49, e49⟩
 ·cases h; exact .inr (.inl ⟨_, _, rfl, prim96⟩)
 ·cases h; exact .inl ⟨Tryz.f53, r53, k53, Tryz.func53, e53⟩
 ·cases h; exact .inl ⟨Tryz.f54, r54, k54, Tryz.func54, e54⟩
 ·cases h; exact .inl ⟨Tryz.f62, r62, k62, Tryz.func62, e62⟩
 ·cases h; exact .inl ⟨Tryz.f63, r63, k63, Tryz.func63, e63⟩
 ·cases h; exact .inl ⟨Tryz.f64, r64, k64, Tryz.func64, e64⟩
 ·cases h; exact .inr (.inl ⟨_, _, rfl, prim151⟩)
 ·cases h; exact .inr (.inl ⟨_, _, rfl, prim114⟩)
 ·cases h; exact .inl ⟨Tryz.f67, r67, k67, Tryz.func67, e67⟩
 ·cases h; exact .inl ⟨Tryz.f68, r68, k68, Tryz.func68, e68⟩
 ·cases h; exact .inl ⟨Tryz.f69, r69, k69, Tryz.func69, e69⟩
 ·cases h; exact .inl ⟨Tryz.f70, r70, k70, Tryz.func70, e70⟩
 ·cases h; exact .inl ⟨Tryz.f71, r71, k71, Tryz.func71, e71⟩
 ·cases h; exact .inl ⟨Tryz.f72, r72, k72, Tryz.func72, e72⟩
 ·cases h; exact .inl ⟨Tryz.f73, r73, k73, Tryz.func73, e73⟩
 ·cases h; exact .inl ⟨Tryz.f74, r74, k74, Tryz.func74, e74⟩
 ·cases h; exact .inl ⟨Tryz.f75, r75, k75, Tryz.func75, e75⟩
 ·cases h; exact .inl ⟨Tryz.f76, r76, k76, Tryz.func76, e76⟩
 ·cases h; exact .inl ⟨Tryz.f77, r77, k77, Tryz.func77, e77⟩
 ·cases h; exact .inl ⟨Tryz.f78, r78, k78, Tryz.func78, e78⟩
 ·cases h; exact .inl ⟨Tryz.f79, r79, k79, Tryz.func79, e79⟩
 ·cases h; exact .inl ⟨Tryz.f80, r80, k80, Tryz.func80, e80⟩
 ·cases h; exact .inl ⟨Tryz.f81, r81, k81, Tryz.func81, e81⟩
 ·cases h; exact .inl ⟨Tryz.f82, r82, k82, Tryz.func82, e82⟩
 ·cases h; exact .inl ⟨Tryz.f83, r83, k83, Tryz.func83, e83⟩
 ·cases h; exact .inl ⟨Tryz.f84, r84, k84, Tryz.func84, e84⟩
 ·cases h; exact .inl ⟨Tryz.f85, r85, k85, Tryz.func85, e85⟩
 ·cases h; exact .inl ⟨Tryz.f86, r86, k86, Tryz.func86, e86⟩
 ·cases h; exact .inl ⟨Tryz.f87, r87, k87, Tryz.func87, e87⟩
 ·cases h; exact .inl ⟨Tryz.f88, r88, k88, Tryz.func88, e88⟩
 ·cases h; exact .inl ⟨Tryz.f89, r89, k89, Tryz.func89, e89⟩
 ·cases h; exact .inl ⟨Tryz.f90, r90, k90, Tryz.func90, e90⟩
 ·cases h; exact .inl ⟨Tryz.f91, r91, k91, Tryz.func91, e91⟩
 ·cases h; exact .inl ⟨Tryz.f92, r92, k92, Tryz.func92, e92⟩
 ·cases h; exact .inl ⟨Tryz.f94, r94, k94, Tryz.func94, e94⟩
 ·cases h; exact .inl ⟨Tryz.f95, r95, k95, Tryz.func95, e95⟩
 ·cases h; exact .inl ⟨Tryz.f96, r96, k96, Tryz.func96, e96⟩
 ·cases h; exact .inl ⟨Tryz.f97, r97, k97, Tryz.func97, e97⟩
 ·cases h; exact .inl ⟨Tryz.f98, r98, k98, Tryz.func98, e98⟩
 ·cases h; exact .inl ⟨Tryz.f99, r99, k99, Tryz.func99, e99⟩
 ·cases h; exact .inl ⟨Tryz.f100, r100, k100, Tryz.func100, e100⟩
 ·cases h; exact .inl ⟨Tryz.f101, r101, k101, Tryz.func101, e101⟩
 ·cases h; exact .inl ⟨Tryz.f102, r102, k102, Tryz.func102, e102⟩
 ·cases h; exact .inl ⟨Tryz.f103, r103, k103, Tryz.func103, e103⟩
 ·cases h; exact .inl ⟨Tryz.f104, r104, k104, Tryz.func104, e104⟩
 ·cases h; exact .inl ⟨Tryz.f105, r105, k105, Tryz.func105, e105⟩
 ·cases h; exact .inl ⟨Tryz.f106, r106, k106, Tryz.func106, e106⟩
 ·cases h; exact .inl ⟨Tryz.f107, r107, k107, Tryz.func107, e107⟩
 ·cases h; exact .inl ⟨Tryz.f108, r108, k108, Tryz.func108, e108⟩
 ·cases h; exact .inl ⟨Tryz.f109, r109, k109, Tryz.func109, e109⟩
 ·cases h; exact .inl ⟨Tryz.f110, r110, k110, Tryz.func110, e110⟩
 ·cases h; exact .inl ⟨Tryz.f111, r111, k111, Tryz.func111, e111⟩
 ·cases h; exact .inl ⟨Tryz.f112, r112, k112, Tryz.func112, e112⟩
 ·cases h; exact .inl ⟨Tryz.f113, r113, k113, Tryz.func113, e113⟩
 ·cases h; exact .inl ⟨Tryz.f114, r114, k114, Tryz.func114, e114⟩
 ·cases h; exact .inl ⟨Tryz.f115, r115, k115, Tryz.func115, e115⟩
 ·cases h; exact .inl ⟨Tryz.f116, r116, k116, Tryz.func116, e116⟩
 ·cases h; exact .inr (.inr (.inr ⟨_, _, _, rfl, told163⟩))
 ·cases h; exact .inr (.inl ⟨1, _, rfl, clone119⟩)
 ·cases h; exact .inl ⟨Tryz.f120, r120, k120, Tryz.func120, e120⟩
 ·cases h; exact .inl ⟨Tryz.f121, r121, k121, Tryz.func121, e121⟩
 ·cases h; exact .inl ⟨Tryz.f122, r122, k122, Tryz.func122, e122⟩
 ·cases h; exact .inl ⟨Tryz.f123, r123, k123, Tryz.func123, e123⟩
 ·cases h; exact .inl ⟨Tryz.f124, r124, k124, Tryz.func124, e124⟩
 ·cases h; exact .inl ⟨Tryz.f125, r125, k125, Tryz.func125, e125⟩
 ·cases h; exact .inl ⟨Tryz.f126, r126, k126, Tryz.func126, e126⟩
 ·cases h; exact .inl ⟨Tryz.f127, r127, k127, Tryz.func127, e127⟩
 ·cases h; exact .inl ⟨Tryz.f128, r128, k128, Tryz.func128, e128⟩
 ·cases h; exact .inl ⟨Tryz.f129, r129, k129, Tryz.func129, e129⟩
 ·cases h; exact .inl ⟨Tryz.f130, r130, k130, Tryz.func130, e130⟩
end Gv
