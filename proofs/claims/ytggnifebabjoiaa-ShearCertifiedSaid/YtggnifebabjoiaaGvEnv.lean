/- The program's functions, as the abstract machine runs them. -/
import Derived.Test.YtggnifebabjoiaaGvEnvA
namespace Gv
open Go Go.Proofs
set_option maxRecDepth 100000

def env (f : Nat) : Option AFn := match f with
  | 5 => some a5
  | 13 => some a13
  | 18 => some a18
  | 20 => some a20
  | 21 => some a21
  | 22 => some a22
  | 24 => some a24
  | 25 => some a25
  | 26 => some a26
  | 27 => some a27
  | 28 => some a28
  | 29 => some a29
  | 31 => some a31
  | 32 => some a32
  | 34 => some a34
  | 37 => some a37
  | 39 => some a39
  | 47 => some a47
  | 54 => some a54
  | 57 => some a57
  | 59 => some a59
  | 65 => some a65
  | 70 => some a70
  | 71 => some a71
  | 72 => some a72
  | 73 => some a73
  | 74 => some a74
  | 75 => some a75
  | 78 => some a78
  | 79 => some a79
  | 80 => some a80
  | 83 => some a83
  | 84 => some a84
  | 85 => some a85
  | 86 => some a86
  | 87 => some a87
  | 88 => some a88
  | 89 => some a89
  | 90 => some a90
  | 91 => some a91
  | 92 => some a92
  | 93 => some a93
  | 95 => some a95
  | 97 => some a97
  | 98 => some a98
  | 103 => some a103
  | 104 => some a104
  | 105 => some a105
  | 106 => some a106
  | 107 => some a107
  | 109 => some a109
  | 110 => some a110
  | 112 => some a112
  | 114 => some a114
  | 115 => some a115
  | 116 => some a116
  | 117 => some a117
  | 118 => some a118
  | 119 => some a119
  | 120 => some a120
  | 121 => some a121
  | 122 => some a122
  | 123 => some a123
  | _ => none
theorem env_ok : EnvOK Try.prog env := by
  intro f af h
  unfold env at h
  split at h <;> first | (cases h; done) | skip
  · cases h; exact .inl ⟨Try.f5, r5, k5, Try.func5, e5⟩
  · cases h; exact .inl ⟨Try.f13, r13, k13, Try.func13, e13⟩
  · cases h; exact .inl ⟨Try.f18, r18, k18, Try.func18, e18⟩
  · cases h; exact .inl ⟨Try.f20, r20, k20, Try.func20, e20⟩
  · cases h; exact .inl ⟨Try.f21, r21, k21, Try.func21, e21⟩
  · cases h; exact .inl ⟨Try.f22, r22, k22, Try.func22, e22⟩
  · cases h; exact .inl ⟨Try.f24, r24, k24, Try.func24, e24⟩
  · cases h; exact .inl ⟨Try.f25, r25, k25, Try.func25, e25⟩
  · cases h; exact .inl ⟨Try.f26, r26, k26, Try.func26, e26⟩
  · cases h; exact .inl ⟨Try.f27, r27, k27, Try.func27, e27⟩
  · cases h; exact .inl ⟨Try.f28, r28, k28, Try.func28, e28⟩
  · cases h; exact .inl ⟨Try.f29, r29, k29, Try.func29, e29⟩
  · cases h; exact .inl ⟨Try.f31, r31, k31, Try.func31, e31⟩
  · cases h; exact .inl ⟨Try.f32, r32, k32, Try.func32, e32⟩
  · cases h; exact .inl ⟨Try.f34, r34, k34, Try.func34, e34⟩
  · cases h; exact .inl ⟨Try.f37, r37, k37, Try.func37, e37⟩
  · cases h; exact .inl ⟨Try.f39, r39, k39, Try.func39, e39⟩
  · cases h; exact .inl ⟨Try.f47, r47, k47, Try.func47, e47⟩
  · cases h; exact .inl ⟨Try.f54, r54, k54, Try.func54, e54⟩
  · cases h; exact .inl ⟨Try.f57, r57, k57, Try.func57, e57⟩
  · cases h; exact .inl ⟨Try.f59, r59, k59, Try.func59, e59⟩
  · cases h; exact .inl ⟨Try.f65, r65, k65, Try.func65, e65⟩
  · cases h; exact .inl ⟨Try.f70, r70, k70, Try.func70, e70⟩
  · cases h; exact .inl ⟨Try.f71, r71, k71, Try.func71, e71⟩
  · cases h; exact .inl ⟨Try.f72, r72, k72, Try.func72, e72⟩
  · cases h; exact .inl ⟨Try.f73, r73, k73, Try.func73, e73⟩
  · cases h; exact .inl ⟨Try.f74, r74, k74, Try.func74, e74⟩
  · cases h; exact .inl ⟨Try.f75, r75, k75, Try.func75, e75⟩
  · cases h; exact .inl ⟨Try.f78, r78, k78, Try.func78, e78⟩
  · cases h; exact .inl ⟨Try.f79, r79, k79, Try.func79, e79⟩
  · cases h; exact .inl ⟨Try.f80, r80, k80, Try.func80, e80⟩
  · cases h; exact .inl ⟨Try.f83, r83, k83, Try.func83, e83⟩
  · cases h; exact .inl ⟨Try.f84, r84, k84, Try.func84, e84⟩
  · cases h; exact .inl ⟨Try.f85, r85, k85, Try.func85, e85⟩
  · cases h; exact .inl ⟨Try.f86, r86, k86, Try.func86, e86⟩
  · cases h; exact .inl ⟨Try.f87, r87, k87, Try.func87, e87⟩
  · cases h; exact .inl ⟨Try.f88, r88, k88, Try.func88, e88⟩
  · cases h; exact .inl ⟨Try.f89, r89, k89, Try.func89, e89⟩
  · cases h; exact .inl ⟨Try.f90, r90, k90, Try.func90, e90⟩
  · cases h; exact .inl ⟨Try.f91, r91, k91, Try.func91, e91⟩
  · cases h; exact .inl ⟨Try.f92, r92, k92, Try.func92, e92⟩
  · cases h; exact .inl ⟨Try.f93, r93, k93, Try.func93, e93⟩
  · cases h; exact .inl ⟨Try.f95, r95, k95, Try.func95, e95⟩
  · cases h; exact .inl ⟨Try.f97, r97, k97, Try.func97, e97⟩
  · cases h; exact .inl ⟨Try.f98, r98, k98, Try.func98, e98⟩
  · cases h; exact .inl ⟨Try.f103, r103, k103, Try.func103, e103⟩
  · cases h; exact .inl ⟨Try.f104, r104, k104, Try.func104, e104⟩
  · cases h; exact .inl ⟨Try.f105, r105, k105, Try.func105, e105⟩
  · cases h; exact .inl ⟨Try.f106, r106, k106, Try.func106, e106⟩
  · cases h; exact .inl ⟨Try.f107, r107, k107, Try.func107, e107⟩
  · cases h; exact .inl ⟨Try.f109, r109, k109, Try.func109, e109⟩
  · cases h; exact .inl ⟨Try.f110, r110, k110, Try.func110, e110⟩
  · cases h; exact .inl ⟨Try.f112, r112, k112, Try.func112, e112⟩
  · cases h; exact .inl ⟨Try.f114, r114, k114, Try.func114, e114⟩
  · cases h; exact .inl ⟨Try.f115, r115, k115, Try.func115, e115⟩
  · cases h; exact .inl ⟨Try.f116, r116, k116, Try.func116, e116⟩
  · cases h; exact .inl ⟨Try.f117, r117, k117, Try.func117, e117⟩
  · cases h; exact .inl ⟨Try.f118, r118, k118, Try.func118, e118⟩
  · cases h; exact .inl ⟨Try.f119, r119, k119, Try.func119, e119⟩
  · cases h; exact .inl ⟨Try.f120, r120, k120, Try.func120, e120⟩
  · cases h; exact .inl ⟨Try.f121, r121, k121, Try.func121, e121⟩
  · cases h; exact .inl ⟨Try.f122, r122, k122, Try.func122, e122⟩
  · cases h; exact .inl ⟨Try.f123, r123, k123, Try.func123, e123⟩
end Gv
