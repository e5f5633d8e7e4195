/- The program's functions, as the abstract machine runs them. -/
import Derived.Test.YtkbahledgljaoaaGvEnvA
import Derived.Test.YtkbahledgljaoaaGvTold
namespace Gv
open Go Go.Proofs
set_option maxRecDepth 100000

def env (f : Nat) : Option AFn := match f with
  | 3 => some a3
  | 10 => some a10
  | 11 => some a11
  | 12 => some a12
  | 13 => some a13
  | 14 => some a14
  | 15 => some a15
  | 16 => some a16
  | 17 => some a17
  | 18 => some a18
  | 19 => some a19
  | 20 => some a20
  | 22 => some a22
  | 29 => some a29
  | 35 => some (primA 2 ceilH)
  | 41 => some a41
  | 43 => some (primA 2 eyeH)
  | 49 => some a49
  | 50 => some a50
  | 51 => some a51
  | 52 => some a52
  | 53 => some a53
  | 54 => some a54
  | 55 => some a55
  | 56 => some a56
  | 57 => some a57
  | 58 => some a58
  | 59 => some a59
  | 60 => some a60
  | 61 => some a61
  | 62 => some a62
  | 63 => some a63
  | 64 => some a64
  | 66 => some a66
  | 67 => some a67
  | 68 => some a68
  | 70 => some a70
  | 71 => some a71
  | 79 => some a79
  | 80 => some a80
  | 81 => some a81
  | 82 => some (primA 1 midG)
  | 83 => some a83
  | 84 => some a84
  | 85 => some (primA 2 turnsG)
  | 86 => some a86
  | 93 => some a93
  | 94 => some a94
  | 95 => some a95
  | 96 => some a96
  | 97 => some a97
  | 98 => some (primA 3 grownG)
  | 99 => some a99
  | 100 => some a100
  | 103 => some a103
  | 104 => some a104
  | 105 => some a105
  | 108 => some a108
  | 109 => some a109
  | 110 => some a110
  | 111 => some a111
  | 112 => some a112
  | 117 => some a117
  | _ => none
theorem env_ok : EnvOK Try.prog env := by
  intro f af h
  unfold env at h
  split at h <;> first | (cases h; done) | skip
  · cases h; exact .inl ⟨Try.f3, r3, k3, Try.func3, e3⟩
  · cases h; exact .inl ⟨Try.f10, r10, k10, Try.func10, e10⟩
  · cases h; exact .inl ⟨Try.f11, r11, k11, Try.func11, e11⟩
  · cases h; exact .inl ⟨Try.f12, r12, k12, Try.func12, e12⟩
  · cases h; exact .inl ⟨Try.f13, r13, k13, Try.func13, e13⟩
  · cases h; exact .inl ⟨Try.f14, r14, k14, Try.func14, e14⟩
  · cases h; exact .inl ⟨Try.f15, r15, k15, Try.func15, e15⟩
  · cases h; exact .inl ⟨Try.f16, r16, k16, Try.func16, e16⟩
  · cases h; exact .inl ⟨Try.f17, r17, k17, Try.func17, e17⟩
  · cases h; exact .inl ⟨Try.f18, r18, k18, Try.func18, e18⟩
  · cases h; exact .inl ⟨Try.f19, r19, k19, Try.func19, e19⟩
  · cases h; exact .inl ⟨Try.f20, r20, k20, Try.func20, e20⟩
  · cases h; exact .inl ⟨Try.f22, r22, k22, Try.func22, e22⟩
  · cases h; exact .inl ⟨Try.f29, r29, k29, Try.func29, e29⟩
  · cases h; exact .inr (.inl ⟨_, _, rfl, ceil35z⟩)
  · cases h; exact .inl ⟨Try.f41, r41, k41, Try.func41, e41⟩
  · cases h; exact .inr (.inl ⟨_, _, rfl, eye43z⟩)
  · cases h; exact .inl ⟨Try.f49, r49, k49, Try.func49, e49⟩
  · cases h; exact .inl ⟨Try.f50, r50, k50, Try.func50, e50⟩
  · cases h; exact .inl ⟨Try.f51, r51, k51, Try.func51, e51⟩
  · cases h; exact .inl ⟨Try.f52, r52, k52, Try.func52, e52⟩
  · cases h; exact .inl ⟨Try.f53, r53, k53, Try.func53, e53⟩
  · cases h; exact .inl ⟨Try.f54, r54, k54, Try.func54, e54⟩
  · cases h; exact .inl ⟨Try.f55, r55, k55, Try.func55, e55⟩
  · cases h; exact .inl ⟨Try.f56, r56, k56, Try.func56, e56⟩
  · cases h; exact .inl ⟨Try.f57, r57, k57, Try.func57, e57⟩
  · cases h; exact .inl ⟨Try.f58, r58, k58, Try.func58, e58⟩
  · cases h; exact .inl ⟨Try.f59, r59, k59, Try.func59, e59⟩
  · cases h; exact .inl ⟨Try.f60, r60, k60, Try.func60, e60⟩
  · cases h; exact .inl ⟨Try.f61, r61, k61, Try.func61, e61⟩
  · cases h; exact .inl ⟨Try.f62, r62, k62, Try.func62, e62⟩
  · cases h; exact .inl ⟨Try.f63, r63, k63, Try.func63, e63⟩
  · cases h; exact .inl ⟨Try.f64, r64, k64, Try.func64, e64⟩
  · cases h; exact .inl ⟨Try.f66, r66, k66, Try.func66, e66⟩
  · cases h; exact .inl ⟨Try.f67, r67, k67, Try.func67, e67⟩
  · cases h; exact .inl ⟨Try.f68, r68, k68, Try.func68, e68⟩
  · cases h; exact .inl ⟨Try.f70, r70, k70, Try.func70, e70⟩
  · cases h; exact .inl ⟨Try.f71, r71, k71, Try.func71, e71⟩
  · cases h; exact .inl ⟨Try.f79, r79, k79, Try.func79, e79⟩
  · cases h; exact .inl ⟨Try.f80, r80, k80, Try.func80, e80⟩
  · cases h; exact .inl ⟨Try.f81, r81, k81, Try.func81, e81⟩
  · cases h; exact .inr (.inl ⟨_, _, rfl, mid82⟩)
  · cases h; exact .inl ⟨Try.f83, r83, k83, Try.func83, e83⟩
  · cases h; exact .inl ⟨Try.f84, r84, k84, Try.func84, e84⟩
  · cases h; exact .inr (.inl ⟨_, _, rfl, turns85⟩)
  · cases h; exact .inl ⟨Try.f86, r86, k86, Try.func86, e86⟩
  · cases h; exact .inl ⟨Try.f93, r93, k93, Try.func93, e93⟩
  · cases h; exact .inl ⟨Try.f94, r94, k94, Try.func94, e94⟩
  · cases h; exact .inl ⟨Try.f95, r95, k95, Try.func95, e95⟩
  · cases h; exact .inl ⟨Try.f96, r96, k96, Try.func96, e96⟩
  · cases h; exact .inl ⟨Try.f97, r97, k97, Try.func97, e97⟩
  · cases h; exact .inr (.inl ⟨_, _, rfl, grown98⟩)
  · cases h; exact .inl ⟨Try.f99, r99, k99, Try.func99, e99⟩
  · cases h; exact .inl ⟨Try.f100, r100, k100, Try.func100, e100⟩
  · cases h; exact .inl ⟨Try.f103, r103, k103, Try.func103, e103⟩
  · cases h; exact .inl ⟨Try.f104, r104, k104, Try.func104, e104⟩
  · cases h; exact .inl ⟨Try.f105, r105, k105, Try.func105, e105⟩
  · cases h; exact .inl ⟨Try.f108, r108, k108, Try.func108, e108⟩
  · cases h; exact .inl ⟨Try.f109, r109, k109, Try.func109, e109⟩
  · cases h; exact .inl ⟨Try.f110, r110, k110, Try.func110, e110⟩
  · cases h; exact .inl ⟨Try.f111, r111, k111, Try.func111, e111⟩
  · cases h; exact .inl ⟨Try.f112, r112, k112, Try.func112, e112⟩
  · cases h; exact .inl ⟨Try.f117, r117, k117, Try.func117, e117⟩
end Gv
