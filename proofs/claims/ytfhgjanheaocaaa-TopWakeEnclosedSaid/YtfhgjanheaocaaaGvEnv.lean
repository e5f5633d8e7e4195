/- The program's functions, as the abstract machine runs them. -/
import Derived.Test.YtfhgjanheaocaaaGvEnvA
import Derived.Test.YtfhgjanheaocaaaGvClo
import Derived.Test.YtfhgjanheaocaaaGvTold
namespace Gv
open Go Go.Proofs
set_option maxRecDepth 100000

def env (f : Nat) : Option AFn := match f with
  | 4 => some a4
  | 9 => some a9
  | 12 => some a12
  | 13 => some a13
  | 14 => some a14
  | 15 => some a15
  | 16 => some a16
  | 17 => some a17
  | 18 => some a18
  | 19 => some a19
  | 20 => some a20
  | 21 => some a21
  | 22 => some a22
  | 23 => some a23
  | 24 => some a24
  | 25 => some a25
  | 26 => some a26
  | 32 => some a32
  | 33 => some a33
  | 34 => some a34
  | 35 => some a35
  | 38 => some a38
  | 40 => some a40
  | 41 => some a41
  | 43 => some a43
  | 45 => some a45
  | 46 => some a46
  | 47 => some a47
  | 48 => some a48
  | 49 => some a49
  | 50 => some a50
  | 51 => some a51
  | 52 => some a52
  | 53 => some a53
  | 54 => some a54
  | 55 => some a55
  | 56 => some a56
  | 57 => some a57
  | 58 => some a58
  | 59 => some a59
  | 60 => some a60
  | 61 => some a61
  | 62 => some a62
  | 63 => some a63
  | 69 => some a69
  | 73 => some (primA 3 linksG)
  | 74 => some a74
  | 77 => some a77
  | 78 => some a78
  | 79 => some a79
  | 80 => some a80
  | 81 => some a81
  | 82 => some a82
  | 83 => some a83
  | 84 => some a84
  | 85 => some a85
  | 94 => some a94
  | 95 => some a95
  | 96 => some a96
  | 97 => some a97
  | 105 => some a105
  | 106 => some a106
  | 109 => some (toldA 2 [none] ordersG)
  | 111 => some (primA 1 (cloneG 1))
  | _ => none
theorem env_ok : EnvOK Try.prog env := by
  intro f af h
  unfold env at h
  split at h <;> first | (cases h; done) | skip
  · cases h; exact .inl ⟨Try.f4, r4, k4, Try.func4, e4⟩
  · cases h; exact .inl ⟨Try.f9, r9, k9, Try.func9, e9⟩
  · cases h; exact .inl ⟨Try.f12, r12, k12, Try.func12, e12⟩
  · cases h; exact .inl ⟨Try.f13, r13, k13, Try.func13, e13⟩
  · cases h; exact .inl ⟨Try.f14, r14, k14, Try.func14, e14⟩
  · cases h; exact .inl ⟨Try.f15, r15, k15, Try.func15, e15⟩
  · cases h; exact .inl ⟨Try.f16, r16, k16, Try.func16, e16⟩
  · cases h; exact .inl ⟨Try.f17, r17, k17, Try.func17, e17⟩
  · cases h; exact .inl ⟨Try.f18, r18, k18, Try.func18, e18⟩
  · cases h; exact .inl ⟨Try.f19, r19, k19, Try.func19, e19⟩
  · cases h; exact .inl ⟨Try.f20, r20, k20, Try.func20, e20⟩
  · cases h; exact .inl ⟨Try.f21, r21, k21, Try.func21, e21⟩
  · cases h; exact .inl ⟨Try.f22, r22, k22, Try.func22, e22⟩
  · cases h; exact .inl ⟨Try.f23, r23, k23, Try.func23, e23⟩
  · cases h; exact .inl ⟨Try.f24, r24, k24, Try.func24, e24⟩
  · cases h; exact .inl ⟨Try.f25, r25, k25, Try.func25, e25⟩
  · cases h; exact .inl ⟨Try.f26, r26, k26, Try.func26, e26⟩
  · cases h; exact .inl ⟨Try.f32, r32, k32, Try.func32, e32⟩
  · cases h; exact .inl ⟨Try.f33, r33, k33, Try.func33, e33⟩
  · cases h; exact .inl ⟨Try.f34, r34, k34, Try.func34, e34⟩
  · cases h; exact .inl ⟨Try.f35, r35, k35, Try.func35, e35⟩
  · cases h; exact .inl ⟨Try.f38, r38, k38, Try.func38, e38⟩
  · cases h; exact .inl ⟨Try.f40, r40, k40, Try.func40, e40⟩
  · cases h; exact .inl ⟨Try.f41, r41, k41, Try.func41, e41⟩
  · cases h; exact .inl ⟨Try.f43, r43, k43, Try.func43, e43⟩
  · cases h; exact .inl ⟨Try.f45, r45, k45, Try.func45, e45⟩
  · cases h; exact .inl ⟨Try.f46, r46, k46, Try.func46, e46⟩
  · cases h; exact .inl ⟨Try.f47, r47, k47, Try.func47, e47⟩
  · cases h; exact .inl ⟨Try.f48, r48, k48, Try.func48, e48⟩
  · cases h; exact .inl ⟨Try.f49, r49, k49, Try.func49, e49⟩
  · cases h; exact .inl ⟨Try.f50, r50, k50, Try.func50, e50⟩
  · cases h; exact .inl ⟨Try.f51, r51, k51, Try.func51, e51⟩
  · cases h; exact .inl ⟨Try.f52, r52, k52, Try.func52, e52⟩
  · cases h; exact .inl ⟨Try.f53, r53, k53, Try.func53, e53⟩
  · cases h; exact .inl ⟨Try.f54, r54, k54, Try.func54, e54⟩
  · cases h; exact .inl ⟨Try.f55, r55, k55, Try.func55, e55⟩
  · cases h; exact .inl ⟨Try.f56, r56, k56, Try.func56, e56⟩
  · cases h; exact .inl ⟨Try.f57, r57, k57, Try.func57, e57⟩
  · cases h; exact .inl ⟨Try.f58, r58, k58, Try.func58, e58⟩
  · cases h; exact .inl ⟨Try.f59, r59, k59, Try.func59, e59⟩
  · cases h; exact .inl ⟨Try.f60, r60, k60, Try.func60, e60⟩
  · cases h; exact .inl ⟨Try.f61, r61, k61, Try.func61, e61⟩
  · cases h; exact .inl ⟨Try.f62, r62, k62, Try.func62, e62⟩
  · cases h; exact .inl ⟨Try.f63, r63, k63, Try.func63, e63⟩
  · cases h; exact .inl ⟨Try.f69, r69, k69, Try.func69, e69⟩
  · cases h; exact .inr (.inl ⟨_, _, rfl, prim114⟩)
  · cases h; exact .inl ⟨Try.f74, r74, k74, Try.func74, e74⟩
  · cases h; exact .inl ⟨Try.f77, r77, k77, Try.func77, e77⟩
  · cases h; exact .inl ⟨Try.f78, r78, k78, Try.func78, e78⟩
  · cases h; exact .inl ⟨Try.f79, r79, k79, Try.func79, e79⟩
  · cases h; exact .inl ⟨Try.f80, r80, k80, Try.func80, e80⟩
  · cases h; exact .inl ⟨Try.f81, r81, k81, Try.func81, e81⟩
  · cases h; exact .inl ⟨Try.f82, r82, k82, Try.func82, e82⟩
  · cases h; exact .inl ⟨Try.f83, r83, k83, Try.func83, e83⟩
  · cases h; exact .inl ⟨Try.f84, r84, k84, Try.func84, e84⟩
  · cases h; exact .inl ⟨Try.f85, r85, k85, Try.func85, e85⟩
  · cases h; exact .inl ⟨Try.f94, r94, k94, Try.func94, e94⟩
  · cases h; exact .inl ⟨Try.f95, r95, k95, Try.func95, e95⟩
  · cases h; exact .inl ⟨Try.f96, r96, k96, Try.func96, e96⟩
  · cases h; exact .inl ⟨Try.f97, r97, k97, Try.func97, e97⟩
  · cases h; exact .inl ⟨Try.f105, r105, k105, Try.func105, e105⟩
  · cases h; exact .inl ⟨Try.f106, r106, k106, Try.func106, e106⟩
  · cases h; exact .inr (.inr (.inr ⟨_, _, _, rfl, told163⟩))
  · cases h; exact .inr (.inl ⟨1, _, rfl, clone111⟩)
end Gv
