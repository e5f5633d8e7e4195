/-
  No cell of these rows narrows 'for every input' (looked for: loops, veiled, ifaces, maps, wideKeys, modest, calm, conditions, laid).
  DERIVED. THE GIVEN ROWS OF THIS SEAT. 3 by the template 'for every input the law returns true; each argument reads behind the call as it read before'; 0 by the template 'total and deterministic' (their statements: YtpbpkbckgifhdaaGreatTotals.lean).
  GIVEN WITH THE SEED: the statements are not yours to turn. If you find one false, say at which input.
  Laid BY PROGRAM, IN A SANDBOX (cutbox-rows.mjs): the forced cells as the released guide's own fill.sh prints them over the translation ff3f7bff24b2d9dc… (all of the seat's roots in one cut). By AI agents, Wed Nov 11 2026. No macro, syntax, notation, axiom, sorry.
-/
import Derived.Test.YtpbpkbckgifhdaaGreatChecked
import GoSem.Claim
import GoSem.ClaimJoined
import GoSem.ClaimMapViews
import Derived.JoinedTies
import Derived.KernelRfl
namespace Go.Proofs.YtpbpkbckgifhdaaGreat
/- THE CELL 'sum', in the pinned program and in every row, IS THE sha256 OF THE DUMP (.gsa) THAT YtpbpkbckgifhdaaGreatProg.lean LOADS. Nothing in Lean hashes anything: it is a label: what it is worth is what the hold of that sum in a sandbox is worth. -/
noncomputable def Tryz.pinned : Pinned := { name := "ytpbpkbckgifhdaagreat", sum := "ff3f7bff24b2d9dc24879c9c8458c69fcfb0f17fa9a518d2f84c44564cfcb9c6", checked := Tryz.checked }
namespace Rows
def none {H : Type} : Left H := { results := [], args := [] }

/-- 'glidepathlaw06.WakeCheapest': WHATEVER THE INPUT: true; the input reads as it did. -/
def wakeCheapestSpec : ChangeSpec := { name := "wakeCheapest", fn := fun _ => fun
  | [d1, d2] => { results := [.lit (.bool true)], args := [d1, d2] }
  | _ => none }
def wakeCheapestRow : OpenClaim := { program := "ytpbpkbckgifhdaagreat", sum := "ff3f7bff24b2d9dc24879c9c8458c69fcfb0f17fa9a518d2f84c44564cfcb9c6", func := "glidepath/glidepathlaw06.WakeCheapest", spec := "wakeCheapest", unfollowed := true, recurses := true, apart := false }
def WakeCheapestSaid : Prop := wakeCheapestRow.holds Tryz.pinned (OpenSpec.ofChange wakeCheapestSpec)

/-- ITS FALSE NEIGHBOUR: 'it returns false'. Refute it at one input. -/
def wakeCheapestWrong : ChangeSpec := { name := "wakeCheapest", fn := fun _ => fun
  | [d1, d2] => { results := [.lit (.bool false)], args := [d1, d2] }
  | _ => none }
def WakeCheapestWrongFalsely : Prop := wakeCheapestRow.holds Tryz.pinned (OpenSpec.ofChange wakeCheapestWrong)

/-- 'glidepathlaw06.WakeLinks': WHATEVER THE INPUT: true; the input reads as it did. -/
def wakeLinksSpec : ChangeSpec := { name := "wakeLinks", fn := fun _ => fun
  | [d1, d2, d3] => { results := [.lit (.bool true)], args := [d1, d2, d3] }
  | _ => none }
def wakeLinksRow : OpenClaim := { program := "ytpbpkbckgifhdaagreat", sum := "ff3f7bff24b2d9dc24879c9c8458c69fcfb0f17fa9a518d2f84c44564cfcb9c6", func := "glidepath/glidepathlaw06.WakeLinks", spec := "wakeLinks", unfollowed := true, recurses := true, apart := false }
def WakeLinksSaid : Prop := wakeLinksRow.holds Tryz.pinned (OpenSpec.ofChange wakeLinksSpec)

/-- ITS FALSE NEIGHBOUR: 'it returns false'. Refute it at one input. -/
def wakeLinksWrong : ChangeSpec := { name := "wakeLinks", fn := fun _ => fun
  | [d1, d2, d3] => { results := [.lit (.bool false)], args := [d1, d2, d3] }
  | _ => none }
def WakeLinksWrongFalsely : Prop := wakeLinksRow.holds Tryz.pinned (OpenSpec.ofChange wakeLinksWrong)

/-- 'glidepathlaw06.WakeTracks': WHATEVER THE INPUT: true; the input reads as it did. -/
def wakeTracksSpec : ChangeSpec := { name := "wakeTracks", fn := fun _ => fun
  | [d1, d2] => { results := [.lit (.bool true)], args := [d1, d2] }
  | _ => none }
def wakeTracksRow : OpenClaim := { program := "ytpbpkbckgifhdaagreat", sum := "ff3f7bff24b2d9dc24879c9c8458c69fcfb0f17fa9a518d2f84c44564cfcb9c6", func := "glidepath/glidepathlaw06.WakeTracks", spec := "wakeTracks", unfollowed := true, recurses := true, apart := false }
def WakeTracksSaid : Prop := wakeTracksRow.holds Tryz.pinned (OpenSpec.ofChange wakeTracksSpec)

/-- ITS FALSE NEIGHBOUR: 'it returns false'. Refute it at one input. -/
def wakeTracksWrong : ChangeSpec := { name := "wakeTracks", fn := fun _ => fun
  | [d1, d2] => { results := [.lit (.bool false)], args := [d1, d2] }
  | _ => none }
def WakeTracksWrongFalsely : Prop := wakeTracksRow.holds Tryz.pinned (OpenSpec.ofChange wakeTracksWrong)

/- THE SECOND FORM. 'bulk': how many values and letters a reading holds, each counted each time it is reached (what is shared counts as often as it is met; a slice's spare places count too). A statement '..UptoSaid' is the law's where the arguments, and the package variables that the reading takes, are together of bulk at most 1048576: NARROWER than '..Said'. Prove '..Said' where nothing that the law and all that it calls make is longer than what came in: it says more and counts as full. Else prove '..UptoSaid'. A law counts once. -/
mutual
def uptoBulk {H : Type} : DataW H → Nat
  | .lit (.string bytes) => bytes.length + 1
  | .lit _ => 1
  | .nil => 1
  | .ptr d => uptoBulk d + 1
  | .slice elems spare => uptoBulkAll elems + uptoBulkAll spare + 1
  | .agg parts => uptoBulkAll parts + 1
  | .iface _ d => uptoBulk d + 1
  | .map entries => uptoBulkEntries entries + 1
  | .held _ => 1
def uptoBulkAll {H : Type} : List (DataW H) → Nat
  | [] => 0
  | d :: r => uptoBulk d + uptoBulkAll r
def uptoBulkEntries {H : Type} : List (Lit × DataW H) → Nat
  | [] => 0
  | x :: r => uptoBulkEntry x + uptoBulkEntries r
def uptoBulkEntry {H : Type} : Lit × DataW H → Nat
  | (.string bytes, d) => bytes.length + uptoBulk d + 1
  | (_, d) => uptoBulk d + 1
 end
def uptoSmall : (H : Type) → List (DataW H) → Bool := fun _ ds => decide (uptoBulkAll ds ≤ 1048576)
def OpenSpec.upto (s : _root_.Go.ChangeSpec) : _root_.Go.OpenSpec := { _root_.Go.OpenSpec.ofChange s with cond := some uptoSmall }

/-- 'glidepathlaw06.WakeCheapest', WHERE WHAT IT READS IS OF BULK AT MOST 1048576: true; the input reads as it did. -/
def wakeCheapestUptoRow : OpenClaim := { program := "ytpbpkbckgifhdaagreat", sum := "ff3f7bff24b2d9dc24879c9c8458c69fcfb0f17fa9a518d2f84c44564cfcb9c6", func := "glidepath/glidepathlaw06.WakeCheapest", spec := "wakeCheapest", unfollowed := true, recurses := true, apart := false, narrowed := true }
def WakeCheapestUptoSaid : Prop := wakeCheapestUptoRow.holds Tryz.pinned (OpenSpec.upto wakeCheapestSpec)

/-- 'glidepathlaw06.WakeLinks', WHERE WHAT IT READS IS OF BULK AT MOST 1048576: true; the input reads as it did. -/
def wakeLinksUptoRow : OpenClaim := { program := "ytpbpkbckgifhdaagreat", sum := "ff3f7bff24b2d9dc24879c9c8458c69fcfb0f17fa9a518d2f84c44564cfcb9c6", func := "glidepath/glidepathlaw06.WakeLinks", spec := "wakeLinks", unfollowed := true, recurses := true, apart := false, narrowed := true }
def WakeLinksUptoSaid : Prop := wakeLinksUptoRow.holds Tryz.pinned (OpenSpec.upto wakeLinksSpec)

/-- 'glidepathlaw06.WakeTracks', WHERE WHAT IT READS IS OF BULK AT MOST 1048576: true; the input reads as it did. -/
def wakeTracksUptoRow : OpenClaim := { program := "ytpbpkbckgifhdaagreat", sum := "ff3f7bff24b2d9dc24879c9c8458c69fcfb0f17fa9a518d2f84c44564cfcb9c6", func := "glidepath/glidepathlaw06.WakeTracks", spec := "wakeTracks", unfollowed := true, recurses := true, apart := false, narrowed := true }
def WakeTracksUptoSaid : Prop := wakeTracksUptoRow.holds Tryz.pinned (OpenSpec.upto wakeTracksSpec)

end Rows
end Go.Proofs.YtpbpkbckgifhdaaGreat
