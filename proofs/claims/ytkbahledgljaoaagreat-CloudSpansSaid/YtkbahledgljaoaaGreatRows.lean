/-
  No cell of these rows narrows 'for every input' (looked for: loops, veiled, ifaces, maps, wideKeys, modest, calm, conditions, laid).
  DERIVED. THE GIVEN ROWS OF THIS SEAT. 5 by the template 'for every input the law returns true; each argument reads behind the call as it read before'; 0 by the template 'total and deterministic' (their statements: YtkbahledgljaoaaGreatTotals.lean).
  GIVEN WITH THE SEED: the statements are not yours to turn. If you find one false, say at which input.
  Laid BY PROGRAM, IN A SANDBOX (cutbox-rows.mjs): the forced cells as the released guide's own fill.sh prints them over the translation 0eaa61a3d9b4d945… (all of the seat's roots in one cut). By AI agents, Wed Nov 11 2026. No macro, syntax, notation, axiom, sorry.
-/
import Derived.Test.YtkbahledgljaoaaGreatChecked
import GoSem.Claim
import GoSem.ClaimJoined
import GoSem.ClaimMapViews
import Derived.JoinedTies
import Derived.KernelRfl
namespace Go.Proofs.YtkbahledgljaoaaGreat
/- THE CELL 'sum', in the pinned program and in every row, IS THE sha256 OF THE DUMP (.gsa) THAT YtkbahledgljaoaaGreatProg.lean LOADS. Nothing in Lean hashes anything: it is a label: what it is worth is what the hold of that sum in a sandbox is worth. -/
noncomputable def Tryz.pinned : Pinned := { name := "ytkbahledgljaoaagreat", sum := "0eaa61a3d9b4d9458ab89c16e51076388c090c4ed9b0757e3f0be4745bf97970", checked := Tryz.checked }
namespace Rows
def none {H : Type} : Left H := { results := [], args := [] }

/-- 'glidepathlaw08.CloudProfiles': WHATEVER THE INPUT: true; the input reads as it did. -/
def cloudProfilesSpec : ChangeSpec := { name := "cloudProfiles", fn := fun _ => fun
  | [d1, d2, d3] => { results := [.lit (.bool true)], args := [d1, d2, d3] }
  | _ => none }
def cloudProfilesRow : OpenClaim := { program := "ytkbahledgljaoaagreat", sum := "0eaa61a3d9b4d9458ab89c16e51076388c090c4ed9b0757e3f0be4745bf97970", func := "glidepath/glidepathlaw08.CloudProfiles", spec := "cloudProfiles", unfollowed := true, recurses := true, apart := false }
def CloudProfilesSaid : Prop := cloudProfilesRow.holds Tryz.pinned (OpenSpec.ofChange cloudProfilesSpec)

/-- ITS FALSE NEIGHBOUR: 'it returns false'. Refute it at one input. -/
def cloudProfilesWrong : ChangeSpec := { name := "cloudProfiles", fn := fun _ => fun
  | [d1, d2, d3] => { results := [.lit (.bool false)], args := [d1, d2, d3] }
  | _ => none }
def CloudProfilesWrongFalsely : Prop := cloudProfilesRow.holds Tryz.pinned (OpenSpec.ofChange cloudProfilesWrong)

/-- 'glidepathlaw08.CloudSpans': WHATEVER THE INPUT: true; the input reads as it did. -/
def cloudSpansSpec : ChangeSpec := { name := "cloudSpans", fn := fun _ => fun
  | [d1, d2, d3] => { results := [.lit (.bool true)], args := [d1, d2, d3] }
  | _ => none }
def cloudSpansRow : OpenClaim := { program := "ytkbahledgljaoaagreat", sum := "0eaa61a3d9b4d9458ab89c16e51076388c090c4ed9b0757e3f0be4745bf97970", func := "glidepath/glidepathlaw08.CloudSpans", spec := "cloudSpans", unfollowed := true, recurses := true, apart := false }
def CloudSpansSaid : Prop := cloudSpansRow.holds Tryz.pinned (OpenSpec.ofChange cloudSpansSpec)

/-- ITS FALSE NEIGHBOUR: 'it returns false'. Refute it at one input. -/
def cloudSpansWrong : ChangeSpec := { name := "cloudSpans", fn := fun _ => fun
  | [d1, d2, d3] => { results := [.lit (.bool false)], args := [d1, d2, d3] }
  | _ => none }
def CloudSpansWrongFalsely : Prop := cloudSpansRow.holds Tryz.pinned (OpenSpec.ofChange cloudSpansWrong)

/-- 'glidepathlaw08.CloudUndone': WHATEVER THE INPUT: true; the input reads as it did. -/
def cloudUndoneSpec : ChangeSpec := { name := "cloudUndone", fn := fun _ => fun
  | [d1, d2, d3] => { results := [.lit (.bool true)], args := [d1, d2, d3] }
  | _ => none }
def cloudUndoneRow : OpenClaim := { program := "ytkbahledgljaoaagreat", sum := "0eaa61a3d9b4d9458ab89c16e51076388c090c4ed9b0757e3f0be4745bf97970", func := "glidepath/glidepathlaw08.CloudUndone", spec := "cloudUndone", unfollowed := true, recurses := true, apart := false }
def CloudUndoneSaid : Prop := cloudUndoneRow.holds Tryz.pinned (OpenSpec.ofChange cloudUndoneSpec)

/-- ITS FALSE NEIGHBOUR: 'it returns false'. Refute it at one input. -/
def cloudUndoneWrong : ChangeSpec := { name := "cloudUndone", fn := fun _ => fun
  | [d1, d2, d3] => { results := [.lit (.bool false)], args := [d1, d2, d3] }
  | _ => none }
def CloudUndoneWrongFalsely : Prop := cloudUndoneRow.holds Tryz.pinned (OpenSpec.ofChange cloudUndoneWrong)

/-- 'glidepathlaw08.CloudSeeing': WHATEVER THE INPUT: true; the input reads as it did. -/
def cloudSeeingSpec : ChangeSpec := { name := "cloudSeeing", fn := fun _ => fun
  | [d1, d2, d3] => { results := [.lit (.bool true)], args := [d1, d2, d3] }
  | _ => none }
def cloudSeeingRow : OpenClaim := { program := "ytkbahledgljaoaagreat", sum := "0eaa61a3d9b4d9458ab89c16e51076388c090c4ed9b0757e3f0be4745bf97970", func := "glidepath/glidepathlaw08.CloudSeeing", spec := "cloudSeeing", unfollowed := true, recurses := true, apart := false }
def CloudSeeingSaid : Prop := cloudSeeingRow.holds Tryz.pinned (OpenSpec.ofChange cloudSeeingSpec)

/-- ITS FALSE NEIGHBOUR: 'it returns false'. Refute it at one input. -/
def cloudSeeingWrong : ChangeSpec := { name := "cloudSeeing", fn := fun _ => fun
  | [d1, d2, d3] => { results := [.lit (.bool false)], args := [d1, d2, d3] }
  | _ => none }
def CloudSeeingWrongFalsely : Prop := cloudSeeingRow.holds Tryz.pinned (OpenSpec.ofChange cloudSeeingWrong)

/-- 'glidepathlaw08.CloudClasses': WHATEVER THE INPUT: true; the input reads as it did. -/
def cloudClassesSpec : ChangeSpec := { name := "cloudClasses", fn := fun _ => fun
  | [d1, d2, d3] => { results := [.lit (.bool true)], args := [d1, d2, d3] }
  | _ => none }
def cloudClassesRow : OpenClaim := { program := "ytkbahledgljaoaagreat", sum := "0eaa61a3d9b4d9458ab89c16e51076388c090c4ed9b0757e3f0be4745bf97970", func := "glidepath/glidepathlaw08.CloudClasses", spec := "cloudClasses", unfollowed := true, recurses := true, apart := false }
def CloudClassesSaid : Prop := cloudClassesRow.holds Tryz.pinned (OpenSpec.ofChange cloudClassesSpec)

/-- ITS FALSE NEIGHBOUR: 'it returns false'. Refute it at one input. -/
def cloudClassesWrong : ChangeSpec := { name := "cloudClasses", fn := fun _ => fun
  | [d1, d2, d3] => { results := [.lit (.bool false)], args := [d1, d2, d3] }
  | _ => none }
def CloudClassesWrongFalsely : Prop := cloudClassesRow.holds Tryz.pinned (OpenSpec.ofChange cloudClassesWrong)

/- THE SECOND FORM. 'bulk': how many values and letters a reading holds, each counted each time it is reached (what is shared counts as often as it is met; a slice's spare places count too). A statement '..UptoSaid' is the law's where the arguments, and the package variables that the reading takes, are together of bulk at most 1048576: NARROWER than '..Said'. Prove '..Said' where nothing that the law and all that it calls make is longer than what came in: it says more and counts as full. Else prove '..UptoSaid'. A law counts once. -/
mutual
def uptoBulk {H : Type} : DataW H → Nat
  | .lit (.string bytes) => bytes.length + 1
  | .lit _ => 1
  | .nil => 1
  | .ptr d => uptoBulk d + 1
  | .slice elems spare => uptoBulkAll elems + uptoBulkAll spare + 1
  | .agg parts => uptoBulkAll parts + 1
  | .iface _ d => uptoBulk d + 1
  | .map entries => uptoBulkEntries entries + 1
  | .held _ => 1
def uptoBulkAll {H : Type} : List (DataW H) → Nat
  | [] => 0
  | d :: r => uptoBulk d + uptoBulkAll r
def uptoBulkEntries {H : Type} : List (Lit × DataW H) → Nat
  | [] => 0
  | x :: r => uptoBulkEntry x + uptoBulkEntries r
def uptoBulkEntry {H : Type} : Lit × DataW H → Nat
  | (.string bytes, d) => bytes.length + uptoBulk d + 1
  | (_, d) => uptoBulk d + 1
 end
def uptoSmall : (H : Type) → List (DataW H) → Bool := fun _ ds => decide (uptoBulkAll ds ≤ 1048576)
def OpenSpec.upto (s : _root_.Go.ChangeSpec) : _root_.Go.OpenSpec := { _root_.Go.OpenSpec.ofChange s with cond := some uptoSmall }

/-- 'glidepathlaw08.CloudProfiles', WHERE WHAT IT READS IS OF BULK AT MOST 1048576: true; the input reads as it did. -/
def cloudProfilesUptoRow : OpenClaim := { program := "ytkbahledgljaoaagreat", sum := "0eaa61a3d9b4d9458ab89c16e51076388c090c4ed9b0757e3f0be4745bf97970", func := "glidepath/glidepathlaw08.CloudProfiles", spec := "cloudProfiles", unfollowed := true, recurses := true, apart := false, narrowed := true }
def CloudProfilesUptoSaid : Prop := cloudProfilesUptoRow.holds Tryz.pinned (OpenSpec.upto cloudProfilesSpec)

/-- 'glidepathlaw08.CloudSpans', WHERE WHAT IT READS IS OF BULK AT MOST 1048576: true; the input reads as it did. -/
def cloudSpansUptoRow : OpenClaim := { program := "ytkbahledgljaoaagreat", sum := "0eaa61a3d9b4d9458ab89c16e51076388c090c4ed9b0757e3f0be4745bf97970", func := "glidepath/glidepathlaw08.CloudSpans", spec := "cloudSpans", unfollowed := true, recurses := true, apart := false, narrowed := true }
def CloudSpansUptoSaid : Prop := cloudSpansUptoRow.holds Tryz.pinned (OpenSpec.upto cloudSpansSpec)

/-- 'glidepathlaw08.CloudUndone', WHERE WHAT IT READS IS OF BULK AT MOST 1048576: true; the input reads as it did. -/
def cloudUndoneUptoRow : OpenClaim := { program := "ytkbahledgljaoaagreat", sum := "0eaa61a3d9b4d9458ab89c16e51076388c090c4ed9b0757e3f0be4745bf97970", func := "glidepath/glidepathlaw08.CloudUndone", spec := "cloudUndone", unfollowed := true, recurses := true, apart := false, narrowed := true }
def CloudUndoneUptoSaid : Prop := cloudUndoneUptoRow.holds Tryz.pinned (OpenSpec.upto cloudUndoneSpec)

/-- 'glidepathlaw08.CloudSeeing', WHERE WHAT IT READS IS OF BULK AT MOST 1048576: true; the input reads as it did. -/
def cloudSeeingUptoRow : OpenClaim := { program := "ytkbahledgljaoaagreat", sum := "0eaa61a3d9b4d9458ab89c16e51076388c090c4ed9b0757e3f0be4745bf97970", func := "glidepath/glidepathlaw08.CloudSeeing", spec := "cloudSeeing", unfollowed := true, recurses := true, apart := false, narrowed := true }
def CloudSeeingUptoSaid : Prop := cloudSeeingUptoRow.holds Tryz.pinned (OpenSpec.upto cloudSeeingSpec)

/-- 'glidepathlaw08.CloudClasses', WHERE WHAT IT READS IS OF BULK AT MOST 1048576: true; the input reads as it did. -/
def cloudClassesUptoRow : OpenClaim := { program := "ytkbahledgljaoaagreat", sum := "0eaa61a3d9b4d9458ab89c16e51076388c090c4ed9b0757e3f0be4745bf97970", func := "glidepath/glidepathlaw08.CloudClasses", spec := "cloudClasses", unfollowed := true, recurses := true, apart := false, narrowed := true }
def CloudClassesUptoSaid : Prop := cloudClassesUptoRow.holds Tryz.pinned (OpenSpec.upto cloudClassesSpec)

end Rows
end Go.Proofs.YtkbahledgljaoaaGreat
