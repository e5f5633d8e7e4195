/-
  No cell of these rows narrows 'for every input' (looked for: loops, veiled, ifaces, maps, wideKeys, modest, calm, conditions, laid).
  DERIVED. THE GIVEN ROWS OF THIS SEAT. 5 by the template 'for every input the law returns true; each argument reads behind the call as it read before'; 0 by the template 'total and deterministic' (their statements: YtlpecmcejjgmfaaTotals.lean).
  GIVEN WITH THE SEED: the statements are not yours to turn. If you find one false, say at which input.
  Laid BY PROGRAM, IN A SANDBOX (cutbox-rows.mjs): the forced cells as the released guide's own fill.sh prints them over the translation 478feb1557cf67cf… (all of the seat's roots in one cut). By AI agents, Wed Nov 11 2026. No macro, syntax, notation, axiom, sorry.
-/
import Derived.Test.YtlpecmcejjgmfaaChecked
import GoSem.Claim
import GoSem.ClaimJoined
import GoSem.ClaimMapViews
import Derived.JoinedTies
import Derived.KernelRfl
namespace Go.Proofs.Ytlpecmcejjgmfaa
/- THE CELL 'sum', in the pinned program and in every row, IS THE sha256 OF THE DUMP (.gsa) THAT YtlpecmcejjgmfaaProg.lean LOADS. Nothing in Lean hashes anything: it is a label: what it is worth is what the hold of that sum in a sandbox is worth. -/
noncomputable def Try.pinned : Pinned := { name := "ytlpecmcejjgmfaa", sum := "478feb1557cf67cf746e60ddfb0d49cefb9e5fb3eaceca72b567035fdb1710c2", checked := Try.checked }
namespace Rows
def none {H : Type} : Left H := { results := [], args := [] }

/-- 'glidepathlaw02.LineEstimates': WHATEVER THE INPUT: true; the input reads as it did. -/
def lineEstimatesSpec : ChangeSpec := { name := "lineEstimates", fn := fun _ => fun
  | [d1, d2, d3] => { results := [.lit (.bool true)], args := [d1, d2, d3] }
  | _ => none }
def lineEstimatesRow : OpenClaim := { program := "ytlpecmcejjgmfaa", sum := "478feb1557cf67cf746e60ddfb0d49cefb9e5fb3eaceca72b567035fdb1710c2", func := "glidepath/glidepathlaw02.LineEstimates", spec := "lineEstimates", unfollowed := true, recurses := true, apart := false }
def LineEstimatesSaid : Prop := lineEstimatesRow.holds Try.pinned (OpenSpec.ofChange lineEstimatesSpec)

/-- ITS FALSE NEIGHBOUR: 'it returns false'. Refute it at one input. -/
def lineEstimatesWrong : ChangeSpec := { name := "lineEstimates", fn := fun _ => fun
  | [d1, d2, d3] => { results := [.lit (.bool false)], args := [d1, d2, d3] }
  | _ => none }
def LineEstimatesWrongFalsely : Prop := lineEstimatesRow.holds Try.pinned (OpenSpec.ofChange lineEstimatesWrong)

/-- 'glidepathlaw02.LineWithin': WHATEVER THE INPUT: true; the input reads as it did. -/
def lineWithinSpec : ChangeSpec := { name := "lineWithin", fn := fun _ => fun
  | [d1, d2] => { results := [.lit (.bool true)], args := [d1, d2] }
  | _ => none }
def lineWithinRow : OpenClaim := { program := "ytlpecmcejjgmfaa", sum := "478feb1557cf67cf746e60ddfb0d49cefb9e5fb3eaceca72b567035fdb1710c2", func := "glidepath/glidepathlaw02.LineWithin", spec := "lineWithin", unfollowed := true, recurses := true, apart := false }
def LineWithinSaid : Prop := lineWithinRow.holds Try.pinned (OpenSpec.ofChange lineWithinSpec)

/-- ITS FALSE NEIGHBOUR: 'it returns false'. Refute it at one input. -/
def lineWithinWrong : ChangeSpec := { name := "lineWithin", fn := fun _ => fun
  | [d1, d2] => { results := [.lit (.bool false)], args := [d1, d2] }
  | _ => none }
def LineWithinWrongFalsely : Prop := lineWithinRow.holds Try.pinned (OpenSpec.ofChange lineWithinWrong)

/-- 'glidepathlaw02.LineDetections': WHATEVER THE INPUT: true; the input reads as it did. -/
def lineDetectionsSpec : ChangeSpec := { name := "lineDetections", fn := fun _ => fun
  | [d1, d2, d3] => { results := [.lit (.bool true)], args := [d1, d2, d3] }
  | _ => none }
def lineDetectionsRow : OpenClaim := { program := "ytlpecmcejjgmfaa", sum := "478feb1557cf67cf746e60ddfb0d49cefb9e5fb3eaceca72b567035fdb1710c2", func := "glidepath/glidepathlaw02.LineDetections", spec := "lineDetections", unfollowed := true, recurses := true, apart := false }
def LineDetectionsSaid : Prop := lineDetectionsRow.holds Try.pinned (OpenSpec.ofChange lineDetectionsSpec)

/-- ITS FALSE NEIGHBOUR: 'it returns false'. Refute it at one input. -/
def lineDetectionsWrong : ChangeSpec := { name := "lineDetections", fn := fun _ => fun
  | [d1, d2, d3] => { results := [.lit (.bool false)], args := [d1, d2, d3] }
  | _ => none }
def LineDetectionsWrongFalsely : Prop := lineDetectionsRow.holds Try.pinned (OpenSpec.ofChange lineDetectionsWrong)

/-- 'glidepathlaw02.LineApart': WHATEVER THE INPUT: true; the input reads as it did. -/
def lineApartSpec : ChangeSpec := { name := "lineApart", fn := fun _ => fun
  | [d1, d2, d3] => { results := [.lit (.bool true)], args := [d1, d2, d3] }
  | _ => none }
def lineApartRow : OpenClaim := { program := "ytlpecmcejjgmfaa", sum := "478feb1557cf67cf746e60ddfb0d49cefb9e5fb3eaceca72b567035fdb1710c2", func := "glidepath/glidepathlaw02.LineApart", spec := "lineApart", unfollowed := true, recurses := true, apart := false }
def LineApartSaid : Prop := lineApartRow.holds Try.pinned (OpenSpec.ofChange lineApartSpec)

/-- ITS FALSE NEIGHBOUR: 'it returns false'. Refute it at one input. -/
def lineApartWrong : ChangeSpec := { name := "lineApart", fn := fun _ => fun
  | [d1, d2, d3] => { results := [.lit (.bool false)], args := [d1, d2, d3] }
  | _ => none }
def LineApartWrongFalsely : Prop := lineApartRow.holds Try.pinned (OpenSpec.ofChange lineApartWrong)

/-- 'glidepathlaw02.LineHard': WHATEVER THE INPUT: true; the input reads as it did. -/
def lineHardSpec : ChangeSpec := { name := "lineHard", fn := fun _ => fun
  | [d1, d2, d3] => { results := [.lit (.bool true)], args := [d1, d2, d3] }
  | _ => none }
def lineHardRow : OpenClaim := { program := "ytlpecmcejjgmfaa", sum := "478feb1557cf67cf746e60ddfb0d49cefb9e5fb3eaceca72b567035fdb1710c2", func := "glidepath/glidepathlaw02.LineHard", spec := "lineHard", unfollowed := true, recurses := true, apart := false }
def LineHardSaid : Prop := lineHardRow.holds Try.pinned (OpenSpec.ofChange lineHardSpec)

/-- ITS FALSE NEIGHBOUR: 'it returns false'. Refute it at one input. -/
def lineHardWrong : ChangeSpec := { name := "lineHard", fn := fun _ => fun
  | [d1, d2, d3] => { results := [.lit (.bool false)], args := [d1, d2, d3] }
  | _ => none }
def LineHardWrongFalsely : Prop := lineHardRow.holds Try.pinned (OpenSpec.ofChange lineHardWrong)

/- THE SECOND FORM. 'bulk': how many values and letters a reading holds, each counted each time it is reached (what is shared counts as often as it is met; a slice's spare places count too). A statement '..UptoSaid' is the law's where the arguments, and the package variables that the reading takes, are together of bulk at most 1048576: NARROWER than '..Said'. Prove '..Said' where nothing that the law and all that it calls make is longer than what came in: it says more and counts as full. Else prove '..UptoSaid'. A law counts once. -/
mutual
def uptoBulk {H : Type} : DataW H → Nat
  | .lit (.string bytes) => bytes.length + 1
  | .lit _ => 1
  | .nil => 1
  | .ptr d => uptoBulk d + 1
  | .slice elems spare => uptoBulkAll elems + uptoBulkAll spare + 1
  | .agg parts => uptoBulkAll parts + 1
  | .iface _ d => uptoBulk d + 1
  | .map entries => uptoBulkEntries entries + 1
  | .held _ => 1
def uptoBulkAll {H : Type} : List (DataW H) → Nat
  | [] => 0
  | d :: r => uptoBulk d + uptoBulkAll r
def uptoBulkEntries {H : Type} : List (Lit × DataW H) → Nat
  | [] => 0
  | x :: r => uptoBulkEntry x + uptoBulkEntries r
def uptoBulkEntry {H : Type} : Lit × DataW H → Nat
  | (.string bytes, d) => bytes.length + uptoBulk d + 1
  | (_, d) => uptoBulk d + 1
 end
def uptoSmall : (H : Type) → List (DataW H) → Bool := fun _ ds => decide (uptoBulkAll ds ≤ 1048576)
def OpenSpec.upto (s : _root_.Go.ChangeSpec) : _root_.Go.OpenSpec := { _root_.Go.OpenSpec.ofChange s with cond := some uptoSmall }

/-- 'glidepathlaw02.LineEstimates', WHERE WHAT IT READS IS OF BULK AT MOST 1048576: true; the input reads as it did. -/
def lineEstimatesUptoRow : OpenClaim := { program := "ytlpecmcejjgmfaa", sum := "478feb1557cf67cf746e60ddfb0d49cefb9e5fb3eaceca72b567035fdb1710c2", func := "glidepath/glidepathlaw02.LineEstimates", spec := "lineEstimates", unfollowed := true, recurses := true, apart := false, narrowed := true }
def LineEstimatesUptoSaid : Prop := lineEstimatesUptoRow.holds Try.pinned (OpenSpec.upto lineEstimatesSpec)

/-- 'glidepathlaw02.LineWithin', WHERE WHAT IT READS IS OF BULK AT MOST 1048576: true; the input reads as it did. -/
def lineWithinUptoRow : OpenClaim := { program := "ytlpecmcejjgmfaa", sum := "478feb1557cf67cf746e60ddfb0d49cefb9e5fb3eaceca72b567035fdb1710c2", func := "glidepath/glidepathlaw02.LineWithin", spec := "lineWithin", unfollowed := true, recurses := true, apart := false, narrowed := true }
def LineWithinUptoSaid : Prop := lineWithinUptoRow.holds Try.pinned (OpenSpec.upto lineWithinSpec)

/-- 'glidepathlaw02.LineDetections', WHERE WHAT IT READS IS OF BULK AT MOST 1048576: true; the input reads as it did. -/
def lineDetectionsUptoRow : OpenClaim := { program := "ytlpecmcejjgmfaa", sum := "478feb1557cf67cf746e60ddfb0d49cefb9e5fb3eaceca72b567035fdb1710c2", func := "glidepath/glidepathlaw02.LineDetections", spec := "lineDetections", unfollowed := true, recurses := true, apart := false, narrowed := true }
def LineDetectionsUptoSaid : Prop := lineDetectionsUptoRow.holds Try.pinned (OpenSpec.upto lineDetectionsSpec)

/-- 'glidepathlaw02.LineApart', WHERE WHAT IT READS IS OF BULK AT MOST 1048576: true; the input reads as it did. -/
def lineApartUptoRow : OpenClaim := { program := "ytlpecmcejjgmfaa", sum := "478feb1557cf67cf746e60ddfb0d49cefb9e5fb3eaceca72b567035fdb1710c2", func := "glidepath/glidepathlaw02.LineApart", spec := "lineApart", unfollowed := true, recurses := true, apart := false, narrowed := true }
def LineApartUptoSaid : Prop := lineApartUptoRow.holds Try.pinned (OpenSpec.upto lineApartSpec)

/-- 'glidepathlaw02.LineHard', WHERE WHAT IT READS IS OF BULK AT MOST 1048576: true; the input reads as it did. -/
def lineHardUptoRow : OpenClaim := { program := "ytlpecmcejjgmfaa", sum := "478feb1557cf67cf746e60ddfb0d49cefb9e5fb3eaceca72b567035fdb1710c2", func := "glidepath/glidepathlaw02.LineHard", spec := "lineHard", unfollowed := true, recurses := true, apart := false, narrowed := true }
def LineHardUptoSaid : Prop := lineHardUptoRow.holds Try.pinned (OpenSpec.upto lineHardSpec)

end Rows
end Go.Proofs.Ytlpecmcejjgmfaa
