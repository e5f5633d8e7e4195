/-
  No cell of these rows narrows 'for every input' (looked for: loops, veiled, ifaces, maps, wideKeys, modest, calm, conditions, laid).
  DERIVED. THE GIVEN ROWS OF THIS SEAT. 6 by the template 'for every input the law returns true; each argument reads behind the call as it read before'; 0 by the template 'total and deterministic' (their statements: YtdbnojfklmfniaaTotals.lean).
  GIVEN WITH THE SEED: the statements are not yours to turn. If you find one false, say at which input.
  Laid BY PROGRAM, IN A SANDBOX (cutbox-rows.mjs): the forced cells as the released guide's own fill.sh prints them over the translation 20b5a0f93224c300… (all of the seat's roots in one cut). By AI agents, Wed Nov 11 2026. No macro, syntax, notation, axiom, sorry.
-/
import Derived.Test.YtdbnojfklmfniaaChecked
import GoSem.Claim
import GoSem.ClaimJoined
import GoSem.ClaimMapViews
import Derived.JoinedTies
import Derived.KernelRfl
namespace Go.Proofs.Ytdbnojfklmfniaa
/- THE CELL 'sum', in the pinned program and in every row, IS THE sha256 OF THE DUMP (.gsa) THAT YtdbnojfklmfniaaProg.lean LOADS. Nothing in Lean hashes anything: it is a label: what it is worth is what the hold of that sum in a sandbox is worth. -/
noncomputable def Try.pinned : Pinned := { name := "ytdbnojfklmfniaa", sum := "20b5a0f93224c30023b4e1021b1c8608be664e16f790d0b5112d2b18077c1ed6", checked := Try.checked }
namespace Rows
def none {H : Type} : Left H := { results := [], args := [] }

/-- 'glidepathlaw02.LineWithin': WHATEVER THE INPUT: true; the input reads as it did. -/
def lineWithinSpec : ChangeSpec := { name := "lineWithin", fn := fun _ => fun
  | [d1, d2] => { results := [.lit (.bool true)], args := [d1, d2] }
  | _ => none }
def lineWithinRow : OpenClaim := { program := "ytdbnojfklmfniaa", sum := "20b5a0f93224c30023b4e1021b1c8608be664e16f790d0b5112d2b18077c1ed6", func := "glidepath/glidepathlaw02.LineWithin", spec := "lineWithin", unfollowed := true, recurses := true, apart := false }
def LineWithinSaid : Prop := lineWithinRow.holds Try.pinned (OpenSpec.ofChange lineWithinSpec)

/-- ITS FALSE NEIGHBOUR: 'it returns false'. Refute it at one input. -/
def lineWithinWrong : ChangeSpec := { name := "lineWithin", fn := fun _ => fun
  | [d1, d2] => { results := [.lit (.bool false)], args := [d1, d2] }
  | _ => none }
def LineWithinWrongFalsely : Prop := lineWithinRow.holds Try.pinned (OpenSpec.ofChange lineWithinWrong)

/-- 'glidepathlaw02.LineCases': WHATEVER THE INPUT: true; the input reads as it did. -/
def lineCasesSpec : ChangeSpec := { name := "lineCases", fn := fun _ => fun
  | [d1, d2] => { results := [.lit (.bool true)], args := [d1, d2] }
  | _ => none }
def lineCasesRow : OpenClaim := { program := "ytdbnojfklmfniaa", sum := "20b5a0f93224c30023b4e1021b1c8608be664e16f790d0b5112d2b18077c1ed6", func := "glidepath/glidepathlaw02.LineCases", spec := "lineCases", unfollowed := true, recurses := true, apart := false }
def LineCasesSaid : Prop := lineCasesRow.holds Try.pinned (OpenSpec.ofChange lineCasesSpec)

/-- ITS FALSE NEIGHBOUR: 'it returns false'. Refute it at one input. -/
def lineCasesWrong : ChangeSpec := { name := "lineCases", fn := fun _ => fun
  | [d1, d2] => { results := [.lit (.bool false)], args := [d1, d2] }
  | _ => none }
def LineCasesWrongFalsely : Prop := lineCasesRow.holds Try.pinned (OpenSpec.ofChange lineCasesWrong)

/-- 'glidepathlaw02.LineDetected': WHATEVER THE INPUT: true; the input reads as it did. -/
def lineDetectedSpec : ChangeSpec := { name := "lineDetected", fn := fun _ => fun
  | [d1, d2] => { results := [.lit (.bool true)], args := [d1, d2] }
  | _ => none }
def lineDetectedRow : OpenClaim := { program := "ytdbnojfklmfniaa", sum := "20b5a0f93224c30023b4e1021b1c8608be664e16f790d0b5112d2b18077c1ed6", func := "glidepath/glidepathlaw02.LineDetected", spec := "lineDetected", unfollowed := true, recurses := true, apart := false }
def LineDetectedSaid : Prop := lineDetectedRow.holds Try.pinned (OpenSpec.ofChange lineDetectedSpec)

/-- ITS FALSE NEIGHBOUR: 'it returns false'. Refute it at one input. -/
def lineDetectedWrong : ChangeSpec := { name := "lineDetected", fn := fun _ => fun
  | [d1, d2] => { results := [.lit (.bool false)], args := [d1, d2] }
  | _ => none }
def LineDetectedWrongFalsely : Prop := lineDetectedRow.holds Try.pinned (OpenSpec.ofChange lineDetectedWrong)

/-- 'glidepathlaw02.LineErrors': WHATEVER THE INPUT: true; the input reads as it did. -/
def lineErrorsSpec : ChangeSpec := { name := "lineErrors", fn := fun _ => fun
  | [d1, d2] => { results := [.lit (.bool true)], args := [d1, d2] }
  | _ => none }
def lineErrorsRow : OpenClaim := { program := "ytdbnojfklmfniaa", sum := "20b5a0f93224c30023b4e1021b1c8608be664e16f790d0b5112d2b18077c1ed6", func := "glidepath/glidepathlaw02.LineErrors", spec := "lineErrors", unfollowed := true, recurses := true, apart := false }
def LineErrorsSaid : Prop := lineErrorsRow.holds Try.pinned (OpenSpec.ofChange lineErrorsSpec)

/-- ITS FALSE NEIGHBOUR: 'it returns false'. Refute it at one input. -/
def lineErrorsWrong : ChangeSpec := { name := "lineErrors", fn := fun _ => fun
  | [d1, d2] => { results := [.lit (.bool false)], args := [d1, d2] }
  | _ => none }
def LineErrorsWrongFalsely : Prop := lineErrorsRow.holds Try.pinned (OpenSpec.ofChange lineErrorsWrong)

/-- 'glidepathlaw02.LineReached': WHATEVER THE INPUT: true; the input reads as it did. -/
def lineReachedSpec : ChangeSpec := { name := "lineReached", fn := fun _ => fun
  | [d1, d2] => { results := [.lit (.bool true)], args := [d1, d2] }
  | _ => none }
def lineReachedRow : OpenClaim := { program := "ytdbnojfklmfniaa", sum := "20b5a0f93224c30023b4e1021b1c8608be664e16f790d0b5112d2b18077c1ed6", func := "glidepath/glidepathlaw02.LineReached", spec := "lineReached", unfollowed := true, recurses := true, apart := false }
def LineReachedSaid : Prop := lineReachedRow.holds Try.pinned (OpenSpec.ofChange lineReachedSpec)

/-- ITS FALSE NEIGHBOUR: 'it returns false'. Refute it at one input. -/
def lineReachedWrong : ChangeSpec := { name := "lineReached", fn := fun _ => fun
  | [d1, d2] => { results := [.lit (.bool false)], args := [d1, d2] }
  | _ => none }
def LineReachedWrongFalsely : Prop := lineReachedRow.holds Try.pinned (OpenSpec.ofChange lineReachedWrong)

/-- 'glidepathlaw02.LineHard': WHATEVER THE INPUT: true; the input reads as it did. -/
def lineHardSpec : ChangeSpec := { name := "lineHard", fn := fun _ => fun
  | [d1, d2, d3] => { results := [.lit (.bool true)], args := [d1, d2, d3] }
  | _ => none }
def lineHardRow : OpenClaim := { program := "ytdbnojfklmfniaa", sum := "20b5a0f93224c30023b4e1021b1c8608be664e16f790d0b5112d2b18077c1ed6", func := "glidepath/glidepathlaw02.LineHard", spec := "lineHard", unfollowed := true, recurses := true, apart := false }
def LineHardSaid : Prop := lineHardRow.holds Try.pinned (OpenSpec.ofChange lineHardSpec)

/-- ITS FALSE NEIGHBOUR: 'it returns false'. Refute it at one input. -/
def lineHardWrong : ChangeSpec := { name := "lineHard", fn := fun _ => fun
  | [d1, d2, d3] => { results := [.lit (.bool false)], args := [d1, d2, d3] }
  | _ => none }
def LineHardWrongFalsely : Prop := lineHardRow.holds Try.pinned (OpenSpec.ofChange lineHardWrong)

/- THE SECOND FORM. 'bulk': how many values and letters a reading holds, each counted each time it is reached (what is shared counts as often as it is met; a slice's spare places count too). A statement '..UptoSaid' is the law's where the arguments, and the package variables that the reading takes, are together of bulk at most 1048576: NARROWER than '..Said'. Prove '..Said' where nothing that the law and all that it calls make is longer than what came in: it says more and counts as full. Else prove '..UptoSaid'. A law counts once. -/
mutual
def uptoBulk {H : Type} : DataW H → Nat
  | .lit (.string bytes) => bytes.length + 1
  | .lit _ => 1
  | .nil => 1
  | .ptr d => uptoBulk d + 1
  | .slice elems spare => uptoBulkAll elems + uptoBulkAll spare + 1
  | .agg parts => uptoBulkAll parts + 1
  | .iface _ d => uptoBulk d + 1
  | .map entries => uptoBulkEntries entries + 1
  | .held _ => 1
def uptoBulkAll {H : Type} : List (DataW H) → Nat
  | [] => 0
  | d :: r => uptoBulk d + uptoBulkAll r
def uptoBulkEntries {H : Type} : List (Lit × DataW H) → Nat
  | [] => 0
  | x :: r => uptoBulkEntry x + uptoBulkEntries r
def uptoBulkEntry {H : Type} : Lit × DataW H → Nat
  | (.string bytes, d) => bytes.length + uptoBulk d + 1
  | (_, d) => uptoBulk d + 1
 end
def uptoSmall : (H : Type) → List (DataW H) → Bool := fun _ ds => decide (uptoBulkAll ds ≤ 1048576)
def OpenSpec.upto (s : _root_.Go.ChangeSpec) : _root_.Go.OpenSpec := { _root_.Go.OpenSpec.ofChange s with cond := some uptoSmall }

/-- 'glidepathlaw02.LineWithin', WHERE WHAT IT READS IS OF BULK AT MOST 1048576: true; the input reads as it did. -/
def lineWithinUptoRow : OpenClaim := { program := "ytdbnojfklmfniaa", sum := "20b5a0f93224c30023b4e1021b1c8608be664e16f790d0b5112d2b18077c1ed6", func := "glidepath/glidepathlaw02.LineWithin", spec := "lineWithin", unfollowed := true, recurses := true, apart := false, narrowed := true }
def LineWithinUptoSaid : Prop := lineWithinUptoRow.holds Try.pinned (OpenSpec.upto lineWithinSpec)

/-- 'glidepathlaw02.LineCases', WHERE WHAT IT READS IS OF BULK AT MOST 1048576: true; the input reads as it did. -/
def lineCasesUptoRow : OpenClaim := { program := "ytdbnojfklmfniaa", sum := "20b5a0f93224c30023b4e1021b1c8608be664e16f790d0b5112d2b18077c1ed6", func := "glidepath/glidepathlaw02.LineCases", spec := "lineCases", unfollowed := true, recurses := true, apart := false, narrowed := true }
def LineCasesUptoSaid : Prop := lineCasesUptoRow.holds Try.pinned (OpenSpec.upto lineCasesSpec)

/-- 'glidepathlaw02.LineDetected', WHERE WHAT IT READS IS OF BULK AT MOST 1048576: true; the input reads as it did. -/
def lineDetectedUptoRow : OpenClaim := { program := "ytdbnojfklmfniaa", sum := "20b5a0f93224c30023b4e1021b1c8608be664e16f790d0b5112d2b18077c1ed6", func := "glidepath/glidepathlaw02.LineDetected", spec := "lineDetected", unfollowed := true, recurses := true, apart := false, narrowed := true }
def LineDetectedUptoSaid : Prop := lineDetectedUptoRow.holds Try.pinned (OpenSpec.upto lineDetectedSpec)

/-- 'glidepathlaw02.LineErrors', WHERE WHAT IT READS IS OF BULK AT MOST 1048576: true; the input reads as it did. -/
def lineErrorsUptoRow : OpenClaim := { program := "ytdbnojfklmfniaa", sum := "20b5a0f93224c30023b4e1021b1c8608be664e16f790d0b5112d2b18077c1ed6", func := "glidepath/glidepathlaw02.LineErrors", spec := "lineErrors", unfollowed := true, recurses := true, apart := false, narrowed := true }
def LineErrorsUptoSaid : Prop := lineErrorsUptoRow.holds Try.pinned (OpenSpec.upto lineErrorsSpec)

/-- 'glidepathlaw02.LineReached', WHERE WHAT IT READS IS OF BULK AT MOST 1048576: true; the input reads as it did. -/
def lineReachedUptoRow : OpenClaim := { program := "ytdbnojfklmfniaa", sum := "20b5a0f93224c30023b4e1021b1c8608be664e16f790d0b5112d2b18077c1ed6", func := "glidepath/glidepathlaw02.LineReached", spec := "lineReached", unfollowed := true, recurses := true, apart := false, narrowed := true }
def LineReachedUptoSaid : Prop := lineReachedUptoRow.holds Try.pinned (OpenSpec.upto lineReachedSpec)

/-- 'glidepathlaw02.LineHard', WHERE WHAT IT READS IS OF BULK AT MOST 1048576: true; the input reads as it did. -/
def lineHardUptoRow : OpenClaim := { program := "ytdbnojfklmfniaa", sum := "20b5a0f93224c30023b4e1021b1c8608be664e16f790d0b5112d2b18077c1ed6", func := "glidepath/glidepathlaw02.LineHard", spec := "lineHard", unfollowed := true, recurses := true, apart := false, narrowed := true }
def LineHardUptoSaid : Prop := lineHardUptoRow.holds Try.pinned (OpenSpec.upto lineHardSpec)

end Rows
end Go.Proofs.Ytdbnojfklmfniaa
