/-
  No cell of these rows narrows 'for every input' (looked for: loops, veiled, ifaces, maps, wideKeys, modest, calm, conditions, laid).
  DERIVED. THE GIVEN ROWS OF THIS SEAT. 7 by the template 'for every input the law returns true; each argument reads behind the call as it read before'; 0 by the template 'total and deterministic' (their statements: YtdjdjkgoelbbdaaTotals.lean).
  GIVEN WITH THE SEED: the statements are not yours to turn. If you find one false, say at which input.
  Laid BY PROGRAM, IN A SANDBOX (cutbox-rows.mjs): the forced cells as the released guide's own fill.sh prints them over the translation 09f739b0e1a2a82f… (all of the seat's roots in one cut). By AI agents, Wed Nov 11 2026. No macro, syntax, notation, axiom, sorry.
-/
import Derived.Test.YtdjdjkgoelbbdaaChecked
import GoSem.Claim
import GoSem.ClaimJoined
import GoSem.ClaimMapViews
import Derived.JoinedTies
import Derived.KernelRfl
namespace Go.Proofs.Ytdjdjkgoelbbdaa
/- THE CELL 'sum', in the pinned program and in every row, IS THE sha256 OF THE DUMP (.gsa) THAT YtdjdjkgoelbbdaaProg.lean LOADS. Nothing in Lean hashes anything: it is a label: what it is worth is what the hold of that sum in a sandbox is worth. -/
noncomputable def Try.pinned : Pinned := { name := "ytdjdjkgoelbbdaa", sum := "09f739b0e1a2a82f27ccf4d45fda1caddddc2bd1da976a407a16b470269380fa", checked := Try.checked }
namespace Rows
def none {H : Type} : Left H := { results := [], args := [] }

/-- 'twinlaw.Codes': WHATEVER THE INPUT: true; the input reads as it did. -/
def codesSpec : ChangeSpec := { name := "codes", fn := fun _ => fun
  | [d1, d2] => { results := [.lit (.bool true)], args := [d1, d2] }
  | _ => none }
def codesRow : OpenClaim := { program := "ytdjdjkgoelbbdaa", sum := "09f739b0e1a2a82f27ccf4d45fda1caddddc2bd1da976a407a16b470269380fa", func := "twin/twinlaw.Codes", spec := "codes", apart := false }
def CodesSaid : Prop := codesRow.holds Try.pinned (OpenSpec.ofChange codesSpec)

/-- ITS FALSE NEIGHBOUR: 'it returns false'. Refute it at one input. -/
def codesWrong : ChangeSpec := { name := "codes", fn := fun _ => fun
  | [d1, d2] => { results := [.lit (.bool false)], args := [d1, d2] }
  | _ => none }
def CodesWrongFalsely : Prop := codesRow.holds Try.pinned (OpenSpec.ofChange codesWrong)

/-- 'twinlaw.Hints': WHATEVER THE INPUT: true; the input reads as it did. -/
def hintsSpec : ChangeSpec := { name := "hints", fn := fun _ => fun
  | [d1, d2] => { results := [.lit (.bool true)], args := [d1, d2] }
  | _ => none }
def hintsRow : OpenClaim := { program := "ytdjdjkgoelbbdaa", sum := "09f739b0e1a2a82f27ccf4d45fda1caddddc2bd1da976a407a16b470269380fa", func := "twin/twinlaw.Hints", spec := "hints", apart := false }
def HintsSaid : Prop := hintsRow.holds Try.pinned (OpenSpec.ofChange hintsSpec)

/-- ITS FALSE NEIGHBOUR: 'it returns false'. Refute it at one input. -/
def hintsWrong : ChangeSpec := { name := "hints", fn := fun _ => fun
  | [d1, d2] => { results := [.lit (.bool false)], args := [d1, d2] }
  | _ => none }
def HintsWrongFalsely : Prop := hintsRow.holds Try.pinned (OpenSpec.ofChange hintsWrong)

/-- 'twinkeep.Back': WHATEVER THE INPUT: true; the input reads as it did. -/
def backSpec : ChangeSpec := { name := "back", fn := fun _ => fun
  | [d1, d2, d3] => { results := [.lit (.bool true)], args := [d1, d2, d3] }
  | _ => none }
def backRow : OpenClaim := { program := "ytdjdjkgoelbbdaa", sum := "09f739b0e1a2a82f27ccf4d45fda1caddddc2bd1da976a407a16b470269380fa", func := "twin/twinkeep.Back", spec := "back", apart := false }
def BackSaid : Prop := backRow.holds Try.pinned (OpenSpec.ofChange backSpec)

/-- ITS FALSE NEIGHBOUR: 'it returns false'. Refute it at one input. -/
def backWrong : ChangeSpec := { name := "back", fn := fun _ => fun
  | [d1, d2, d3] => { results := [.lit (.bool false)], args := [d1, d2, d3] }
  | _ => none }
def BackWrongFalsely : Prop := backRow.holds Try.pinned (OpenSpec.ofChange backWrong)

/-- 'twinlaw.Runs': WHATEVER THE INPUT: true; the input reads as it did. -/
def runsSpec : ChangeSpec := { name := "runs", fn := fun _ => fun
  | [d1, d2, d3] => { results := [.lit (.bool true)], args := [d1, d2, d3] }
  | _ => none }
def runsRow : OpenClaim := { program := "ytdjdjkgoelbbdaa", sum := "09f739b0e1a2a82f27ccf4d45fda1caddddc2bd1da976a407a16b470269380fa", func := "twin/twinlaw.Runs", spec := "runs", apart := false }
def RunsSaid : Prop := runsRow.holds Try.pinned (OpenSpec.ofChange runsSpec)

/-- ITS FALSE NEIGHBOUR: 'it returns false'. Refute it at one input. -/
def runsWrong : ChangeSpec := { name := "runs", fn := fun _ => fun
  | [d1, d2, d3] => { results := [.lit (.bool false)], args := [d1, d2, d3] }
  | _ => none }
def RunsWrongFalsely : Prop := runsRow.holds Try.pinned (OpenSpec.ofChange runsWrong)

/-- 'twinkeep.Further': WHATEVER THE INPUT: true; the input reads as it did. -/
def furtherSpec : ChangeSpec := { name := "further", fn := fun _ => fun
  | [d1, d2, d3, d4, d5, d6] => { results := [.lit (.bool true)], args := [d1, d2, d3, d4, d5, d6] }
  | _ => none }
def furtherRow : OpenClaim := { program := "ytdjdjkgoelbbdaa", sum := "09f739b0e1a2a82f27ccf4d45fda1caddddc2bd1da976a407a16b470269380fa", func := "twin/twinkeep.Further", spec := "further", apart := false }
def FurtherSaid : Prop := furtherRow.holds Try.pinned (OpenSpec.ofChange furtherSpec)

/-- ITS FALSE NEIGHBOUR: 'it returns false'. Refute it at one input. -/
def furtherWrong : ChangeSpec := { name := "further", fn := fun _ => fun
  | [d1, d2, d3, d4, d5, d6] => { results := [.lit (.bool false)], args := [d1, d2, d3, d4, d5, d6] }
  | _ => none }
def FurtherWrongFalsely : Prop := furtherRow.holds Try.pinned (OpenSpec.ofChange furtherWrong)

/-- 'twinkeep.Same': WHATEVER THE INPUT: true; the input reads as it did. -/
def sameSpec : ChangeSpec := { name := "same", fn := fun _ => fun
  | [d] => { results := [.lit (.bool true)], args := [d] }
  | _ => none }
def sameRow : OpenClaim := { program := "ytdjdjkgoelbbdaa", sum := "09f739b0e1a2a82f27ccf4d45fda1caddddc2bd1da976a407a16b470269380fa", func := "twin/twinkeep.Same", spec := "same", apart := false }
def SameSaid : Prop := sameRow.holds Try.pinned (OpenSpec.ofChange sameSpec)

/-- ITS FALSE NEIGHBOUR: 'it returns false'. Refute it at one input. -/
def sameWrong : ChangeSpec := { name := "same", fn := fun _ => fun
  | [d] => { results := [.lit (.bool false)], args := [d] }
  | _ => none }
def SameWrongFalsely : Prop := sameRow.holds Try.pinned (OpenSpec.ofChange sameWrong)

/-- 'twinkeep.Renamed': WHATEVER THE INPUT: true; the input reads as it did. -/
def renamedSpec : ChangeSpec := { name := "renamed", fn := fun _ => fun
  | [d1, d2] => { results := [.lit (.bool true)], args := [d1, d2] }
  | _ => none }
def renamedRow : OpenClaim := { program := "ytdjdjkgoelbbdaa", sum := "09f739b0e1a2a82f27ccf4d45fda1caddddc2bd1da976a407a16b470269380fa", func := "twin/twinkeep.Renamed", spec := "renamed", apart := false }
def RenamedSaid : Prop := renamedRow.holds Try.pinned (OpenSpec.ofChange renamedSpec)

/-- ITS FALSE NEIGHBOUR: 'it returns false'. Refute it at one input. -/
def renamedWrong : ChangeSpec := { name := "renamed", fn := fun _ => fun
  | [d1, d2] => { results := [.lit (.bool false)], args := [d1, d2] }
  | _ => none }
def RenamedWrongFalsely : Prop := renamedRow.holds Try.pinned (OpenSpec.ofChange renamedWrong)

/- THE SECOND FORM. 'bulk': how many values and letters a reading holds, each counted each time it is reached (what is shared counts as often as it is met; a slice's spare places count too). A statement '..UptoSaid' is the law's where the arguments, and the package variables that the reading takes, are together of bulk at most 1048576: NARROWER than '..Said'. Prove '..Said' where nothing that the law and all that it calls make is longer than what came in: it says more and counts as full. Else prove '..UptoSaid'. A law counts once. -/
mutual
def uptoBulk {H : Type} : DataW H → Nat
  | .lit (.string bytes) => bytes.length + 1
  | .lit _ => 1
  | .nil => 1
  | .ptr d => uptoBulk d + 1
  | .slice elems spare => uptoBulkAll elems + uptoBulkAll spare + 1
  | .agg parts => uptoBulkAll parts + 1
  | .iface _ d => uptoBulk d + 1
  | .map entries => uptoBulkEntries entries + 1
  | .held _ => 1
def uptoBulkAll {H : Type} : List (DataW H) → Nat
  | [] => 0
  | d :: r => uptoBulk d + uptoBulkAll r
def uptoBulkEntries {H : Type} : List (Lit × DataW H) → Nat
  | [] => 0
  | x :: r => uptoBulkEntry x + uptoBulkEntries r
def uptoBulkEntry {H : Type} : Lit × DataW H → Nat
  | (.string bytes, d) => bytes.length + uptoBulk d + 1
  | (_, d) => uptoBulk d + 1
 end
def uptoSmall : (H : Type) → List (DataW H) → Bool := fun _ ds => decide (uptoBulkAll ds ≤ 1048576)
def OpenSpec.upto (s : _root_.Go.ChangeSpec) : _root_.Go.OpenSpec := { _root_.Go.OpenSpec.ofChange s with cond := some uptoSmall }

/-- 'twinlaw.Codes', WHERE WHAT IT READS IS OF BULK AT MOST 1048576: true; the input reads as it did. -/
def codesUptoRow : OpenClaim := { program := "ytdjdjkgoelbbdaa", sum := "09f739b0e1a2a82f27ccf4d45fda1caddddc2bd1da976a407a16b470269380fa", func := "twin/twinlaw.Codes", spec := "codes", apart := false, narrowed := true }
def CodesUptoSaid : Prop := codesUptoRow.holds Try.pinned (OpenSpec.upto codesSpec)

/-- 'twinlaw.Hints', WHERE WHAT IT READS IS OF BULK AT MOST 1048576: true; the input reads as it did. -/
def hintsUptoRow : OpenClaim := { program := "ytdjdjkgoelbbdaa", sum := "09f739b0e1a2a82f27ccf4d45fda1caddddc2bd1da976a407a16b470269380fa", func := "twin/twinlaw.Hints", spec := "hints", apart := false, narrowed := true }
def HintsUptoSaid : Prop := hintsUptoRow.holds Try.pinned (OpenSpec.upto hintsSpec)

/-- 'twinkeep.Back', WHERE WHAT IT READS IS OF BULK AT MOST 1048576: true; the input reads as it did. -/
def backUptoRow : OpenClaim := { program := "ytdjdjkgoelbbdaa", sum := "09f739b0e1a2a82f27ccf4d45fda1caddddc2bd1da976a407a16b470269380fa", func := "twin/twinkeep.Back", spec := "back", apart := false, narrowed := true }
def BackUptoSaid : Prop := backUptoRow.holds Try.pinned (OpenSpec.upto backSpec)

/-- 'twinlaw.Runs', WHERE WHAT IT READS IS OF BULK AT MOST 1048576: true; the input reads as it did. -/
def runsUptoRow : OpenClaim := { program := "ytdjdjkgoelbbdaa", sum := "09f739b0e1a2a82f27ccf4d45fda1caddddc2bd1da976a407a16b470269380fa", func := "twin/twinlaw.Runs", spec := "runs", apart := false, narrowed := true }
def RunsUptoSaid : Prop := runsUptoRow.holds Try.pinned (OpenSpec.upto runsSpec)

/-- 'twinkeep.Further', WHERE WHAT IT READS IS OF BULK AT MOST 1048576: true; the input reads as it did. -/
def furtherUptoRow : OpenClaim := { program := "ytdjdjkgoelbbdaa", sum := "09f739b0e1a2a82f27ccf4d45fda1caddddc2bd1da976a407a16b470269380fa", func := "twin/twinkeep.Further", spec := "further", apart := false, narrowed := true }
def FurtherUptoSaid : Prop := furtherUptoRow.holds Try.pinned (OpenSpec.upto furtherSpec)

/-- 'twinkeep.Same', WHERE WHAT IT READS IS OF BULK AT MOST 1048576: true; the input reads as it did. -/
def sameUptoRow : OpenClaim := { program := "ytdjdjkgoelbbdaa", sum := "09f739b0e1a2a82f27ccf4d45fda1caddddc2bd1da976a407a16b470269380fa", func := "twin/twinkeep.Same", spec := "same", apart := false, narrowed := true }
def SameUptoSaid : Prop := sameUptoRow.holds Try.pinned (OpenSpec.upto sameSpec)

/-- 'twinkeep.Renamed', WHERE WHAT IT READS IS OF BULK AT MOST 1048576: true; the input reads as it did. -/
def renamedUptoRow : OpenClaim := { program := "ytdjdjkgoelbbdaa", sum := "09f739b0e1a2a82f27ccf4d45fda1caddddc2bd1da976a407a16b470269380fa", func := "twin/twinkeep.Renamed", spec := "renamed", apart := false, narrowed := true }
def RenamedUptoSaid : Prop := renamedUptoRow.holds Try.pinned (OpenSpec.upto renamedSpec)

end Rows
end Go.Proofs.Ytdjdjkgoelbbdaa
