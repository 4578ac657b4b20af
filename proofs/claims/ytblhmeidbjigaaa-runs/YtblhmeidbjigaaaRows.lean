/-
  No cell of these rows narrows 'for every input' (looked for: loops, veiled, ifaces, maps, wideKeys, modest, calm, conditions, laid).
  DERIVED. THE GIVEN ROWS OF THIS SEAT. 5 by the template 'for every input the law returns true; each argument reads behind the call as it read before'; 0 by the template 'total and deterministic' (their statements: YtblhmeidbjigaaaTotals.lean).
  GIVEN WITH THE SEED: the statements are not yours to turn. If you find one false, say at which input.
  Laid BY PROGRAM, IN A SANDBOX (cutbox-rows.mjs): the forced cells as the released guide's own fill.sh prints them over the translation 16f04a0c7bf787f1… (all of the seat's roots in one cut). By AI agents, Wed Nov 11 2026. No macro, syntax, notation, axiom, sorry.
-/
import Derived.Test.YtblhmeidbjigaaaChecked
import GoSem.Claim
import GoSem.ClaimJoined
import GoSem.ClaimMapViews
import Derived.JoinedTies
import Derived.KernelRfl
namespace Go.Proofs.Ytblhmeidbjigaaa
/- THE CELL 'sum', in the pinned program and in every row, IS THE sha256 OF THE DUMP (.gsa) THAT YtblhmeidbjigaaaProg.lean LOADS. Nothing in Lean hashes anything: it is a label: what it is worth is what the hold of that sum in a sandbox is worth. -/
noncomputable def Try.pinned : Pinned := { name := "ytblhmeidbjigaaa", sum := "16f04a0c7bf787f1edc0ededdfeb5bbfd7151e5324f5ea42b73ad3e80ea9290e", checked := Try.checked }
namespace Rows
def none {H : Type} : Left H := { results := [], args := [] }

/-- 'twinlaw.Codes': WHATEVER THE INPUT: true; the input reads as it did. -/
def codesSpec : ChangeSpec := { name := "codes", fn := fun _ => fun
  | [d1, d2] => { results := [.lit (.bool true)], args := [d1, d2] }
  | _ => none }
def codesRow : OpenClaim := { program := "ytblhmeidbjigaaa", sum := "16f04a0c7bf787f1edc0ededdfeb5bbfd7151e5324f5ea42b73ad3e80ea9290e", func := "twin/twinlaw.Codes", spec := "codes", apart := false }
def CodesSaid : Prop := codesRow.holds Try.pinned (OpenSpec.ofChange codesSpec)

/-- ITS FALSE NEIGHBOUR: 'it returns false'. Refute it at one input. -/
def codesWrong : ChangeSpec := { name := "codes", fn := fun _ => fun
  | [d1, d2] => { results := [.lit (.bool false)], args := [d1, d2] }
  | _ => none }
def CodesWrongFalsely : Prop := codesRow.holds Try.pinned (OpenSpec.ofChange codesWrong)

/-- 'twinlaw.Hints': WHATEVER THE INPUT: true; the input reads as it did. -/
def hintsSpec : ChangeSpec := { name := "hints", fn := fun _ => fun
  | [d1, d2] => { results := [.lit (.bool true)], args := [d1, d2] }
  | _ => none }
def hintsRow : OpenClaim := { program := "ytblhmeidbjigaaa", sum := "16f04a0c7bf787f1edc0ededdfeb5bbfd7151e5324f5ea42b73ad3e80ea9290e", func := "twin/twinlaw.Hints", spec := "hints", apart := false }
def HintsSaid : Prop := hintsRow.holds Try.pinned (OpenSpec.ofChange hintsSpec)

/-- ITS FALSE NEIGHBOUR: 'it returns false'. Refute it at one input. -/
def hintsWrong : ChangeSpec := { name := "hints", fn := fun _ => fun
  | [d1, d2] => { results := [.lit (.bool false)], args := [d1, d2] }
  | _ => none }
def HintsWrongFalsely : Prop := hintsRow.holds Try.pinned (OpenSpec.ofChange hintsWrong)

/-- 'twinkeep.Back': WHATEVER THE INPUT: true; the input reads as it did. -/
def backSpec : ChangeSpec := { name := "back", fn := fun _ => fun
  | [d1, d2, d3] => { results := [.lit (.bool true)], args := [d1, d2, d3] }
  | _ => none }
def backRow : OpenClaim := { program := "ytblhmeidbjigaaa", sum := "16f04a0c7bf787f1edc0ededdfeb5bbfd7151e5324f5ea42b73ad3e80ea9290e", func := "twin/twinkeep.Back", spec := "back", apart := false }
def BackSaid : Prop := backRow.holds Try.pinned (OpenSpec.ofChange backSpec)

/-- ITS FALSE NEIGHBOUR: 'it returns false'. Refute it at one input. -/
def backWrong : ChangeSpec := { name := "back", fn := fun _ => fun
  | [d1, d2, d3] => { results := [.lit (.bool false)], args := [d1, d2, d3] }
  | _ => none }
def BackWrongFalsely : Prop := backRow.holds Try.pinned (OpenSpec.ofChange backWrong)

/-- 'twinlaw.Runs': WHATEVER THE INPUT: true; the input reads as it did. -/
def runsSpec : ChangeSpec := { name := "runs", fn := fun _ => fun
  | [d1, d2, d3] => { results := [.lit (.bool true)], args := [d1, d2, d3] }
  | _ => none }
def runsRow : OpenClaim := { program := "ytblhmeidbjigaaa", sum := "16f04a0c7bf787f1edc0ededdfeb5bbfd7151e5324f5ea42b73ad3e80ea9290e", func := "twin/twinlaw.Runs", spec := "runs", apart := false }
def RunsSaid : Prop := runsRow.holds Try.pinned (OpenSpec.ofChange runsSpec)

/-- ITS FALSE NEIGHBOUR: 'it returns false'. Refute it at one input. -/
def runsWrong : ChangeSpec := { name := "runs", fn := fun _ => fun
  | [d1, d2, d3] => { results := [.lit (.bool false)], args := [d1, d2, d3] }
  | _ => none }
def RunsWrongFalsely : Prop := runsRow.holds Try.pinned (OpenSpec.ofChange runsWrong)

/-- 'twinkeep.Further': WHATEVER THE INPUT: true; the input reads as it did. -/
def furtherSpec : ChangeSpec := { name := "further", fn := fun _ => fun
  | [d1, d2, d3, d4, d5, d6] => { results := [.lit (.bool true)], args := [d1, d2, d3, d4, d5, d6] }
  | _ => none }
def furtherRow : OpenClaim := { program := "ytblhmeidbjigaaa", sum := "16f04a0c7bf787f1edc0ededdfeb5bbfd7151e5324f5ea42b73ad3e80ea9290e", func := "twin/twinkeep.Further", spec := "further", apart := false }
def FurtherSaid : Prop := furtherRow.holds Try.pinned (OpenSpec.ofChange furtherSpec)

/-- ITS FALSE NEIGHBOUR: 'it returns false'. Refute it at one input. -/
def furtherWrong : ChangeSpec := { name := "further", fn := fun _ => fun
  | [d1, d2, d3, d4, d5, d6] => { results := [.lit (.bool false)], args := [d1, d2, d3, d4, d5, d6] }
  | _ => none }
def FurtherWrongFalsely : Prop := furtherRow.holds Try.pinned (OpenSpec.ofChange furtherWrong)

/- THE SECOND FORM. 'bulk': how many values and letters a reading holds, each counted each time it is reached (what is shared counts as often as it is met; a slice's spare places count too). A statement '..UptoSaid' is the law's where the arguments, and the package variables that the reading takes, are together of bulk at most 1048576: NARROWER than '..Said'. Prove '..Said' where nothing that the law and all that it calls make is longer than what came in: it says more and counts as full. Else prove '..UptoSaid'. A law counts once. -/
mutual
def uptoBulk {H : Type} : DataW H → Nat
  | .lit (.string bytes) => bytes.length + 1
  | .lit _ => 1
  | .nil => 1
  | .ptr d => uptoBulk d + 1
  | .slice elems spare => uptoBulkAll elems + uptoBulkAll spare + 1
  | .agg parts => uptoBulkAll parts + 1
  | .iface _ d => uptoBulk d + 1
  | .map entries => uptoBulkEntries entries + 1
  | .held _ => 1
def uptoBulkAll {H : Type} : List (DataW H) → Nat
  | [] => 0
  | d :: r => uptoBulk d + uptoBulkAll r
def uptoBulkEntries {H : Type} : List (Lit × DataW H) → Nat
  | [] => 0
  | x :: r => uptoBulkEntry x + uptoBulkEntries r
def uptoBulkEntry {H : Type} : Lit × DataW H → Nat
  | (.string bytes, d) => bytes.length + uptoBulk d + 1
  | (_, d) => uptoBulk d + 1
 end
def uptoSmall : (H : Type) → List (DataW H) → Bool := fun _ ds => decide (uptoBulkAll ds ≤ 1048576)
def OpenSpec.upto (s : _root_.Go.ChangeSpec) : _root_.Go.OpenSpec := { _root_.Go.OpenSpec.ofChange s with cond := some uptoSmall }

/-- 'twinlaw.Codes', WHERE WHAT IT READS IS OF BULK AT MOST 1048576: true; the input reads as it did. -/
def codesUptoRow : OpenClaim := { program := "ytblhmeidbjigaaa", sum := "16f04a0c7bf787f1edc0ededdfeb5bbfd7151e5324f5ea42b73ad3e80ea9290e", func := "twin/twinlaw.Codes", spec := "codes", apart := false, narrowed := true }
def CodesUptoSaid : Prop := codesUptoRow.holds Try.pinned (OpenSpec.upto codesSpec)

/-- 'twinlaw.Hints', WHERE WHAT IT READS IS OF BULK AT MOST 1048576: true; the input reads as it did. -/
def hintsUptoRow : OpenClaim := { program := "ytblhmeidbjigaaa", sum := "16f04a0c7bf787f1edc0ededdfeb5bbfd7151e5324f5ea42b73ad3e80ea9290e", func := "twin/twinlaw.Hints", spec := "hints", apart := false, narrowed := true }
def HintsUptoSaid : Prop := hintsUptoRow.holds Try.pinned (OpenSpec.upto hintsSpec)

/-- 'twinkeep.Back', WHERE WHAT IT READS IS OF BULK AT MOST 1048576: true; the input reads as it did. -/
def backUptoRow : OpenClaim := { program := "ytblhmeidbjigaaa", sum := "16f04a0c7bf787f1edc0ededdfeb5bbfd7151e5324f5ea42b73ad3e80ea9290e", func := "twin/twinkeep.Back", spec := "back", apart := false, narrowed := true }
def BackUptoSaid : Prop := backUptoRow.holds Try.pinned (OpenSpec.upto backSpec)

/-- 'twinlaw.Runs', WHERE WHAT IT READS IS OF BULK AT MOST 1048576: true; the input reads as it did. -/
def runsUptoRow : OpenClaim := { program := "ytblhmeidbjigaaa", sum := "16f04a0c7bf787f1edc0ededdfeb5bbfd7151e5324f5ea42b73ad3e80ea9290e", func := "twin/twinlaw.Runs", spec := "runs", apart := false, narrowed := true }
def RunsUptoSaid : Prop := runsUptoRow.holds Try.pinned (OpenSpec.upto runsSpec)

/-- 'twinkeep.Further', WHERE WHAT IT READS IS OF BULK AT MOST 1048576: true; the input reads as it did. -/
def furtherUptoRow : OpenClaim := { program := "ytblhmeidbjigaaa", sum := "16f04a0c7bf787f1edc0ededdfeb5bbfd7151e5324f5ea42b73ad3e80ea9290e", func := "twin/twinkeep.Further", spec := "further", apart := false, narrowed := true }
def FurtherUptoSaid : Prop := furtherUptoRow.holds Try.pinned (OpenSpec.upto furtherSpec)

end Rows
end Go.Proofs.Ytblhmeidbjigaaa
