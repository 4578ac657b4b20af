/-
  DERIVED. GIVEN WITH THE SEED: THE CARDS: each row of YtblhmeidbjigaabGreatDoorRows.lean that lists a variable, with what it lists TIED to the program's text (the seventh form; the later family's looks); each row that meets fmt, with fmt's text TOLD by the authors' own Lean function (tested against real Go, not proved from fmt's source: count such statements apart). THE CARD IS WHAT COUNTS. Prove the row's statement (the work); the ties are given (YtblhmeidbjigaabGreatDoorTie.lean); close each card by the builder's one call (the guide's Derived/Test/ToyasCard.lean, 'card_holds'). Laid BY PROGRAM, IN A SANDBOX (cutbox-door.mjs). By AI agents, Wed Nov 11 2026. No macro, syntax, notation, axiom, sorry.
-/
import Derived.Test.YtblhmeidbjigaabGreatDoorRows
import GoSem.ClaimSeven
namespace Go.Proofs.YtblhmeidbjigaabGreatDoor
namespace Rows

/-- THE TIED CARD OF 'twinkeep.Spilled'. -/
def spilledCard : Claim7 := { stood := { row := spilledRow, standIns := [], harness := (true, "659ec5c4ed7f0b4a632929f12f5974ea0b92ebdeadd767670340aee508a5d25e"), looks := false }, kinds := [], alts := [], laidByText := true, laidKinds := [.data, .data, .data], laidTests := true, laidLooks := .later }
def SpilledCardSaid : Prop := Claim7.holds Tryz.pinned (.plain (OpenSpec.ofChange spilledSpec)) spilledCard

/-- THE TIED CARD OF 'twinkeep.Idle'. -/
def idleCard : Claim7 := { stood := { row := idleRow, standIns := [], harness := (true, "659ec5c4ed7f0b4a632929f12f5974ea0b92ebdeadd767670340aee508a5d25e"), looks := false }, kinds := [], alts := [], laidByText := true, laidKinds := [.data, .data, .data], laidTests := true, laidLooks := .later }
def IdleCardSaid : Prop := Claim7.holds Tryz.pinned (.plain (OpenSpec.ofChange idleSpec)) idleCard

/-- THE TIED CARD OF 'twinkeep.Swapped'. -/
def swappedCard : Claim7 := { stood := { row := swappedRow, standIns := [], harness := (true, "659ec5c4ed7f0b4a632929f12f5974ea0b92ebdeadd767670340aee508a5d25e"), looks := false }, kinds := [], alts := [], laidByText := true, laidKinds := [.data, .data, .data], laidTests := true, laidLooks := .later }
def SwappedCardSaid : Prop := Claim7.holds Tryz.pinned (.plain (OpenSpec.ofChange swappedSpec)) swappedCard

/-- THE TIED CARD OF 'twinkeep.Shared'. -/
def sharedCard : Claim7 := { stood := { row := sharedRow, standIns := [], harness := (true, "659ec5c4ed7f0b4a632929f12f5974ea0b92ebdeadd767670340aee508a5d25e"), looks := false }, kinds := [], alts := [], laidByText := true, laidKinds := [.data, .data, .data], laidTests := true, laidLooks := .later }
def SharedCardSaid : Prop := Claim7.holds Tryz.pinned (.plain (OpenSpec.ofChange sharedSpec)) sharedCard

/-- THE TIED CARD OF 'twinkeep.Sound'. -/
def soundCard : Claim7 := { stood := { row := soundRow, standIns := [], harness := (true, "659ec5c4ed7f0b4a632929f12f5974ea0b92ebdeadd767670340aee508a5d25e"), looks := false }, kinds := [], alts := [], laidByText := true, laidKinds := [.data, .data, .data], laidTests := true, laidLooks := .later }
def SoundCardSaid : Prop := Claim7.holds Tryz.pinned (.plain (OpenSpec.ofChange soundSpec)) soundCard

/-- THE TIED CARD OF 'twinkeep.Quiet'. -/
def quietCard : Claim7 := { stood := { row := quietRow, standIns := [], harness := (true, "659ec5c4ed7f0b4a632929f12f5974ea0b92ebdeadd767670340aee508a5d25e"), looks := false }, kinds := [], alts := [], laidByText := true, laidKinds := [.data, .data, .data], laidTests := true, laidLooks := .later }
def QuietCardSaid : Prop := Claim7.holds Tryz.pinned (.plain (OpenSpec.ofChange quietSpec)) quietCard

/-- THE TIED CARD OF 'twinlaw.All'. -/
def allCard : Claim7 := { stood := { row := allRow, standIns := [], harness := (true, "659ec5c4ed7f0b4a632929f12f5974ea0b92ebdeadd767670340aee508a5d25e"), looks := false }, kinds := [], alts := [], laidByText := true, laidKinds := [.data, .data, .data], laidTests := true, laidLooks := .later }
def AllCardSaid : Prop := Claim7.holds Tryz.pinned (.plain (OpenSpec.ofChange allSpec)) allCard

/-- THE SECOND FORM's CARD OF 'twinkeep.Spilled'. -/
def spilledUptoCard : Claim7 := { stood := { row := spilledUptoRow, standIns := [], harness := (true, "659ec5c4ed7f0b4a632929f12f5974ea0b92ebdeadd767670340aee508a5d25e"), looks := false }, kinds := [], alts := [], laidByText := true, laidKinds := [.data, .data, .data], laidTests := true, laidLooks := .later }
def SpilledUptoCardSaid : Prop := Claim7.holds Tryz.pinned (.plain (OpenSpec.upto spilledSpec)) spilledUptoCard

/-- THE SECOND FORM's CARD OF 'twinkeep.Idle'. -/
def idleUptoCard : Claim7 := { stood := { row := idleUptoRow, standIns := [], harness := (true, "659ec5c4ed7f0b4a632929f12f5974ea0b92ebdeadd767670340aee508a5d25e"), looks := false }, kinds := [], alts := [], laidByText := true, laidKinds := [.data, .data, .data], laidTests := true, laidLooks := .later }
def IdleUptoCardSaid : Prop := Claim7.holds Tryz.pinned (.plain (OpenSpec.upto idleSpec)) idleUptoCard

/-- THE SECOND FORM's CARD OF 'twinkeep.Swapped'. -/
def swappedUptoCard : Claim7 := { stood := { row := swappedUptoRow, standIns := [], harness := (true, "659ec5c4ed7f0b4a632929f12f5974ea0b92ebdeadd767670340aee508a5d25e"), looks := false }, kinds := [], alts := [], laidByText := true, laidKinds := [.data, .data, .data], laidTests := true, laidLooks := .later }
def SwappedUptoCardSaid : Prop := Claim7.holds Tryz.pinned (.plain (OpenSpec.upto swappedSpec)) swappedUptoCard

/-- THE SECOND FORM's CARD OF 'twinkeep.Shared'. -/
def sharedUptoCard : Claim7 := { stood := { row := sharedUptoRow, standIns := [], harness := (true, "659ec5c4ed7f0b4a632929f12f5974ea0b92ebdeadd767670340aee508a5d25e"), looks := false }, kinds := [], alts := [], laidByText := true, laidKinds := [.data, .data, .data], laidTests := true, laidLooks := .later }
def SharedUptoCardSaid : Prop := Claim7.holds Tryz.pinned (.plain (OpenSpec.upto sharedSpec)) sharedUptoCard

/-- THE SECOND FORM's CARD OF 'twinkeep.Sound'. -/
def soundUptoCard : Claim7 := { stood := { row := soundUptoRow, standIns := [], harness := (true, "659ec5c4ed7f0b4a632929f12f5974ea0b92ebdeadd767670340aee508a5d25e"), looks := false }, kinds := [], alts := [], laidByText := true, laidKinds := [.data, .data, .data], laidTests := true, laidLooks := .later }
def SoundUptoCardSaid : Prop := Claim7.holds Tryz.pinned (.plain (OpenSpec.upto soundSpec)) soundUptoCard

/-- THE SECOND FORM's CARD OF 'twinkeep.Quiet'. -/
def quietUptoCard : Claim7 := { stood := { row := quietUptoRow, standIns := [], harness := (true, "659ec5c4ed7f0b4a632929f12f5974ea0b92ebdeadd767670340aee508a5d25e"), looks := false }, kinds := [], alts := [], laidByText := true, laidKinds := [.data, .data, .data], laidTests := true, laidLooks := .later }
def QuietUptoCardSaid : Prop := Claim7.holds Tryz.pinned (.plain (OpenSpec.upto quietSpec)) quietUptoCard

/-- THE SECOND FORM's CARD OF 'twinlaw.All'. -/
def allUptoCard : Claim7 := { stood := { row := allUptoRow, standIns := [], harness := (true, "659ec5c4ed7f0b4a632929f12f5974ea0b92ebdeadd767670340aee508a5d25e"), looks := false }, kinds := [], alts := [], laidByText := true, laidKinds := [.data, .data, .data], laidTests := true, laidLooks := .later }
def AllUptoCardSaid : Prop := Claim7.holds Tryz.pinned (.plain (OpenSpec.upto allSpec)) allUptoCard
end Rows
end Go.Proofs.YtblhmeidbjigaabGreatDoor
