/-
  DERIVED. GIVEN WITH THE SEED: THE CARDS: each row of YtblhmeidbjigaaaGreatDoorRows.lean that lists a variable, with what it lists TIED to the program's text (the seventh form; the later family's looks); each row that meets fmt, with fmt's text TOLD by the authors' own Lean function (tested against real Go, not proved from fmt's source: count such statements apart). THE CARD IS WHAT COUNTS. Prove the row's statement (the work); the ties are given (YtblhmeidbjigaaaGreatDoorTie.lean); close each card by the builder's one call (the guide's Derived/Test/ToyasCard.lean, 'card_holds'). Laid BY PROGRAM, IN A SANDBOX (cutbox-door.mjs). By AI agents, Wed Nov 11 2026. No macro, syntax, notation, axiom, sorry.
-/
import Derived.Test.YtblhmeidbjigaaaGreatDoorRows
import GoSem.ClaimSeven
namespace Go.Proofs.YtblhmeidbjigaaaGreatDoor
namespace Rows

/-- THE TIED CARD OF 'twinlaw.Terms'. -/
def termsCard : Claim7 := { stood := { row := termsRow, standIns := [], harness := (true, "375be648dc3834b3c1b98194c4befb881f6cb664315ea86f6622bd035ef4b679"), looks := false }, kinds := [], alts := [], laidByText := true, laidKinds := [.data, .data, .data], laidTests := true, laidLooks := .later }
def TermsCardSaid : Prop := Claim7.holds Tryz.pinned (.plain (OpenSpec.ofChange termsSpec)) termsCard

/-- THE TIED CARD OF 'twinlaw.Markings'. -/
def markingsCard : Claim7 := { stood := { row := markingsRow, standIns := [], harness := (true, "375be648dc3834b3c1b98194c4befb881f6cb664315ea86f6622bd035ef4b679"), looks := false }, kinds := [], alts := [], laidByText := true, laidKinds := [.data, .data, .data], laidTests := true, laidLooks := .later }
def MarkingsCardSaid : Prop := Claim7.holds Tryz.pinned (.plain (OpenSpec.ofChange markingsSpec)) markingsCard

/-- THE TIED CARD OF 'twinkeep.Meaning'. -/
def meaningCard : Claim7 := { stood := { row := meaningRow, standIns := [], harness := (true, "375be648dc3834b3c1b98194c4befb881f6cb664315ea86f6622bd035ef4b679"), looks := false }, kinds := [], alts := [], laidByText := true, laidKinds := [.data, .data, .data], laidTests := true, laidLooks := .later }
def MeaningCardSaid : Prop := Claim7.holds Tryz.pinned (.plain (OpenSpec.ofChange meaningSpec)) meaningCard

/-- THE TIED CARD OF 'twinkeep.Warned'. -/
def warnedCard : Claim7 := { stood := { row := warnedRow, standIns := [], harness := (true, "375be648dc3834b3c1b98194c4befb881f6cb664315ea86f6622bd035ef4b679"), looks := false }, kinds := [], alts := [], laidByText := true, laidKinds := [.data, .data, .data], laidTests := true, laidLooks := .later }
def WarnedCardSaid : Prop := Claim7.holds Tryz.pinned (.plain (OpenSpec.ofChange warnedSpec)) warnedCard

/-- THE TIED CARD OF 'twinlaw.Verdicts'. -/
def verdictsCard : Claim7 := { stood := { row := verdictsRow, standIns := [], harness := (true, "375be648dc3834b3c1b98194c4befb881f6cb664315ea86f6622bd035ef4b679"), looks := false }, kinds := [], alts := [], laidByText := true, laidKinds := [.data, .data, .data], laidTests := true, laidLooks := .later }
def VerdictsCardSaid : Prop := Claim7.holds Tryz.pinned (.plain (OpenSpec.ofChange verdictsSpec)) verdictsCard

/-- THE TIED CARD OF 'twinkeep.Same'. -/
def sameCard : Claim7 := { stood := { row := sameRow, standIns := [], harness := (true, "375be648dc3834b3c1b98194c4befb881f6cb664315ea86f6622bd035ef4b679"), looks := false }, kinds := [], alts := [], laidByText := true, laidKinds := [.data, .data, .data], laidTests := true, laidLooks := .later }
def SameCardSaid : Prop := Claim7.holds Tryz.pinned (.plain (OpenSpec.ofChange sameSpec)) sameCard

/-- THE TIED CARD OF 'twinkeep.Renamed'. -/
def renamedCard : Claim7 := { stood := { row := renamedRow, standIns := [], harness := (true, "375be648dc3834b3c1b98194c4befb881f6cb664315ea86f6622bd035ef4b679"), looks := false }, kinds := [], alts := [], laidByText := true, laidKinds := [.data, .data, .data], laidTests := true, laidLooks := .later }
def RenamedCardSaid : Prop := Claim7.holds Tryz.pinned (.plain (OpenSpec.ofChange renamedSpec)) renamedCard

/-- THE SECOND FORM's CARD OF 'twinlaw.Terms'. -/
def termsUptoCard : Claim7 := { stood := { row := termsUptoRow, standIns := [], harness := (true, "375be648dc3834b3c1b98194c4befb881f6cb664315ea86f6622bd035ef4b679"), looks := false }, kinds := [], alts := [], laidByText := true, laidKinds := [.data, .data, .data], laidTests := true, laidLooks := .later }
def TermsUptoCardSaid : Prop := Claim7.holds Tryz.pinned (.plain (OpenSpec.upto termsSpec)) termsUptoCard

/-- THE SECOND FORM's CARD OF 'twinlaw.Markings'. -/
def markingsUptoCard : Claim7 := { stood := { row := markingsUptoRow, standIns := [], harness := (true, "375be648dc3834b3c1b98194c4befb881f6cb664315ea86f6622bd035ef4b679"), looks := false }, kinds := [], alts := [], laidByText := true, laidKinds := [.data, .data, .data], laidTests := true, laidLooks := .later }
def MarkingsUptoCardSaid : Prop := Claim7.holds Tryz.pinned (.plain (OpenSpec.upto markingsSpec)) markingsUptoCard

/-- THE SECOND FORM's CARD OF 'twinkeep.Meaning'. -/
def meaningUptoCard : Claim7 := { stood := { row := meaningUptoRow, standIns := [], harness := (true, "375be648dc3834b3c1b98194c4befb881f6cb664315ea86f6622bd035ef4b679"), looks := false }, kinds := [], alts := [], laidByText := true, laidKinds := [.data, .data, .data], laidTests := true, laidLooks := .later }
def MeaningUptoCardSaid : Prop := Claim7.holds Tryz.pinned (.plain (OpenSpec.upto meaningSpec)) meaningUptoCard

/-- THE SECOND FORM's CARD OF 'twinkeep.Warned'. -/
def warnedUptoCard : Claim7 := { stood := { row := warnedUptoRow, standIns := [], harness := (true, "375be648dc3834b3c1b98194c4befb881f6cb664315ea86f6622bd035ef4b679"), looks := false }, kinds := [], alts := [], laidByText := true, laidKinds := [.data, .data, .data], laidTests := true, laidLooks := .later }
def WarnedUptoCardSaid : Prop := Claim7.holds Tryz.pinned (.plain (OpenSpec.upto warnedSpec)) warnedUptoCard

/-- THE SECOND FORM's CARD OF 'twinlaw.Verdicts'. -/
def verdictsUptoCard : Claim7 := { stood := { row := verdictsUptoRow, standIns := [], harness := (true, "375be648dc3834b3c1b98194c4befb881f6cb664315ea86f6622bd035ef4b679"), looks := false }, kinds := [], alts := [], laidByText := true, laidKinds := [.data, .data, .data], laidTests := true, laidLooks := .later }
def VerdictsUptoCardSaid : Prop := Claim7.holds Tryz.pinned (.plain (OpenSpec.upto verdictsSpec)) verdictsUptoCard

/-- THE SECOND FORM's CARD OF 'twinkeep.Same'. -/
def sameUptoCard : Claim7 := { stood := { row := sameUptoRow, standIns := [], harness := (true, "375be648dc3834b3c1b98194c4befb881f6cb664315ea86f6622bd035ef4b679"), looks := false }, kinds := [], alts := [], laidByText := true, laidKinds := [.data, .data, .data], laidTests := true, laidLooks := .later }
def SameUptoCardSaid : Prop := Claim7.holds Tryz.pinned (.plain (OpenSpec.upto sameSpec)) sameUptoCard

/-- THE SECOND FORM's CARD OF 'twinkeep.Renamed'. -/
def renamedUptoCard : Claim7 := { stood := { row := renamedUptoRow, standIns := [], harness := (true, "375be648dc3834b3c1b98194c4befb881f6cb664315ea86f6622bd035ef4b679"), looks := false }, kinds := [], alts := [], laidByText := true, laidKinds := [.data, .data, .data], laidTests := true, laidLooks := .later }
def RenamedUptoCardSaid : Prop := Claim7.holds Tryz.pinned (.plain (OpenSpec.upto renamedSpec)) renamedUptoCard
end Rows
end Go.Proofs.YtblhmeidbjigaaaGreatDoor
