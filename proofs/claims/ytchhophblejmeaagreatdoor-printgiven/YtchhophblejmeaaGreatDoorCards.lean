/-
  DERIVED. GIVEN WITH THE SEED: THE CARDS: each row of YtchhophblejmeaaGreatDoorRows.lean that lists a variable, with what it lists TIED to the program's text (the seventh form; the later family's looks); each row that meets fmt, with fmt's text TOLD by the authors' own Lean function (tested against real Go, not proved from fmt's source: count such statements apart). THE CARD IS WHAT COUNTS. Prove the row's statement (the work); the ties are given (YtchhophblejmeaaGreatDoorTie.lean); close each card by the builder's one call (the guide's Derived/Test/ToyasCard.lean, 'card_holds'). Laid BY PROGRAM, IN A SANDBOX (cutbox-door.mjs). By AI agents, Wed Nov 11 2026. No macro, syntax, notation, axiom, sorry.
-/
import Derived.Test.YtchhophblejmeaaGreatDoorRows
import GoSem.ClaimSeven
namespace Go.Proofs.YtchhophblejmeaaGreatDoor
namespace Rows

/-- THE TIED CARD OF 'edictlaw04.PrintGiven'. -/
def printGivenCard : Claim7 := { stood := { row := printGivenRow, standIns := [], harness := (true, "ce13809d7044da8807a94eb0a9d93a5ff4686e7eb62cc25cb1204c453df7adee"), looks := true }, kinds := [], alts := [], laidByText := true, laidKinds := [.data, .data, .data, .sentinel, .sentinel, .data], laidTests := true, laidLooks := .later }
def PrintGivenCardSaid : Prop := Claim7.holds Tryz.pinned (.plain (OpenSpec.ofChange printGivenSpec)) printGivenCard

/-- THE TIED CARD OF 'edictlaw04.PrintNormal'. -/
def printNormalCard : Claim7 := { stood := { row := printNormalRow, standIns := [], harness := (true, "ce13809d7044da8807a94eb0a9d93a5ff4686e7eb62cc25cb1204c453df7adee"), looks := true }, kinds := [], alts := [], laidByText := true, laidKinds := [.data, .data, .data, .sentinel, .sentinel, .data], laidTests := true, laidLooks := .later }
def PrintNormalCardSaid : Prop := Claim7.holds Tryz.pinned (.plain (OpenSpec.ofChange printNormalSpec)) printNormalCard

/-- THE TIED CARD OF 'edictlaw04.PrintAsked'. -/
def printAskedCard : Claim7 := { stood := { row := printAskedRow, standIns := [], harness := (true, "ce13809d7044da8807a94eb0a9d93a5ff4686e7eb62cc25cb1204c453df7adee"), looks := true }, kinds := [], alts := [], laidByText := true, laidKinds := [.data, .data, .data, .sentinel, .sentinel, .data], laidTests := true, laidLooks := .later }
def PrintAskedCardSaid : Prop := Claim7.holds Tryz.pinned (.plain (OpenSpec.ofChange printAskedSpec)) printAskedCard

/-- THE TIED CARD OF 'edictlaw04.PrintBack'. -/
def printBackCard : Claim7 := { stood := { row := printBackRow, standIns := [], harness := (true, "ce13809d7044da8807a94eb0a9d93a5ff4686e7eb62cc25cb1204c453df7adee"), looks := true }, kinds := [], alts := [], laidByText := true, laidKinds := [.data, .data, .data, .sentinel, .sentinel, .data], laidTests := true, laidLooks := .later }
def PrintBackCardSaid : Prop := Claim7.holds Tryz.pinned (.plain (OpenSpec.ofChange printBackSpec)) printBackCard

/-- THE SECOND FORM's CARD OF 'edictlaw04.PrintGiven'. -/
def printGivenUptoCard : Claim7 := { stood := { row := printGivenUptoRow, standIns := [], harness := (true, "ce13809d7044da8807a94eb0a9d93a5ff4686e7eb62cc25cb1204c453df7adee"), looks := true }, kinds := [], alts := [], laidByText := true, laidKinds := [.data, .data, .data, .sentinel, .sentinel, .data], laidTests := true, laidLooks := .later }
def PrintGivenUptoCardSaid : Prop := Claim7.holds Tryz.pinned (.plain (OpenSpec.upto printGivenSpec)) printGivenUptoCard

/-- THE SECOND FORM's CARD OF 'edictlaw04.PrintNormal'. -/
def printNormalUptoCard : Claim7 := { stood := { row := printNormalUptoRow, standIns := [], harness := (true, "ce13809d7044da8807a94eb0a9d93a5ff4686e7eb62cc25cb1204c453df7adee"), looks := true }, kinds := [], alts := [], laidByText := true, laidKinds := [.data, .data, .data, .sentinel, .sentinel, .data], laidTests := true, laidLooks := .later }
def PrintNormalUptoCardSaid : Prop := Claim7.holds Tryz.pinned (.plain (OpenSpec.upto printNormalSpec)) printNormalUptoCard

/-- THE SECOND FORM's CARD OF 'edictlaw04.PrintAsked'. -/
def printAskedUptoCard : Claim7 := { stood := { row := printAskedUptoRow, standIns := [], harness := (true, "ce13809d7044da8807a94eb0a9d93a5ff4686e7eb62cc25cb1204c453df7adee"), looks := true }, kinds := [], alts := [], laidByText := true, laidKinds := [.data, .data, .data, .sentinel, .sentinel, .data], laidTests := true, laidLooks := .later }
def PrintAskedUptoCardSaid : Prop := Claim7.holds Tryz.pinned (.plain (OpenSpec.upto printAskedSpec)) printAskedUptoCard

/-- THE SECOND FORM's CARD OF 'edictlaw04.PrintBack'. -/
def printBackUptoCard : Claim7 := { stood := { row := printBackUptoRow, standIns := [], harness := (true, "ce13809d7044da8807a94eb0a9d93a5ff4686e7eb62cc25cb1204c453df7adee"), looks := true }, kinds := [], alts := [], laidByText := true, laidKinds := [.data, .data, .data, .sentinel, .sentinel, .data], laidTests := true, laidLooks := .later }
def PrintBackUptoCardSaid : Prop := Claim7.holds Tryz.pinned (.plain (OpenSpec.upto printBackSpec)) printBackUptoCard
end Rows
end Go.Proofs.YtchhophblejmeaaGreatDoor
