/-
  DERIVED. GIVEN WITH THE SEED: THE CARDS: each row of YtmdhjggijlhhgaaGreatDoorRows.lean that lists a variable, with what it lists TIED to the program's text (the seventh form; the later family's looks); each row that meets fmt, with fmt's text TOLD by the authors' own Lean function (tested against real Go, not proved from fmt's source: count such statements apart). THE CARD IS WHAT COUNTS. Prove the row's statement (the work); the ties are given (YtmdhjggijlhhgaaGreatDoorTie.lean); close each card by the builder's one call (the guide's Derived/Test/ToyasCard.lean, 'card_holds'). Laid BY PROGRAM, IN A SANDBOX (cutbox-door.mjs). By AI agents, Wed Nov 11 2026. No macro, syntax, notation, axiom, sorry.
-/
import Derived.Test.YtmdhjggijlhhgaaGreatDoorRows
import GoSem.ClaimSeven
namespace Go.Proofs.YtmdhjggijlhhgaaGreatDoor
namespace Rows

/-- THE TIED CARD OF 'edictlaw03.ParseOnes'. -/
def parseOnesCard : Claim7 := { stood := { row := parseOnesRow, standIns := [], harness := (true, "79c5fcce28613ebf1eb7f17fd85fab0829c028e0679718c90d5ce21c46c1438f"), looks := true }, kinds := [], alts := [], laidByText := true, laidKinds := [.data, .data, .data, .sentinel, .sentinel, .data], laidTests := true, laidLooks := .later }
def ParseOnesCardSaid : Prop := Claim7.holds Tryz.pinned (.plain (OpenSpec.ofChange parseOnesSpec)) parseOnesCard

/-- THE TIED CARD OF 'edictlaw03.ParseFacts'. -/
def parseFactsCard : Claim7 := { stood := { row := parseFactsRow, standIns := [], harness := (true, "79c5fcce28613ebf1eb7f17fd85fab0829c028e0679718c90d5ce21c46c1438f"), looks := true }, kinds := [], alts := [], laidByText := true, laidKinds := [.data, .data, .data, .sentinel, .sentinel, .data], laidTests := true, laidLooks := .later }
def ParseFactsCardSaid : Prop := Claim7.holds Tryz.pinned (.plain (OpenSpec.ofChange parseFactsSpec)) parseFactsCard

/-- THE TIED CARD OF 'edictlaw03.ParseQueries'. -/
def parseQueriesCard : Claim7 := { stood := { row := parseQueriesRow, standIns := [], harness := (true, "79c5fcce28613ebf1eb7f17fd85fab0829c028e0679718c90d5ce21c46c1438f"), looks := true }, kinds := [], alts := [], laidByText := true, laidKinds := [.data, .data, .data, .sentinel, .sentinel, .data], laidTests := true, laidLooks := .later }
def ParseQueriesCardSaid : Prop := Claim7.holds Tryz.pinned (.plain (OpenSpec.ofChange parseQueriesSpec)) parseQueriesCard

/-- THE TIED CARD OF 'edictlaw03.ParsePrograms'. -/
def parseProgramsCard : Claim7 := { stood := { row := parseProgramsRow, standIns := [], harness := (true, "79c5fcce28613ebf1eb7f17fd85fab0829c028e0679718c90d5ce21c46c1438f"), looks := true }, kinds := [], alts := [], laidByText := true, laidKinds := [.data, .data, .data, .sentinel, .sentinel, .data], laidTests := true, laidLooks := .later }
def ParseProgramsCardSaid : Prop := Claim7.holds Tryz.pinned (.plain (OpenSpec.ofChange parseProgramsSpec)) parseProgramsCard

/-- THE SECOND FORM's CARD OF 'edictlaw03.ParseOnes'. -/
def parseOnesUptoCard : Claim7 := { stood := { row := parseOnesUptoRow, standIns := [], harness := (true, "79c5fcce28613ebf1eb7f17fd85fab0829c028e0679718c90d5ce21c46c1438f"), looks := true }, kinds := [], alts := [], laidByText := true, laidKinds := [.data, .data, .data, .sentinel, .sentinel, .data], laidTests := true, laidLooks := .later }
def ParseOnesUptoCardSaid : Prop := Claim7.holds Tryz.pinned (.plain (OpenSpec.upto parseOnesSpec)) parseOnesUptoCard

/-- THE SECOND FORM's CARD OF 'edictlaw03.ParseFacts'. -/
def parseFactsUptoCard : Claim7 := { stood := { row := parseFactsUptoRow, standIns := [], harness := (true, "79c5fcce28613ebf1eb7f17fd85fab0829c028e0679718c90d5ce21c46c1438f"), looks := true }, kinds := [], alts := [], laidByText := true, laidKinds := [.data, .data, .data, .sentinel, .sentinel, .data], laidTests := true, laidLooks := .later }
def ParseFactsUptoCardSaid : Prop := Claim7.holds Tryz.pinned (.plain (OpenSpec.upto parseFactsSpec)) parseFactsUptoCard

/-- THE SECOND FORM's CARD OF 'edictlaw03.ParseQueries'. -/
def parseQueriesUptoCard : Claim7 := { stood := { row := parseQueriesUptoRow, standIns := [], harness := (true, "79c5fcce28613ebf1eb7f17fd85fab0829c028e0679718c90d5ce21c46c1438f"), looks := true }, kinds := [], alts := [], laidByText := true, laidKinds := [.data, .data, .data, .sentinel, .sentinel, .data], laidTests := true, laidLooks := .later }
def ParseQueriesUptoCardSaid : Prop := Claim7.holds Tryz.pinned (.plain (OpenSpec.upto parseQueriesSpec)) parseQueriesUptoCard

/-- THE SECOND FORM's CARD OF 'edictlaw03.ParsePrograms'. -/
def parseProgramsUptoCard : Claim7 := { stood := { row := parseProgramsUptoRow, standIns := [], harness := (true, "79c5fcce28613ebf1eb7f17fd85fab0829c028e0679718c90d5ce21c46c1438f"), looks := true }, kinds := [], alts := [], laidByText := true, laidKinds := [.data, .data, .data, .sentinel, .sentinel, .data], laidTests := true, laidLooks := .later }
def ParseProgramsUptoCardSaid : Prop := Claim7.holds Tryz.pinned (.plain (OpenSpec.upto parseProgramsSpec)) parseProgramsUptoCard
end Rows
end Go.Proofs.YtmdhjggijlhhgaaGreatDoor
