/-
  DERIVED. GIVEN WITH THE SEED: THE CARDS: each row of YtnfnihhbgpakkaaDoorRows.lean that lists a variable, with what it lists TIED to the program's text (the seventh form; the later family's looks); each row that meets fmt, with fmt's text TOLD by the authors' own Lean function (tested against real Go, not proved from fmt's source: count such statements apart). THE CARD IS WHAT COUNTS. Prove the row's statement (the work); the ties are given (YtnfnihhbgpakkaaDoorTie.lean); close each card by the builder's one call (the guide's Derived/Test/ToyasCard.lean, 'card_holds'). Laid BY PROGRAM, IN A SANDBOX (cutbox-door.mjs). By AI agents, Wed Nov 11 2026. No macro, syntax, notation, axiom, sorry.
-/
import Derived.Test.YtnfnihhbgpakkaaDoorRows
import GoSem.ClaimSeven
namespace Go.Proofs.YtnfnihhbgpakkaaDoor
namespace Rows

/-- THE TIED CARD OF 'edictlaw03.ParseOneOfFacts'. -/
def parseOneOfFactsCard : Claim7 := { stood := { row := parseOneOfFactsRow, standIns := [], harness := (true, "6b78817fc1346f1da068e3f3b5ec34af8d03dadc0faba1ca8d0e7fd4cfbe02a0"), looks := true }, kinds := [], alts := [], laidByText := true, laidKinds := [.data, .data, .data, .sentinel, .sentinel, .data], laidTests := true, laidLooks := .later }
def ParseOneOfFactsCardSaid : Prop := Claim7.holds Tryd.pinned (.plain (OpenSpec.ofChange parseOneOfFactsSpec)) parseOneOfFactsCard

/-- THE TIED CARD OF 'edictlaw03.ParseGround'. -/
def parseGroundCard : Claim7 := { stood := { row := parseGroundRow, standIns := [], harness := (true, "6b78817fc1346f1da068e3f3b5ec34af8d03dadc0faba1ca8d0e7fd4cfbe02a0"), looks := true }, kinds := [], alts := [], laidByText := true, laidKinds := [.data, .data, .data, .sentinel, .sentinel, .data], laidTests := true, laidLooks := .later }
def ParseGroundCardSaid : Prop := Claim7.holds Tryd.pinned (.plain (OpenSpec.ofChange parseGroundSpec)) parseGroundCard

/-- THE TIED CARD OF 'edictlaw03.ParseBodies'. -/
def parseBodiesCard : Claim7 := { stood := { row := parseBodiesRow, standIns := [], harness := (true, "6b78817fc1346f1da068e3f3b5ec34af8d03dadc0faba1ca8d0e7fd4cfbe02a0"), looks := true }, kinds := [], alts := [], laidByText := true, laidKinds := [.data, .data, .data, .sentinel, .sentinel, .data], laidTests := true, laidLooks := .later }
def ParseBodiesCardSaid : Prop := Claim7.holds Tryd.pinned (.plain (OpenSpec.ofChange parseBodiesSpec)) parseBodiesCard

/-- THE TIED CARD OF 'edictlaw03.ParseLong'. -/
def parseLongCard : Claim7 := { stood := { row := parseLongRow, standIns := [], harness := (true, "6b78817fc1346f1da068e3f3b5ec34af8d03dadc0faba1ca8d0e7fd4cfbe02a0"), looks := true }, kinds := [], alts := [], laidByText := true, laidKinds := [.data, .data, .data, .sentinel, .sentinel, .data], laidTests := true, laidLooks := .later }
def ParseLongCardSaid : Prop := Claim7.holds Tryd.pinned (.plain (OpenSpec.ofChange parseLongSpec)) parseLongCard

/-- THE SECOND FORM's CARD OF 'edictlaw03.ParseOneOfFacts'. -/
def parseOneOfFactsUptoCard : Claim7 := { stood := { row := parseOneOfFactsUptoRow, standIns := [], harness := (true, "6b78817fc1346f1da068e3f3b5ec34af8d03dadc0faba1ca8d0e7fd4cfbe02a0"), looks := true }, kinds := [], alts := [], laidByText := true, laidKinds := [.data, .data, .data, .sentinel, .sentinel, .data], laidTests := true, laidLooks := .later }
def ParseOneOfFactsUptoCardSaid : Prop := Claim7.holds Tryd.pinned (.plain (OpenSpec.upto parseOneOfFactsSpec)) parseOneOfFactsUptoCard

/-- THE SECOND FORM's CARD OF 'edictlaw03.ParseGround'. -/
def parseGroundUptoCard : Claim7 := { stood := { row := parseGroundUptoRow, standIns := [], harness := (true, "6b78817fc1346f1da068e3f3b5ec34af8d03dadc0faba1ca8d0e7fd4cfbe02a0"), looks := true }, kinds := [], alts := [], laidByText := true, laidKinds := [.data, .data, .data, .sentinel, .sentinel, .data], laidTests := true, laidLooks := .later }
def ParseGroundUptoCardSaid : Prop := Claim7.holds Tryd.pinned (.plain (OpenSpec.upto parseGroundSpec)) parseGroundUptoCard

/-- THE SECOND FORM's CARD OF 'edictlaw03.ParseBodies'. -/
def parseBodiesUptoCard : Claim7 := { stood := { row := parseBodiesUptoRow, standIns := [], harness := (true, "6b78817fc1346f1da068e3f3b5ec34af8d03dadc0faba1ca8d0e7fd4cfbe02a0"), looks := true }, kinds := [], alts := [], laidByText := true, laidKinds := [.data, .data, .data, .sentinel, .sentinel, .data], laidTests := true, laidLooks := .later }
def ParseBodiesUptoCardSaid : Prop := Claim7.holds Tryd.pinned (.plain (OpenSpec.upto parseBodiesSpec)) parseBodiesUptoCard

/-- THE SECOND FORM's CARD OF 'edictlaw03.ParseLong'. -/
def parseLongUptoCard : Claim7 := { stood := { row := parseLongUptoRow, standIns := [], harness := (true, "6b78817fc1346f1da068e3f3b5ec34af8d03dadc0faba1ca8d0e7fd4cfbe02a0"), looks := true }, kinds := [], alts := [], laidByText := true, laidKinds := [.data, .data, .data, .sentinel, .sentinel, .data], laidTests := true, laidLooks := .later }
def ParseLongUptoCardSaid : Prop := Claim7.holds Tryd.pinned (.plain (OpenSpec.upto parseLongSpec)) parseLongUptoCard
end Rows
end Go.Proofs.YtnfnihhbgpakkaaDoor
