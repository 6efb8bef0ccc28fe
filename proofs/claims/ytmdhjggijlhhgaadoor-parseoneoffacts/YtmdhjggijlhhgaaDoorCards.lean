/-
  DERIVED. GIVEN WITH THE SEED: THE CARDS: each row of YtmdhjggijlhhgaaDoorRows.lean that lists a variable, with what it lists TIED to the program's text (the seventh form; the later family's looks); each row that meets fmt, with fmt's text TOLD by the authors' own Lean function (tested against real Go, not proved from fmt's source: count such statements apart). THE CARD IS WHAT COUNTS. Prove the row's statement (the work); the ties are given (YtmdhjggijlhhgaaDoorTie.lean); close each card by the builder's one call (the guide's Derived/Test/ToyasCard.lean, 'card_holds'). Laid BY PROGRAM, IN A SANDBOX (cutbox-door.mjs). By AI agents, Wed Nov 11 2026. No macro, syntax, notation, axiom, sorry.
-/
import Derived.Test.YtmdhjggijlhhgaaDoorRows
import GoSem.ClaimSeven
namespace Go.Proofs.YtmdhjggijlhhgaaDoor
namespace Rows

/-- THE TIED CARD OF 'edictlaw03.ParseOneOfFacts'. -/
def parseOneOfFactsCard : Claim7 := { stood := { row := parseOneOfFactsRow, standIns := [], harness := (true, "15dad991c34d6832d1688bca74cffae7839e9713e1c3e6b0e8e0d7ec3d815f95"), looks := true }, kinds := [], alts := [], laidByText := true, laidKinds := [.data, .data, .data, .sentinel, .sentinel, .data], laidTests := true, laidLooks := .later }
def ParseOneOfFactsCardSaid : Prop := Claim7.holds Tryd.pinned (.plain (OpenSpec.ofChange parseOneOfFactsSpec)) parseOneOfFactsCard

/-- THE TIED CARD OF 'edictlaw03.ParseBodies'. -/
def parseBodiesCard : Claim7 := { stood := { row := parseBodiesRow, standIns := [], harness := (true, "15dad991c34d6832d1688bca74cffae7839e9713e1c3e6b0e8e0d7ec3d815f95"), looks := true }, kinds := [], alts := [], laidByText := true, laidKinds := [.data, .data, .data, .sentinel, .sentinel, .data], laidTests := true, laidLooks := .later }
def ParseBodiesCardSaid : Prop := Claim7.holds Tryd.pinned (.plain (OpenSpec.ofChange parseBodiesSpec)) parseBodiesCard

/-- THE SECOND FORM's CARD OF 'edictlaw03.ParseOneOfFacts'. -/
def parseOneOfFactsUptoCard : Claim7 := { stood := { row := parseOneOfFactsUptoRow, standIns := [], harness := (true, "15dad991c34d6832d1688bca74cffae7839e9713e1c3e6b0e8e0d7ec3d815f95"), looks := true }, kinds := [], alts := [], laidByText := true, laidKinds := [.data, .data, .data, .sentinel, .sentinel, .data], laidTests := true, laidLooks := .later }
def ParseOneOfFactsUptoCardSaid : Prop := Claim7.holds Tryd.pinned (.plain (OpenSpec.upto parseOneOfFactsSpec)) parseOneOfFactsUptoCard

/-- THE SECOND FORM's CARD OF 'edictlaw03.ParseBodies'. -/
def parseBodiesUptoCard : Claim7 := { stood := { row := parseBodiesUptoRow, standIns := [], harness := (true, "15dad991c34d6832d1688bca74cffae7839e9713e1c3e6b0e8e0d7ec3d815f95"), looks := true }, kinds := [], alts := [], laidByText := true, laidKinds := [.data, .data, .data, .sentinel, .sentinel, .data], laidTests := true, laidLooks := .later }
def ParseBodiesUptoCardSaid : Prop := Claim7.holds Tryd.pinned (.plain (OpenSpec.upto parseBodiesSpec)) parseBodiesUptoCard
end Rows
end Go.Proofs.YtmdhjggijlhhgaaDoor
