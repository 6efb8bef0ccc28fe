/-
  DERIVED. GIVEN WITH THE SEED: THE CARDS: each row of YtilckhdaijfddaaDoorRows.lean that lists a variable, with what it lists TIED to the program's text (the seventh form; the later family's looks); each row that meets fmt, with fmt's text TOLD by the authors' own Lean function (tested against real Go, not proved from fmt's source: count such statements apart). THE CARD IS WHAT COUNTS. Prove the row's statement (the work); the ties are given (YtilckhdaijfddaaDoorTie.lean); close each card by the builder's one call (the guide's Derived/Test/ToyasCard.lean, 'card_holds'). Laid BY PROGRAM, IN A SANDBOX (cutbox-door.mjs). By AI agents, Wed Nov 11 2026. No macro, syntax, notation, axiom, sorry.
-/
import Derived.Test.YtilckhdaijfddaaDoorRows
import GoSem.ClaimSeven
namespace Go.Proofs.YtilckhdaijfddaaDoor
namespace Rows

/-- THE TIED CARD OF 'edictlaw03.ParseMakesFacts'. -/
def parseMakesFactsCard : Claim7 := { stood := { row := parseMakesFactsRow, standIns := [], harness := (true, "e1d9c66c6ecb572849416a434f8cfc21cc05fac61ee5470912964715e4fe2157"), looks := true }, kinds := [], alts := [], laidByText := true, laidKinds := [.data, .data, .data, .sentinel, .sentinel, .data], laidTests := true, laidLooks := .later }
def ParseMakesFactsCardSaid : Prop := Claim7.holds Tryd.pinned (.plain (OpenSpec.ofChange parseMakesFactsSpec)) parseMakesFactsCard

/-- THE TIED CARD OF 'edictlaw03.ParseMakes'. -/
def parseMakesCard : Claim7 := { stood := { row := parseMakesRow, standIns := [], harness := (true, "e1d9c66c6ecb572849416a434f8cfc21cc05fac61ee5470912964715e4fe2157"), looks := true }, kinds := [], alts := [], laidByText := true, laidKinds := [.data, .data, .data, .sentinel, .sentinel, .data], laidTests := true, laidLooks := .later }
def ParseMakesCardSaid : Prop := Claim7.holds Tryd.pinned (.plain (OpenSpec.ofChange parseMakesSpec)) parseMakesCard

/-- THE TIED CARD OF 'edictlaw03.ParseMakesQuery'. -/
def parseMakesQueryCard : Claim7 := { stood := { row := parseMakesQueryRow, standIns := [], harness := (true, "e1d9c66c6ecb572849416a434f8cfc21cc05fac61ee5470912964715e4fe2157"), looks := true }, kinds := [], alts := [], laidByText := true, laidKinds := [.data, .data, .data, .sentinel, .sentinel, .data], laidTests := true, laidLooks := .later }
def ParseMakesQueryCardSaid : Prop := Claim7.holds Tryd.pinned (.plain (OpenSpec.ofChange parseMakesQuerySpec)) parseMakesQueryCard

/-- THE SECOND FORM's CARD OF 'edictlaw03.ParseMakesFacts'. -/
def parseMakesFactsUptoCard : Claim7 := { stood := { row := parseMakesFactsUptoRow, standIns := [], harness := (true, "e1d9c66c6ecb572849416a434f8cfc21cc05fac61ee5470912964715e4fe2157"), looks := true }, kinds := [], alts := [], laidByText := true, laidKinds := [.data, .data, .data, .sentinel, .sentinel, .data], laidTests := true, laidLooks := .later }
def ParseMakesFactsUptoCardSaid : Prop := Claim7.holds Tryd.pinned (.plain (OpenSpec.upto parseMakesFactsSpec)) parseMakesFactsUptoCard

/-- THE SECOND FORM's CARD OF 'edictlaw03.ParseMakes'. -/
def parseMakesUptoCard : Claim7 := { stood := { row := parseMakesUptoRow, standIns := [], harness := (true, "e1d9c66c6ecb572849416a434f8cfc21cc05fac61ee5470912964715e4fe2157"), looks := true }, kinds := [], alts := [], laidByText := true, laidKinds := [.data, .data, .data, .sentinel, .sentinel, .data], laidTests := true, laidLooks := .later }
def ParseMakesUptoCardSaid : Prop := Claim7.holds Tryd.pinned (.plain (OpenSpec.upto parseMakesSpec)) parseMakesUptoCard

/-- THE SECOND FORM's CARD OF 'edictlaw03.ParseMakesQuery'. -/
def parseMakesQueryUptoCard : Claim7 := { stood := { row := parseMakesQueryUptoRow, standIns := [], harness := (true, "e1d9c66c6ecb572849416a434f8cfc21cc05fac61ee5470912964715e4fe2157"), looks := true }, kinds := [], alts := [], laidByText := true, laidKinds := [.data, .data, .data, .sentinel, .sentinel, .data], laidTests := true, laidLooks := .later }
def ParseMakesQueryUptoCardSaid : Prop := Claim7.holds Tryd.pinned (.plain (OpenSpec.upto parseMakesQuerySpec)) parseMakesQueryUptoCard
end Rows
end Go.Proofs.YtilckhdaijfddaaDoor
