/-
  DERIVED. GIVEN WITH THE SEED: THE CARDS: each row of YtjofiibfgfdleaaDoorRows.lean that lists a variable, with what it lists TIED to the program's text (the seventh form; the later family's looks); each row that meets fmt, with fmt's text TOLD by the authors' own Lean function (tested against real Go, not proved from fmt's source: count such statements apart). THE CARD IS WHAT COUNTS. Prove the row's statement (the work); the ties are given (YtjofiibfgfdleaaDoorTie.lean); close each card by the builder's one call (the guide's Derived/Test/ToyasCard.lean, 'card_holds'). Laid BY PROGRAM, IN A SANDBOX (cutbox-door.mjs). By AI agents, Wed Nov 11 2026. No macro, syntax, notation, axiom, sorry.
-/
import Derived.Test.YtjofiibfgfdleaaDoorRows
import GoSem.ClaimSeven
namespace Go.Proofs.YtjofiibfgfdleaaDoor
namespace Rows

/-- THE TIED CARD OF 'edictlaw03.ParseBehind'. -/
def parseBehindCard : Claim7 := { stood := { row := parseBehindRow, standIns := [], harness := (true, "448ed5c40ae6aa105e868072ed396b887aeff5dd70bb7be991bae30d94d78169"), looks := true }, kinds := [], alts := [], laidByText := true, laidKinds := [.data, .data, .data, .sentinel, .sentinel, .data], laidTests := true, laidLooks := .later }
def ParseBehindCardSaid : Prop := Claim7.holds Tryd.pinned (.plain (OpenSpec.ofChange parseBehindSpec)) parseBehindCard

/-- THE TIED CARD OF 'edictlaw03.ParseStops'. -/
def parseStopsCard : Claim7 := { stood := { row := parseStopsRow, standIns := [], harness := (true, "448ed5c40ae6aa105e868072ed396b887aeff5dd70bb7be991bae30d94d78169"), looks := true }, kinds := [], alts := [], laidByText := true, laidKinds := [.data, .data, .data, .sentinel, .sentinel, .data], laidTests := true, laidLooks := .later }
def ParseStopsCardSaid : Prop := Claim7.holds Tryd.pinned (.plain (OpenSpec.ofChange parseStopsSpec)) parseStopsCard

/-- THE TIED CARD OF 'edictlaw03.ParseLimits'. -/
def parseLimitsCard : Claim7 := { stood := { row := parseLimitsRow, standIns := [], harness := (true, "448ed5c40ae6aa105e868072ed396b887aeff5dd70bb7be991bae30d94d78169"), looks := true }, kinds := [], alts := [], laidByText := true, laidKinds := [.data, .data, .data, .sentinel, .sentinel, .data], laidTests := true, laidLooks := .later }
def ParseLimitsCardSaid : Prop := Claim7.holds Tryd.pinned (.plain (OpenSpec.ofChange parseLimitsSpec)) parseLimitsCard

/-- THE TIED CARD OF 'edictlaw03.ParseSpells'. -/
def parseSpellsCard : Claim7 := { stood := { row := parseSpellsRow, standIns := [], harness := (true, "448ed5c40ae6aa105e868072ed396b887aeff5dd70bb7be991bae30d94d78169"), looks := true }, kinds := [], alts := [], laidByText := true, laidKinds := [.data, .data, .data, .sentinel, .sentinel, .data], laidTests := true, laidLooks := .later }
def ParseSpellsCardSaid : Prop := Claim7.holds Tryd.pinned (.plain (OpenSpec.ofChange parseSpellsSpec)) parseSpellsCard

/-- THE TIED CARD OF 'edictlaw03.ParseJoins'. -/
def parseJoinsCard : Claim7 := { stood := { row := parseJoinsRow, standIns := [], harness := (true, "448ed5c40ae6aa105e868072ed396b887aeff5dd70bb7be991bae30d94d78169"), looks := true }, kinds := [], alts := [], laidByText := true, laidKinds := [.data, .data, .data, .sentinel, .sentinel, .data], laidTests := true, laidLooks := .later }
def ParseJoinsCardSaid : Prop := Claim7.holds Tryd.pinned (.plain (OpenSpec.ofChange parseJoinsSpec)) parseJoinsCard

/-- THE TIED CARD OF 'edictlaw03.ParseSpellsFacts'. -/
def parseSpellsFactsCard : Claim7 := { stood := { row := parseSpellsFactsRow, standIns := [], harness := (true, "448ed5c40ae6aa105e868072ed396b887aeff5dd70bb7be991bae30d94d78169"), looks := true }, kinds := [], alts := [], laidByText := true, laidKinds := [.data, .data, .data, .sentinel, .sentinel, .data], laidTests := true, laidLooks := .later }
def ParseSpellsFactsCardSaid : Prop := Claim7.holds Tryd.pinned (.plain (OpenSpec.ofChange parseSpellsFactsSpec)) parseSpellsFactsCard

/-- THE SECOND FORM's CARD OF 'edictlaw03.ParseBehind'. -/
def parseBehindUptoCard : Claim7 := { stood := { row := parseBehindUptoRow, standIns := [], harness := (true, "448ed5c40ae6aa105e868072ed396b887aeff5dd70bb7be991bae30d94d78169"), looks := true }, kinds := [], alts := [], laidByText := true, laidKinds := [.data, .data, .data, .sentinel, .sentinel, .data], laidTests := true, laidLooks := .later }
def ParseBehindUptoCardSaid : Prop := Claim7.holds Tryd.pinned (.plain (OpenSpec.upto parseBehindSpec)) parseBehindUptoCard

/-- THE SECOND FORM's CARD OF 'edictlaw03.ParseStops'. -/
def parseStopsUptoCard : Claim7 := { stood := { row := parseStopsUptoRow, standIns := [], harness := (true, "448ed5c40ae6aa105e868072ed396b887aeff5dd70bb7be991bae30d94d78169"), looks := true }, kinds := [], alts := [], laidByText := true, laidKinds := [.data, .data, .data, .sentinel, .sentinel, .data], laidTests := true, laidLooks := .later }
def ParseStopsUptoCardSaid : Prop := Claim7.holds Tryd.pinned (.plain (OpenSpec.upto parseStopsSpec)) parseStopsUptoCard

/-- THE SECOND FORM's CARD OF 'edictlaw03.ParseLimits'. -/
def parseLimitsUptoCard : Claim7 := { stood := { row := parseLimitsUptoRow, standIns := [], harness := (true, "448ed5c40ae6aa105e868072ed396b887aeff5dd70bb7be991bae30d94d78169"), looks := true }, kinds := [], alts := [], laidByText := true, laidKinds := [.data, .data, .data, .sentinel, .sentinel, .data], laidTests := true, laidLooks := .later }
def ParseLimitsUptoCardSaid : Prop := Claim7.holds Tryd.pinned (.plain (OpenSpec.upto parseLimitsSpec)) parseLimitsUptoCard

/-- THE SECOND FORM's CARD OF 'edictlaw03.ParseSpells'. -/
def parseSpellsUptoCard : Claim7 := { stood := { row := parseSpellsUptoRow, standIns := [], harness := (true, "448ed5c40ae6aa105e868072ed396b887aeff5dd70bb7be991bae30d94d78169"), looks := true }, kinds := [], alts := [], laidByText := true, laidKinds := [.data, .data, .data, .sentinel, .sentinel, .data], laidTests := true, laidLooks := .later }
def ParseSpellsUptoCardSaid : Prop := Claim7.holds Tryd.pinned (.plain (OpenSpec.upto parseSpellsSpec)) parseSpellsUptoCard

/-- THE SECOND FORM's CARD OF 'edictlaw03.ParseJoins'. -/
def parseJoinsUptoCard : Claim7 := { stood := { row := parseJoinsUptoRow, standIns := [], harness := (true, "448ed5c40ae6aa105e868072ed396b887aeff5dd70bb7be991bae30d94d78169"), looks := true }, kinds := [], alts := [], laidByText := true, laidKinds := [.data, .data, .data, .sentinel, .sentinel, .data], laidTests := true, laidLooks := .later }
def ParseJoinsUptoCardSaid : Prop := Claim7.holds Tryd.pinned (.plain (OpenSpec.upto parseJoinsSpec)) parseJoinsUptoCard

/-- THE SECOND FORM's CARD OF 'edictlaw03.ParseSpellsFacts'. -/
def parseSpellsFactsUptoCard : Claim7 := { stood := { row := parseSpellsFactsUptoRow, standIns := [], harness := (true, "448ed5c40ae6aa105e868072ed396b887aeff5dd70bb7be991bae30d94d78169"), looks := true }, kinds := [], alts := [], laidByText := true, laidKinds := [.data, .data, .data, .sentinel, .sentinel, .data], laidTests := true, laidLooks := .later }
def ParseSpellsFactsUptoCardSaid : Prop := Claim7.holds Tryd.pinned (.plain (OpenSpec.upto parseSpellsFactsSpec)) parseSpellsFactsUptoCard
end Rows
end Go.Proofs.YtjofiibfgfdleaaDoor
