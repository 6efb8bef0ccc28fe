/-
  DERIVED. GIVEN WITH THE SEED: THE CARDS: each row of YtfopnijgkhpoiaaDoorRows.lean that lists a variable, with what it lists TIED to the program's text (the seventh form; the later family's looks); each row that meets fmt, with fmt's text TOLD by the authors' own Lean function (tested against real Go, not proved from fmt's source: count such statements apart). THE CARD IS WHAT COUNTS. Prove the row's statement (the work); the ties are given (YtfopnijgkhpoiaaDoorTie.lean); close each card by the builder's one call (the guide's Derived/Test/ToyasCard.lean, 'card_holds'). Laid BY PROGRAM, IN A SANDBOX (cutbox-door.mjs). By AI agents, Wed Nov 11 2026. No macro, syntax, notation, axiom, sorry.
-/
import Derived.Test.YtfopnijgkhpoiaaDoorRows
import GoSem.ClaimSeven
namespace Go.Proofs.YtfopnijgkhpoiaaDoor
namespace Rows

/-- THE TIED CARD OF 'edictlaw18.LintTexts'. -/
def lintTextsCard : Claim7 := { stood := { row := lintTextsRow, standIns := [], harness := (true, "8937ba50baed2e7c08dd5f99ae94022ee5f1b5fb74586b95e33119491535d4fd"), looks := false }, kinds := [], alts := [], laidByText := true, laidKinds := [.data, .data, .data], laidTests := true, laidLooks := .later }
def LintTextsCardSaid : Prop := Claim7.holds Tryd.pinned (.plain (OpenSpec.ofChange lintTextsSpec)) lintTextsCard

/-- THE SECOND FORM's CARD OF 'edictlaw18.LintTexts'. -/
def lintTextsUptoCard : Claim7 := { stood := { row := lintTextsUptoRow, standIns := [], harness := (true, "8937ba50baed2e7c08dd5f99ae94022ee5f1b5fb74586b95e33119491535d4fd"), looks := false }, kinds := [], alts := [], laidByText := true, laidKinds := [.data, .data, .data], laidTests := true, laidLooks := .later }
def LintTextsUptoCardSaid : Prop := Claim7.holds Tryd.pinned (.plain (OpenSpec.upto lintTextsSpec)) lintTextsUptoCard
end Rows
end Go.Proofs.YtfopnijgkhpoiaaDoor
