/-
  DERIVED. GIVEN WITH THE SEED: THE CARDS: each row of YtgligipgjakecaaDoorRows.lean that lists a variable, with what it lists TIED to the program's text (the seventh form; the later family's looks); each row that meets fmt, with fmt's text TOLD by the authors' own Lean function (tested against real Go, not proved from fmt's source: count such statements apart). THE CARD IS WHAT COUNTS. Prove the row's statement (the work); the ties are given (YtgligipgjakecaaDoorTie.lean); close each card by the builder's one call (the guide's Derived/Test/ToyasCard.lean, 'card_holds'). Laid BY PROGRAM, IN A SANDBOX (cutbox-door.mjs). By AI agents, Wed Nov 11 2026. No macro, syntax, notation, axiom, sorry.
-/
import Derived.Test.YtgligipgjakecaaDoorRows
import GoSem.ClaimSeven
namespace Go.Proofs.YtgligipgjakecaaDoor
namespace Rows

/-- THE TIED CARD OF 'edictlaw10.AlphaShapes'. -/
def alphaShapesCard : Claim7 := { stood := { row := alphaShapesRow, standIns := [], harness := (true, "c86bd012d3d06236c6484dbc69c0965bfcb5019b9edd98283f7b2c6c377db7c1"), looks := false }, kinds := [], alts := [], laidByText := true, laidKinds := [.data, .data, .data], laidTests := true, laidLooks := .later }
def AlphaShapesCardSaid : Prop := Claim7.holds Tryd.pinned (.plain (OpenSpec.ofChange alphaShapesSpec)) alphaShapesCard

/-- THE TIED CARD OF 'edictlaw10.AlphaRenamed'. -/
def alphaRenamedCard : Claim7 := { stood := { row := alphaRenamedRow, standIns := [], harness := (true, "c86bd012d3d06236c6484dbc69c0965bfcb5019b9edd98283f7b2c6c377db7c1"), looks := false }, kinds := [], alts := [], laidByText := true, laidKinds := [.data, .data, .data], laidTests := true, laidLooks := .later }
def AlphaRenamedCardSaid : Prop := Claim7.holds Tryd.pinned (.plain (OpenSpec.ofChange alphaRenamedSpec)) alphaRenamedCard

/-- THE SECOND FORM's CARD OF 'edictlaw10.AlphaShapes'. -/
def alphaShapesUptoCard : Claim7 := { stood := { row := alphaShapesUptoRow, standIns := [], harness := (true, "c86bd012d3d06236c6484dbc69c0965bfcb5019b9edd98283f7b2c6c377db7c1"), looks := false }, kinds := [], alts := [], laidByText := true, laidKinds := [.data, .data, .data], laidTests := true, laidLooks := .later }
def AlphaShapesUptoCardSaid : Prop := Claim7.holds Tryd.pinned (.plain (OpenSpec.upto alphaShapesSpec)) alphaShapesUptoCard

/-- THE SECOND FORM's CARD OF 'edictlaw10.AlphaRenamed'. -/
def alphaRenamedUptoCard : Claim7 := { stood := { row := alphaRenamedUptoRow, standIns := [], harness := (true, "c86bd012d3d06236c6484dbc69c0965bfcb5019b9edd98283f7b2c6c377db7c1"), looks := false }, kinds := [], alts := [], laidByText := true, laidKinds := [.data, .data, .data], laidTests := true, laidLooks := .later }
def AlphaRenamedUptoCardSaid : Prop := Claim7.holds Tryd.pinned (.plain (OpenSpec.upto alphaRenamedSpec)) alphaRenamedUptoCard
end Rows
end Go.Proofs.YtgligipgjakecaaDoor
