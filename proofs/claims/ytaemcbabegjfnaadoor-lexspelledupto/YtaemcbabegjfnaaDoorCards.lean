/-
  DERIVED. GIVEN WITH THE SEED: THE CARDS: each row of YtaemcbabegjfnaaDoorRows.lean that lists a variable, with what it lists TIED to the program's text (the seventh form; the later family's looks); each row that meets fmt, with fmt's text TOLD by the authors' own Lean function (tested against real Go, not proved from fmt's source: count such statements apart). THE CARD IS WHAT COUNTS. Prove the row's statement (the work); the ties are given (YtaemcbabegjfnaaDoorTie.lean); close each card by the builder's one call (the guide's Derived/Test/ToyasCard.lean, 'card_holds'). Laid BY PROGRAM, IN A SANDBOX (cutbox-door.mjs). By AI agents, Wed Nov 11 2026. No macro, syntax, notation, axiom, sorry.
-/
import Derived.Test.YtaemcbabegjfnaaDoorRows
import GoSem.ClaimSeven
namespace Go.Proofs.YtaemcbabegjfnaaDoor
namespace Rows

/-- THE TIED CARD OF 'edictlaw02.LexSpelled'. -/
def lexSpelledCard : Claim7 := { stood := { row := lexSpelledRow, standIns := [], harness := (true, "af8281b56df7e496da82e25b79de70c2922e521673d328a450444f1c829952ac"), looks := true }, kinds := [], alts := [], laidByText := true, laidKinds := [.data, .data, .data, .sentinel, .sentinel, .data], laidTests := true, laidLooks := .later }
def LexSpelledCardSaid : Prop := Claim7.holds Tryd.pinned (.plain (OpenSpec.ofChange lexSpelledSpec)) lexSpelledCard

/-- THE SECOND FORM's CARD OF 'edictlaw02.LexSpelled'. -/
def lexSpelledUptoCard : Claim7 := { stood := { row := lexSpelledUptoRow, standIns := [], harness := (true, "af8281b56df7e496da82e25b79de70c2922e521673d328a450444f1c829952ac"), looks := true }, kinds := [], alts := [], laidByText := true, laidKinds := [.data, .data, .data, .sentinel, .sentinel, .data], laidTests := true, laidLooks := .later }
def LexSpelledUptoCardSaid : Prop := Claim7.holds Tryd.pinned (.plain (OpenSpec.upto lexSpelledSpec)) lexSpelledUptoCard
end Rows
end Go.Proofs.YtaemcbabegjfnaaDoor
