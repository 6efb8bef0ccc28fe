/-
  No cell of these rows narrows 'for every input' (looked for: loops, veiled, ifaces, maps, wideKeys, modest, calm, conditions, laid).
  DERIVED. THE GIVEN ROWS OF THIS SEAT. 4 by the template 'for every input the law returns true; each argument reads behind the call as it read before'; 0 by the template 'total and deterministic' (their statements: YtihkhnljjegopaaTotals.lean).
  GIVEN WITH THE SEED: the statements are not yours to turn. If you find one false, say at which input.
  Laid BY PROGRAM, IN A SANDBOX (cutbox-rows.mjs): the forced cells as the released guide's own fill.sh prints them over the translation e6c5d376b90a244e… (all of the seat's roots in one cut). By AI agents, Wed Nov 11 2026. No macro, syntax, notation, axiom, sorry.
-/
import Derived.Test.YtihkhnljjegopaaChecked
import GoSem.Claim
import GoSem.ClaimJoined
import GoSem.ClaimMapViews
import Derived.JoinedTies
import Derived.KernelRfl
namespace Go.Proofs.Ytihkhnljjegopaa
/- THE CELL 'sum', in the pinned program and in every row, IS THE sha256 OF THE DUMP (.gsa) THAT YtihkhnljjegopaaProg.lean LOADS. Nothing in Lean hashes anything: it is a label: what it is worth is what the hold of that sum in a sandbox is worth. -/
noncomputable def Try.pinned : Pinned := { name := "ytihkhnljjegopaa", sum := "e6c5d376b90a244e48770884fc2e74681f445cebfde9549e743feb6ffc8f72d0", checked := Try.checked }
namespace Rows
def none {H : Type} : Left H := { results := [], args := [] }

/-- 'edictlaw09.BoundSplits': WHATEVER THE INPUT: true; the input reads as it did. -/
def boundSplitsSpec : ChangeSpec := { name := "boundSplits", fn := fun _ => fun
  | [d] => { results := [.lit (.bool true)], args := [d] }
  | _ => none }
def boundSplitsRow : OpenClaim := { program := "ytihkhnljjegopaa", sum := "e6c5d376b90a244e48770884fc2e74681f445cebfde9549e743feb6ffc8f72d0", func := "edict/edictlaw09.BoundSplits", spec := "boundSplits", inPlace := ["math/bits.Add64"], apart := false }
def BoundSplitsSaid : Prop := boundSplitsRow.holds Try.pinned (OpenSpec.ofChange boundSplitsSpec)

/-- ITS FALSE NEIGHBOUR: 'it returns false'. Refute it at one input. -/
def boundSplitsWrong : ChangeSpec := { name := "boundSplits", fn := fun _ => fun
  | [d] => { results := [.lit (.bool false)], args := [d] }
  | _ => none }
def BoundSplitsWrongFalsely : Prop := boundSplitsRow.holds Try.pinned (OpenSpec.ofChange boundSplitsWrong)

/-- 'edictlaw09.BoundCounts': WHATEVER THE INPUT: true; the input reads as it did. -/
def boundCountsSpec : ChangeSpec := { name := "boundCounts", fn := fun _ => fun
  | [d1, d2] => { results := [.lit (.bool true)], args := [d1, d2] }
  | _ => none }
def boundCountsRow : OpenClaim := { program := "ytihkhnljjegopaa", sum := "e6c5d376b90a244e48770884fc2e74681f445cebfde9549e743feb6ffc8f72d0", func := "edict/edictlaw09.BoundCounts", spec := "boundCounts", inPlace := ["math/bits.Add64"], apart := false }
def BoundCountsSaid : Prop := boundCountsRow.holds Try.pinned (OpenSpec.ofChange boundCountsSpec)

/-- ITS FALSE NEIGHBOUR: 'it returns false'. Refute it at one input. -/
def boundCountsWrong : ChangeSpec := { name := "boundCounts", fn := fun _ => fun
  | [d1, d2] => { results := [.lit (.bool false)], args := [d1, d2] }
  | _ => none }
def BoundCountsWrongFalsely : Prop := boundCountsRow.holds Try.pinned (OpenSpec.ofChange boundCountsWrong)

/-- 'edictlaw09.BoundFirings': WHATEVER THE INPUT: true; the input reads as it did. -/
def boundFiringsSpec : ChangeSpec := { name := "boundFirings", fn := fun _ => fun
  | [d1, d2] => { results := [.lit (.bool true)], args := [d1, d2] }
  | _ => none }
def boundFiringsRow : OpenClaim := { program := "ytihkhnljjegopaa", sum := "e6c5d376b90a244e48770884fc2e74681f445cebfde9549e743feb6ffc8f72d0", func := "edict/edictlaw09.BoundFirings", spec := "boundFirings", inPlace := ["math/bits.Add64"], apart := false }
def BoundFiringsSaid : Prop := boundFiringsRow.holds Try.pinned (OpenSpec.ofChange boundFiringsSpec)

/-- ITS FALSE NEIGHBOUR: 'it returns false'. Refute it at one input. -/
def boundFiringsWrong : ChangeSpec := { name := "boundFirings", fn := fun _ => fun
  | [d1, d2] => { results := [.lit (.bool false)], args := [d1, d2] }
  | _ => none }
def BoundFiringsWrongFalsely : Prop := boundFiringsRow.holds Try.pinned (OpenSpec.ofChange boundFiringsWrong)

/-- 'edictlaw09.BoundTokens': WHATEVER THE INPUT: true; the input reads as it did. -/
def boundTokensSpec : ChangeSpec := { name := "boundTokens", fn := fun _ => fun
  | [d1, d2] => { results := [.lit (.bool true)], args := [d1, d2] }
  | _ => none }
def boundTokensRow : OpenClaim := { program := "ytihkhnljjegopaa", sum := "e6c5d376b90a244e48770884fc2e74681f445cebfde9549e743feb6ffc8f72d0", func := "edict/edictlaw09.BoundTokens", spec := "boundTokens", inPlace := ["math/bits.Add64"], apart := false }
def BoundTokensSaid : Prop := boundTokensRow.holds Try.pinned (OpenSpec.ofChange boundTokensSpec)

/-- ITS FALSE NEIGHBOUR: 'it returns false'. Refute it at one input. -/
def boundTokensWrong : ChangeSpec := { name := "boundTokens", fn := fun _ => fun
  | [d1, d2] => { results := [.lit (.bool false)], args := [d1, d2] }
  | _ => none }
def BoundTokensWrongFalsely : Prop := boundTokensRow.holds Try.pinned (OpenSpec.ofChange boundTokensWrong)

/- THE SECOND FORM. 'bulk': how many values and letters a reading holds, each counted each time it is reached (what is shared counts as often as it is met; a slice's spare places count too). A statement '..UptoSaid' is the law's where the arguments, and the package variables that the reading takes, are together of bulk at most 1048576: NARROWER than '..Said'. Prove '..Said' where nothing that the law and all that it calls make is longer than what came in: it says more and counts as full. Else prove '..UptoSaid'. A law counts once. -/
mutual
def uptoBulk {H : Type} : DataW H → Nat
  | .lit (.string bytes) => bytes.length + 1
  | .lit _ => 1
  | .nil => 1
  | .ptr d => uptoBulk d + 1
  | .slice elems spare => uptoBulkAll elems + uptoBulkAll spare + 1
  | .agg parts => uptoBulkAll parts + 1
  | .iface _ d => uptoBulk d + 1
  | .map entries => uptoBulkEntries entries + 1
  | .held _ => 1
def uptoBulkAll {H : Type} : List (DataW H) → Nat
  | [] => 0
  | d :: r => uptoBulk d + uptoBulkAll r
def uptoBulkEntries {H : Type} : List (Lit × DataW H) → Nat
  | [] => 0
  | x :: r => uptoBulkEntry x + uptoBulkEntries r
def uptoBulkEntry {H : Type} : Lit × DataW H → Nat
  | (.string bytes, d) => bytes.length + uptoBulk d + 1
  | (_, d) => uptoBulk d + 1
 end
def uptoSmall : (H : Type) → List (DataW H) → Bool := fun _ ds => decide (uptoBulkAll ds ≤ 1048576)
def OpenSpec.upto (s : _root_.Go.ChangeSpec) : _root_.Go.OpenSpec := { _root_.Go.OpenSpec.ofChange s with cond := some uptoSmall }

/-- 'edictlaw09.BoundSplits', WHERE WHAT IT READS IS OF BULK AT MOST 1048576: true; the input reads as it did. -/
def boundSplitsUptoRow : OpenClaim := { program := "ytihkhnljjegopaa", sum := "e6c5d376b90a244e48770884fc2e74681f445cebfde9549e743feb6ffc8f72d0", func := "edict/edictlaw09.BoundSplits", spec := "boundSplits", inPlace := ["math/bits.Add64"], apart := false, narrowed := true }
def BoundSplitsUptoSaid : Prop := boundSplitsUptoRow.holds Try.pinned (OpenSpec.upto boundSplitsSpec)

/-- 'edictlaw09.BoundCounts', WHERE WHAT IT READS IS OF BULK AT MOST 1048576: true; the input reads as it did. -/
def boundCountsUptoRow : OpenClaim := { program := "ytihkhnljjegopaa", sum := "e6c5d376b90a244e48770884fc2e74681f445cebfde9549e743feb6ffc8f72d0", func := "edict/edictlaw09.BoundCounts", spec := "boundCounts", inPlace := ["math/bits.Add64"], apart := false, narrowed := true }
def BoundCountsUptoSaid : Prop := boundCountsUptoRow.holds Try.pinned (OpenSpec.upto boundCountsSpec)

/-- 'edictlaw09.BoundFirings', WHERE WHAT IT READS IS OF BULK AT MOST 1048576: true; the input reads as it did. -/
def boundFiringsUptoRow : OpenClaim := { program := "ytihkhnljjegopaa", sum := "e6c5d376b90a244e48770884fc2e74681f445cebfde9549e743feb6ffc8f72d0", func := "edict/edictlaw09.BoundFirings", spec := "boundFirings", inPlace := ["math/bits.Add64"], apart := false, narrowed := true }
def BoundFiringsUptoSaid : Prop := boundFiringsUptoRow.holds Try.pinned (OpenSpec.upto boundFiringsSpec)

/-- 'edictlaw09.BoundTokens', WHERE WHAT IT READS IS OF BULK AT MOST 1048576: true; the input reads as it did. -/
def boundTokensUptoRow : OpenClaim := { program := "ytihkhnljjegopaa", sum := "e6c5d376b90a244e48770884fc2e74681f445cebfde9549e743feb6ffc8f72d0", func := "edict/edictlaw09.BoundTokens", spec := "boundTokens", inPlace := ["math/bits.Add64"], apart := false, narrowed := true }
def BoundTokensUptoSaid : Prop := boundTokensUptoRow.holds Try.pinned (OpenSpec.upto boundTokensSpec)

end Rows
end Go.Proofs.Ytihkhnljjegopaa
