/-
  No cell of these rows narrows 'for every input' (looked for: loops, veiled, ifaces, maps, wideKeys, modest, calm, conditions, laid).
  DERIVED. THE GIVEN ROWS OF THIS SEAT. 6 by the template 'for every input the law returns true; each argument reads behind the call as it read before'; 0 by the template 'total and deterministic' (their statements: YtiacdadgnofhjaaTotals.lean).
  GIVEN WITH THE SEED: the statements are not yours to turn. If you find one false, say at which input.
  Laid BY PROGRAM, IN A SANDBOX (cutbox-rows.mjs): the forced cells as the released guide's own fill.sh prints them over the translation 3688a06832dcca1e… (all of the seat's roots in one cut). By AI agents, Wed Nov 11 2026. No macro, syntax, notation, axiom, sorry.
-/
import Derived.Test.YtiacdadgnofhjaaChecked
import GoSem.Claim
import GoSem.ClaimJoined
import GoSem.ClaimMapViews
import Derived.JoinedTies
import Derived.KernelRfl
namespace Go.Proofs.Ytiacdadgnofhjaa
/- THE CELL 'sum', in the pinned program and in every row, IS THE sha256 OF THE DUMP (.gsa) THAT YtiacdadgnofhjaaProg.lean LOADS. Nothing in Lean hashes anything: it is a label: what it is worth is what the hold of that sum in a sandbox is worth. -/
noncomputable def Try.pinned : Pinned := { name := "ytiacdadgnofhjaa", sum := "3688a06832dcca1eb383ad33a726fbf9b792a7d6fa5c995aefd98f1514eb27dc", checked := Try.checked }
namespace Rows
def none {H : Type} : Left H := { results := [], args := [] }

/-- 'edictlaw09.BoundAddIs': WHATEVER THE INPUT: true; the input reads as it did. -/
def boundAddIsSpec : ChangeSpec := { name := "boundAddIs", fn := fun _ => fun
  | [d1, d2, d3] => { results := [.lit (.bool true)], args := [d1, d2, d3] }
  | _ => none }
def boundAddIsRow : OpenClaim := { program := "ytiacdadgnofhjaa", sum := "3688a06832dcca1eb383ad33a726fbf9b792a7d6fa5c995aefd98f1514eb27dc", func := "edict/edictlaw09.BoundAddIs", spec := "boundAddIs", inPlace := ["math/bits.Add64"], apart := false }
def BoundAddIsSaid : Prop := boundAddIsRow.holds Try.pinned (OpenSpec.ofChange boundAddIsSpec)

/-- ITS FALSE NEIGHBOUR: 'it returns false'. Refute it at one input. -/
def boundAddIsWrong : ChangeSpec := { name := "boundAddIs", fn := fun _ => fun
  | [d1, d2, d3] => { results := [.lit (.bool false)], args := [d1, d2, d3] }
  | _ => none }
def BoundAddIsWrongFalsely : Prop := boundAddIsRow.holds Try.pinned (OpenSpec.ofChange boundAddIsWrong)

/-- 'edictlaw09.BoundPowIs': WHATEVER THE INPUT: true; the input reads as it did. -/
def boundPowIsSpec : ChangeSpec := { name := "boundPowIs", fn := fun _ => fun
  | [d1, d2, d3] => { results := [.lit (.bool true)], args := [d1, d2, d3] }
  | _ => none }
def boundPowIsRow : OpenClaim := { program := "ytiacdadgnofhjaa", sum := "3688a06832dcca1eb383ad33a726fbf9b792a7d6fa5c995aefd98f1514eb27dc", func := "edict/edictlaw09.BoundPowIs", spec := "boundPowIs", apart := false }
def BoundPowIsSaid : Prop := boundPowIsRow.holds Try.pinned (OpenSpec.ofChange boundPowIsSpec)

/-- ITS FALSE NEIGHBOUR: 'it returns false'. Refute it at one input. -/
def boundPowIsWrong : ChangeSpec := { name := "boundPowIs", fn := fun _ => fun
  | [d1, d2, d3] => { results := [.lit (.bool false)], args := [d1, d2, d3] }
  | _ => none }
def BoundPowIsWrongFalsely : Prop := boundPowIsRow.holds Try.pinned (OpenSpec.ofChange boundPowIsWrong)

/-- 'edictlaw09.BoundMulIs': WHATEVER THE INPUT: true; the input reads as it did. -/
def boundMulIsSpec : ChangeSpec := { name := "boundMulIs", fn := fun _ => fun
  | [d1, d2, d3] => { results := [.lit (.bool true)], args := [d1, d2, d3] }
  | _ => none }
def boundMulIsRow : OpenClaim := { program := "ytiacdadgnofhjaa", sum := "3688a06832dcca1eb383ad33a726fbf9b792a7d6fa5c995aefd98f1514eb27dc", func := "edict/edictlaw09.BoundMulIs", spec := "boundMulIs", inPlace := ["math/bits.Add64"], apart := false }
def BoundMulIsSaid : Prop := boundMulIsRow.holds Try.pinned (OpenSpec.ofChange boundMulIsSpec)

/-- ITS FALSE NEIGHBOUR: 'it returns false'. Refute it at one input. -/
def boundMulIsWrong : ChangeSpec := { name := "boundMulIs", fn := fun _ => fun
  | [d1, d2, d3] => { results := [.lit (.bool false)], args := [d1, d2, d3] }
  | _ => none }
def BoundMulIsWrongFalsely : Prop := boundMulIsRow.holds Try.pinned (OpenSpec.ofChange boundMulIsWrong)

/-- 'edictlaw09.BoundAdds': WHATEVER THE INPUT: true; the input reads as it did. -/
def boundAddsSpec : ChangeSpec := { name := "boundAdds", fn := fun _ => fun
  | [d1, d2] => { results := [.lit (.bool true)], args := [d1, d2] }
  | _ => none }
def boundAddsRow : OpenClaim := { program := "ytiacdadgnofhjaa", sum := "3688a06832dcca1eb383ad33a726fbf9b792a7d6fa5c995aefd98f1514eb27dc", func := "edict/edictlaw09.BoundAdds", spec := "boundAdds", inPlace := ["math/bits.Add64"], apart := false }
def BoundAddsSaid : Prop := boundAddsRow.holds Try.pinned (OpenSpec.ofChange boundAddsSpec)

/-- ITS FALSE NEIGHBOUR: 'it returns false'. Refute it at one input. -/
def boundAddsWrong : ChangeSpec := { name := "boundAdds", fn := fun _ => fun
  | [d1, d2] => { results := [.lit (.bool false)], args := [d1, d2] }
  | _ => none }
def BoundAddsWrongFalsely : Prop := boundAddsRow.holds Try.pinned (OpenSpec.ofChange boundAddsWrong)

/-- 'edictlaw09.BoundMuls': WHATEVER THE INPUT: true; the input reads as it did. -/
def boundMulsSpec : ChangeSpec := { name := "boundMuls", fn := fun _ => fun
  | [d1, d2] => { results := [.lit (.bool true)], args := [d1, d2] }
  | _ => none }
def boundMulsRow : OpenClaim := { program := "ytiacdadgnofhjaa", sum := "3688a06832dcca1eb383ad33a726fbf9b792a7d6fa5c995aefd98f1514eb27dc", func := "edict/edictlaw09.BoundMuls", spec := "boundMuls", apart := false }
def BoundMulsSaid : Prop := boundMulsRow.holds Try.pinned (OpenSpec.ofChange boundMulsSpec)

/-- ITS FALSE NEIGHBOUR: 'it returns false'. Refute it at one input. -/
def boundMulsWrong : ChangeSpec := { name := "boundMuls", fn := fun _ => fun
  | [d1, d2] => { results := [.lit (.bool false)], args := [d1, d2] }
  | _ => none }
def BoundMulsWrongFalsely : Prop := boundMulsRow.holds Try.pinned (OpenSpec.ofChange boundMulsWrong)

/-- 'edictlaw09.BoundPows': WHATEVER THE INPUT: true; the input reads as it did. -/
def boundPowsSpec : ChangeSpec := { name := "boundPows", fn := fun _ => fun
  | [d1, d2] => { results := [.lit (.bool true)], args := [d1, d2] }
  | _ => none }
def boundPowsRow : OpenClaim := { program := "ytiacdadgnofhjaa", sum := "3688a06832dcca1eb383ad33a726fbf9b792a7d6fa5c995aefd98f1514eb27dc", func := "edict/edictlaw09.BoundPows", spec := "boundPows", apart := false }
def BoundPowsSaid : Prop := boundPowsRow.holds Try.pinned (OpenSpec.ofChange boundPowsSpec)

/-- ITS FALSE NEIGHBOUR: 'it returns false'. Refute it at one input. -/
def boundPowsWrong : ChangeSpec := { name := "boundPows", fn := fun _ => fun
  | [d1, d2] => { results := [.lit (.bool false)], args := [d1, d2] }
  | _ => none }
def BoundPowsWrongFalsely : Prop := boundPowsRow.holds Try.pinned (OpenSpec.ofChange boundPowsWrong)

/- THE SECOND FORM. 'bulk': how many values and letters a reading holds, each counted each time it is reached (what is shared counts as often as it is met; a slice's spare places count too). A statement '..UptoSaid' is the law's where the arguments, and the package variables that the reading takes, are together of bulk at most 1048576: NARROWER than '..Said'. Prove '..Said' where nothing that the law and all that it calls make is longer than what came in: it says more and counts as full. Else prove '..UptoSaid'. A law counts once. -/
mutual
def uptoBulk {H : Type} : DataW H → Nat
  | .lit (.string bytes) => bytes.length + 1
  | .lit _ => 1
  | .nil => 1
  | .ptr d => uptoBulk d + 1
  | .slice elems spare => uptoBulkAll elems + uptoBulkAll spare + 1
  | .agg parts => uptoBulkAll parts + 1
  | .iface _ d => uptoBulk d + 1
  | .map entries => uptoBulkEntries entries + 1
  | .held _ => 1
def uptoBulkAll {H : Type} : List (DataW H) → Nat
  | [] => 0
  | d :: r => uptoBulk d + uptoBulkAll r
def uptoBulkEntries {H : Type} : List (Lit × DataW H) → Nat
  | [] => 0
  | x :: r => uptoBulkEntry x + uptoBulkEntries r
def uptoBulkEntry {H : Type} : Lit × DataW H → Nat
  | (.string bytes, d) => bytes.length + uptoBulk d + 1
  | (_, d) => uptoBulk d + 1
 end
def uptoSmall : (H : Type) → List (DataW H) → Bool := fun _ ds => decide (uptoBulkAll ds ≤ 1048576)
def OpenSpec.upto (s : _root_.Go.ChangeSpec) : _root_.Go.OpenSpec := { _root_.Go.OpenSpec.ofChange s with cond := some uptoSmall }

/-- 'edictlaw09.BoundAddIs', WHERE WHAT IT READS IS OF BULK AT MOST 1048576: true; the input reads as it did. -/
def boundAddIsUptoRow : OpenClaim := { program := "ytiacdadgnofhjaa", sum := "3688a06832dcca1eb383ad33a726fbf9b792a7d6fa5c995aefd98f1514eb27dc", func := "edict/edictlaw09.BoundAddIs", spec := "boundAddIs", inPlace := ["math/bits.Add64"], apart := false, narrowed := true }
def BoundAddIsUptoSaid : Prop := boundAddIsUptoRow.holds Try.pinned (OpenSpec.upto boundAddIsSpec)

/-- 'edictlaw09.BoundPowIs', WHERE WHAT IT READS IS OF BULK AT MOST 1048576: true; the input reads as it did. -/
def boundPowIsUptoRow : OpenClaim := { program := "ytiacdadgnofhjaa", sum := "3688a06832dcca1eb383ad33a726fbf9b792a7d6fa5c995aefd98f1514eb27dc", func := "edict/edictlaw09.BoundPowIs", spec := "boundPowIs", apart := false, narrowed := true }
def BoundPowIsUptoSaid : Prop := boundPowIsUptoRow.holds Try.pinned (OpenSpec.upto boundPowIsSpec)

/-- 'edictlaw09.BoundMulIs', WHERE WHAT IT READS IS OF BULK AT MOST 1048576: true; the input reads as it did. -/
def boundMulIsUptoRow : OpenClaim := { program := "ytiacdadgnofhjaa", sum := "3688a06832dcca1eb383ad33a726fbf9b792a7d6fa5c995aefd98f1514eb27dc", func := "edict/edictlaw09.BoundMulIs", spec := "boundMulIs", inPlace := ["math/bits.Add64"], apart := false, narrowed := true }
def BoundMulIsUptoSaid : Prop := boundMulIsUptoRow.holds Try.pinned (OpenSpec.upto boundMulIsSpec)

/-- 'edictlaw09.BoundAdds', WHERE WHAT IT READS IS OF BULK AT MOST 1048576: true; the input reads as it did. -/
def boundAddsUptoRow : OpenClaim := { program := "ytiacdadgnofhjaa", sum := "3688a06832dcca1eb383ad33a726fbf9b792a7d6fa5c995aefd98f1514eb27dc", func := "edict/edictlaw09.BoundAdds", spec := "boundAdds", inPlace := ["math/bits.Add64"], apart := false, narrowed := true }
def BoundAddsUptoSaid : Prop := boundAddsUptoRow.holds Try.pinned (OpenSpec.upto boundAddsSpec)

/-- 'edictlaw09.BoundMuls', WHERE WHAT IT READS IS OF BULK AT MOST 1048576: true; the input reads as it did. -/
def boundMulsUptoRow : OpenClaim := { program := "ytiacdadgnofhjaa", sum := "3688a06832dcca1eb383ad33a726fbf9b792a7d6fa5c995aefd98f1514eb27dc", func := "edict/edictlaw09.BoundMuls", spec := "boundMuls", apart := false, narrowed := true }
def BoundMulsUptoSaid : Prop := boundMulsUptoRow.holds Try.pinned (OpenSpec.upto boundMulsSpec)

/-- 'edictlaw09.BoundPows', WHERE WHAT IT READS IS OF BULK AT MOST 1048576: true; the input reads as it did. -/
def boundPowsUptoRow : OpenClaim := { program := "ytiacdadgnofhjaa", sum := "3688a06832dcca1eb383ad33a726fbf9b792a7d6fa5c995aefd98f1514eb27dc", func := "edict/edictlaw09.BoundPows", spec := "boundPows", apart := false, narrowed := true }
def BoundPowsUptoSaid : Prop := boundPowsUptoRow.holds Try.pinned (OpenSpec.upto boundPowsSpec)

end Rows
end Go.Proofs.Ytiacdadgnofhjaa
