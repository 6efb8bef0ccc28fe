/-
  No cell of these rows narrows 'for every input' (looked for: loops, veiled, ifaces, maps, wideKeys, modest, calm, conditions, laid).
  DERIVED. THE GIVEN ROWS OF THIS SEAT. 3 by the template 'for every input the law returns true; each argument reads behind the call as it read before'; 0 by the template 'total and deterministic' (their statements: YtjifhmlfnnagcaaTotals.lean).
  GIVEN WITH THE SEED: the statements are not yours to turn. If you find one false, say at which input.
  Laid BY PROGRAM, IN A SANDBOX (cutbox-rows.mjs): the forced cells as the released guide's own fill.sh prints them over the translation 0c6a7342cc77797f… (all of the seat's roots in one cut). By AI agents, Wed Nov 11 2026. No macro, syntax, notation, axiom, sorry.
-/
import Derived.Test.YtjifhmlfnnagcaaChecked
import GoSem.Claim
import GoSem.ClaimJoined
import GoSem.ClaimMapViews
import Derived.JoinedTies
import Derived.KernelRfl
namespace Go.Proofs.Ytjifhmlfnnagcaa
/- THE CELL 'sum', in the pinned program and in every row, IS THE sha256 OF THE DUMP (.gsa) THAT YtjifhmlfnnagcaaProg.lean LOADS. Nothing in Lean hashes anything: it is a label: what it is worth is what the hold of that sum in a sandbox is worth. -/
noncomputable def Try.pinned : Pinned := { name := "ytjifhmlfnnagcaa", sum := "0c6a7342cc77797f7474d249838e59f6df647a700daf414b1e6729a7ef9b72f3", checked := Try.checked }
namespace Rows
def none {H : Type} : Left H := { results := [], args := [] }

/-- 'edictlaw08.StrataComponents': WHATEVER THE INPUT: true; the input reads as it did. -/
def strataComponentsSpec : ChangeSpec := { name := "strataComponents", fn := fun _ => fun
  | [d1, d2] => { results := [.lit (.bool true)], args := [d1, d2] }
  | _ => none }
def strataComponentsRow : OpenClaim := { program := "ytjifhmlfnnagcaa", sum := "0c6a7342cc77797f7474d249838e59f6df647a700daf414b1e6729a7ef9b72f3", func := "edict/edictlaw08.StrataComponents", spec := "strataComponents", unfollowed := true, recurses := true, apart := false }
def StrataComponentsSaid : Prop := strataComponentsRow.holds Try.pinned (OpenSpec.ofChange strataComponentsSpec)

/-- ITS FALSE NEIGHBOUR: 'it returns false'. Refute it at one input. -/
def strataComponentsWrong : ChangeSpec := { name := "strataComponents", fn := fun _ => fun
  | [d1, d2] => { results := [.lit (.bool false)], args := [d1, d2] }
  | _ => none }
def StrataComponentsWrongFalsely : Prop := strataComponentsRow.holds Try.pinned (OpenSpec.ofChange strataComponentsWrong)

/-- 'edictlaw08.StrataLevels': WHATEVER THE INPUT: true; the input reads as it did. -/
def strataLevelsSpec : ChangeSpec := { name := "strataLevels", fn := fun _ => fun
  | [d1, d2] => { results := [.lit (.bool true)], args := [d1, d2] }
  | _ => none }
def strataLevelsRow : OpenClaim := { program := "ytjifhmlfnnagcaa", sum := "0c6a7342cc77797f7474d249838e59f6df647a700daf414b1e6729a7ef9b72f3", func := "edict/edictlaw08.StrataLevels", spec := "strataLevels", unfollowed := true, recurses := true, apart := false }
def StrataLevelsSaid : Prop := strataLevelsRow.holds Try.pinned (OpenSpec.ofChange strataLevelsSpec)

/-- ITS FALSE NEIGHBOUR: 'it returns false'. Refute it at one input. -/
def strataLevelsWrong : ChangeSpec := { name := "strataLevels", fn := fun _ => fun
  | [d1, d2] => { results := [.lit (.bool false)], args := [d1, d2] }
  | _ => none }
def StrataLevelsWrongFalsely : Prop := strataLevelsRow.holds Try.pinned (OpenSpec.ofChange strataLevelsWrong)

/-- 'edictlaw08.StrataCycle': WHATEVER THE INPUT: true; the input reads as it did. -/
def strataCycleSpec : ChangeSpec := { name := "strataCycle", fn := fun _ => fun
  | [d1, d2] => { results := [.lit (.bool true)], args := [d1, d2] }
  | _ => none }
def strataCycleRow : OpenClaim := { program := "ytjifhmlfnnagcaa", sum := "0c6a7342cc77797f7474d249838e59f6df647a700daf414b1e6729a7ef9b72f3", func := "edict/edictlaw08.StrataCycle", spec := "strataCycle", unfollowed := true, recurses := true, apart := false }
def StrataCycleSaid : Prop := strataCycleRow.holds Try.pinned (OpenSpec.ofChange strataCycleSpec)

/-- ITS FALSE NEIGHBOUR: 'it returns false'. Refute it at one input. -/
def strataCycleWrong : ChangeSpec := { name := "strataCycle", fn := fun _ => fun
  | [d1, d2] => { results := [.lit (.bool false)], args := [d1, d2] }
  | _ => none }
def StrataCycleWrongFalsely : Prop := strataCycleRow.holds Try.pinned (OpenSpec.ofChange strataCycleWrong)

/- THE SECOND FORM. 'bulk': how many values and letters a reading holds, each counted each time it is reached (what is shared counts as often as it is met; a slice's spare places count too). A statement '..UptoSaid' is the law's where the arguments, and the package variables that the reading takes, are together of bulk at most 1048576: NARROWER than '..Said'. Prove '..Said' where nothing that the law and all that it calls make is longer than what came in: it says more and counts as full. Else prove '..UptoSaid'. A law counts once. -/
mutual
def uptoBulk {H : Type} : DataW H → Nat
  | .lit (.string bytes) => bytes.length + 1
  | .lit _ => 1
  | .nil => 1
  | .ptr d => uptoBulk d + 1
  | .slice elems spare => uptoBulkAll elems + uptoBulkAll spare + 1
  | .agg parts => uptoBulkAll parts + 1
  | .iface _ d => uptoBulk d + 1
  | .map entries => uptoBulkEntries entries + 1
  | .held _ => 1
def uptoBulkAll {H : Type} : List (DataW H) → Nat
  | [] => 0
  | d :: r => uptoBulk d + uptoBulkAll r
def uptoBulkEntries {H : Type} : List (Lit × DataW H) → Nat
  | [] => 0
  | x :: r => uptoBulkEntry x + uptoBulkEntries r
def uptoBulkEntry {H : Type} : Lit × DataW H → Nat
  | (.string bytes, d) => bytes.length + uptoBulk d + 1
  | (_, d) => uptoBulk d + 1
 end
def uptoSmall : (H : Type) → List (DataW H) → Bool := fun _ ds => decide (uptoBulkAll ds ≤ 1048576)
def OpenSpec.upto (s : _root_.Go.ChangeSpec) : _root_.Go.OpenSpec := { _root_.Go.OpenSpec.ofChange s with cond := some uptoSmall }

/-- 'edictlaw08.StrataComponents', WHERE WHAT IT READS IS OF BULK AT MOST 1048576: true; the input reads as it did. -/
def strataComponentsUptoRow : OpenClaim := { program := "ytjifhmlfnnagcaa", sum := "0c6a7342cc77797f7474d249838e59f6df647a700daf414b1e6729a7ef9b72f3", func := "edict/edictlaw08.StrataComponents", spec := "strataComponents", unfollowed := true, recurses := true, apart := false, narrowed := true }
def StrataComponentsUptoSaid : Prop := strataComponentsUptoRow.holds Try.pinned (OpenSpec.upto strataComponentsSpec)

/-- 'edictlaw08.StrataLevels', WHERE WHAT IT READS IS OF BULK AT MOST 1048576: true; the input reads as it did. -/
def strataLevelsUptoRow : OpenClaim := { program := "ytjifhmlfnnagcaa", sum := "0c6a7342cc77797f7474d249838e59f6df647a700daf414b1e6729a7ef9b72f3", func := "edict/edictlaw08.StrataLevels", spec := "strataLevels", unfollowed := true, recurses := true, apart := false, narrowed := true }
def StrataLevelsUptoSaid : Prop := strataLevelsUptoRow.holds Try.pinned (OpenSpec.upto strataLevelsSpec)

/-- 'edictlaw08.StrataCycle', WHERE WHAT IT READS IS OF BULK AT MOST 1048576: true; the input reads as it did. -/
def strataCycleUptoRow : OpenClaim := { program := "ytjifhmlfnnagcaa", sum := "0c6a7342cc77797f7474d249838e59f6df647a700daf414b1e6729a7ef9b72f3", func := "edict/edictlaw08.StrataCycle", spec := "strataCycle", unfollowed := true, recurses := true, apart := false, narrowed := true }
def StrataCycleUptoSaid : Prop := strataCycleUptoRow.holds Try.pinned (OpenSpec.upto strataCycleSpec)

end Rows
end Go.Proofs.Ytjifhmlfnnagcaa
