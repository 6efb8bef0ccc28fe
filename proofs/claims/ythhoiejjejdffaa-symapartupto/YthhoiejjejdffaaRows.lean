/-
  No cell of these rows narrows 'for every input' (looked for: loops, veiled, ifaces, maps, wideKeys, modest, calm, conditions, laid).
  DERIVED. THE GIVEN ROWS OF THIS SEAT. 4 by the template 'for every input the law returns true; each argument reads behind the call as it read before'; 0 by the template 'total and deterministic' (their statements: YthhoiejjejdffaaTotals.lean).
  GIVEN WITH THE SEED: the statements are not yours to turn. If you find one false, say at which input.
  Laid BY PROGRAM, IN A SANDBOX (cutbox-rows.mjs): the forced cells as the released guide's own fill.sh prints them over the translation 257aed486ef75e14… (all of the seat's roots in one cut). By AI agents, Wed Nov 11 2026. No macro, syntax, notation, axiom, sorry.
-/
import Derived.Test.YthhoiejjejdffaaChecked
import GoSem.Claim
import GoSem.ClaimJoined
import GoSem.ClaimMapViews
import Derived.JoinedTies
import Derived.KernelRfl
namespace Go.Proofs.Ythhoiejjejdffaa
/- THE CELL 'sum', in the pinned program and in every row, IS THE sha256 OF THE DUMP (.gsa) THAT YthhoiejjejdffaaProg.lean LOADS. Nothing in Lean hashes anything: it is a label: what it is worth is what the hold of that sum in a sandbox is worth. -/
noncomputable def Try.pinned : Pinned := { name := "ythhoiejjejdffaa", sum := "257aed486ef75e1496a70bd4653212b491ba38179cfa0ba9e20f031990a33d9b", checked := Try.checked }
namespace Rows
def none {H : Type} : Left H := { results := [], args := [] }

/-- 'edictlaw01.SymIds': WHATEVER THE INPUT: true; the input reads as it did. -/
def symIdsSpec : ChangeSpec := { name := "symIds", fn := fun _ => fun
  | [d1, d2] => { results := [.lit (.bool true)], args := [d1, d2] }
  | _ => none }
def symIdsRow : OpenClaim := { program := "ythhoiejjejdffaa", sum := "257aed486ef75e1496a70bd4653212b491ba38179cfa0ba9e20f031990a33d9b", func := "edict/edictlaw01.SymIds", spec := "symIds", unfollowed := true, recurses := true, plainKeys := false, apart := false }
def SymIdsSaid : Prop := symIdsRow.holds Try.pinned (OpenSpec.ofChange symIdsSpec)

/-- ITS FALSE NEIGHBOUR: 'it returns false'. Refute it at one input. -/
def symIdsWrong : ChangeSpec := { name := "symIds", fn := fun _ => fun
  | [d1, d2] => { results := [.lit (.bool false)], args := [d1, d2] }
  | _ => none }
def SymIdsWrongFalsely : Prop := symIdsRow.holds Try.pinned (OpenSpec.ofChange symIdsWrong)

/-- 'edictlaw01.SymRanks': WHATEVER THE INPUT: true; the input reads as it did. -/
def symRanksSpec : ChangeSpec := { name := "symRanks", fn := fun _ => fun
  | [d] => { results := [.lit (.bool true)], args := [d] }
  | _ => none }
def symRanksRow : OpenClaim := { program := "ythhoiejjejdffaa", sum := "257aed486ef75e1496a70bd4653212b491ba38179cfa0ba9e20f031990a33d9b", func := "edict/edictlaw01.SymRanks", spec := "symRanks", unfollowed := true, recurses := true, plainKeys := false, apart := false }
def SymRanksSaid : Prop := symRanksRow.holds Try.pinned (OpenSpec.ofChange symRanksSpec)

/-- ITS FALSE NEIGHBOUR: 'it returns false'. Refute it at one input. -/
def symRanksWrong : ChangeSpec := { name := "symRanks", fn := fun _ => fun
  | [d] => { results := [.lit (.bool false)], args := [d] }
  | _ => none }
def SymRanksWrongFalsely : Prop := symRanksRow.holds Try.pinned (OpenSpec.ofChange symRanksWrong)

/-- 'edictlaw01.SymApart': WHATEVER THE INPUT: true; the input reads as it did. -/
def symApartSpec : ChangeSpec := { name := "symApart", fn := fun _ => fun
  | [d1, d2] => { results := [.lit (.bool true)], args := [d1, d2] }
  | _ => none }
def symApartRow : OpenClaim := { program := "ythhoiejjejdffaa", sum := "257aed486ef75e1496a70bd4653212b491ba38179cfa0ba9e20f031990a33d9b", func := "edict/edictlaw01.SymApart", spec := "symApart", unfollowed := true, recurses := true, plainKeys := false, apart := false }
def SymApartSaid : Prop := symApartRow.holds Try.pinned (OpenSpec.ofChange symApartSpec)

/-- ITS FALSE NEIGHBOUR: 'it returns false'. Refute it at one input. -/
def symApartWrong : ChangeSpec := { name := "symApart", fn := fun _ => fun
  | [d1, d2] => { results := [.lit (.bool false)], args := [d1, d2] }
  | _ => none }
def SymApartWrongFalsely : Prop := symApartRow.holds Try.pinned (OpenSpec.ofChange symApartWrong)

/-- 'edictlaw01.SymTables': WHATEVER THE INPUT: true; the input reads as it did. -/
def symTablesSpec : ChangeSpec := { name := "symTables", fn := fun _ => fun
  | [d] => { results := [.lit (.bool true)], args := [d] }
  | _ => none }
def symTablesRow : OpenClaim := { program := "ythhoiejjejdffaa", sum := "257aed486ef75e1496a70bd4653212b491ba38179cfa0ba9e20f031990a33d9b", func := "edict/edictlaw01.SymTables", spec := "symTables", unfollowed := true, recurses := true, plainKeys := false, apart := false }
def SymTablesSaid : Prop := symTablesRow.holds Try.pinned (OpenSpec.ofChange symTablesSpec)

/-- ITS FALSE NEIGHBOUR: 'it returns false'. Refute it at one input. -/
def symTablesWrong : ChangeSpec := { name := "symTables", fn := fun _ => fun
  | [d] => { results := [.lit (.bool false)], args := [d] }
  | _ => none }
def SymTablesWrongFalsely : Prop := symTablesRow.holds Try.pinned (OpenSpec.ofChange symTablesWrong)

/- THE SECOND FORM. 'bulk': how many values and letters a reading holds, each counted each time it is reached (what is shared counts as often as it is met; a slice's spare places count too). A statement '..UptoSaid' is the law's where the arguments, and the package variables that the reading takes, are together of bulk at most 1048576: NARROWER than '..Said'. Prove '..Said' where nothing that the law and all that it calls make is longer than what came in: it says more and counts as full. Else prove '..UptoSaid'. A law counts once. -/
mutual
def uptoBulk {H : Type} : DataW H → Nat
  | .lit (.string bytes) => bytes.length + 1
  | .lit _ => 1
  | .nil => 1
  | .ptr d => uptoBulk d + 1
  | .slice elems spare => uptoBulkAll elems + uptoBulkAll spare + 1
  | .agg parts => uptoBulkAll parts + 1
  | .iface _ d => uptoBulk d + 1
  | .map entries => uptoBulkEntries entries + 1
  | .held _ => 1
def uptoBulkAll {H : Type} : List (DataW H) → Nat
  | [] => 0
  | d :: r => uptoBulk d + uptoBulkAll r
def uptoBulkEntries {H : Type} : List (Lit × DataW H) → Nat
  | [] => 0
  | x :: r => uptoBulkEntry x + uptoBulkEntries r
def uptoBulkEntry {H : Type} : Lit × DataW H → Nat
  | (.string bytes, d) => bytes.length + uptoBulk d + 1
  | (_, d) => uptoBulk d + 1
 end
def uptoSmall : (H : Type) → List (DataW H) → Bool := fun _ ds => decide (uptoBulkAll ds ≤ 1048576)
def OpenSpec.upto (s : _root_.Go.ChangeSpec) : _root_.Go.OpenSpec := { _root_.Go.OpenSpec.ofChange s with cond := some uptoSmall }

/-- 'edictlaw01.SymIds', WHERE WHAT IT READS IS OF BULK AT MOST 1048576: true; the input reads as it did. -/
def symIdsUptoRow : OpenClaim := { program := "ythhoiejjejdffaa", sum := "257aed486ef75e1496a70bd4653212b491ba38179cfa0ba9e20f031990a33d9b", func := "edict/edictlaw01.SymIds", spec := "symIds", unfollowed := true, recurses := true, plainKeys := false, apart := false, narrowed := true }
def SymIdsUptoSaid : Prop := symIdsUptoRow.holds Try.pinned (OpenSpec.upto symIdsSpec)

/-- 'edictlaw01.SymRanks', WHERE WHAT IT READS IS OF BULK AT MOST 1048576: true; the input reads as it did. -/
def symRanksUptoRow : OpenClaim := { program := "ythhoiejjejdffaa", sum := "257aed486ef75e1496a70bd4653212b491ba38179cfa0ba9e20f031990a33d9b", func := "edict/edictlaw01.SymRanks", spec := "symRanks", unfollowed := true, recurses := true, plainKeys := false, apart := false, narrowed := true }
def SymRanksUptoSaid : Prop := symRanksUptoRow.holds Try.pinned (OpenSpec.upto symRanksSpec)

/-- 'edictlaw01.SymApart', WHERE WHAT IT READS IS OF BULK AT MOST 1048576: true; the input reads as it did. -/
def symApartUptoRow : OpenClaim := { program := "ythhoiejjejdffaa", sum := "257aed486ef75e1496a70bd4653212b491ba38179cfa0ba9e20f031990a33d9b", func := "edict/edictlaw01.SymApart", spec := "symApart", unfollowed := true, recurses := true, plainKeys := false, apart := false, narrowed := true }
def SymApartUptoSaid : Prop := symApartUptoRow.holds Try.pinned (OpenSpec.upto symApartSpec)

/-- 'edictlaw01.SymTables', WHERE WHAT IT READS IS OF BULK AT MOST 1048576: true; the input reads as it did. -/
def symTablesUptoRow : OpenClaim := { program := "ythhoiejjejdffaa", sum := "257aed486ef75e1496a70bd4653212b491ba38179cfa0ba9e20f031990a33d9b", func := "edict/edictlaw01.SymTables", spec := "symTables", unfollowed := true, recurses := true, plainKeys := false, apart := false, narrowed := true }
def SymTablesUptoSaid : Prop := symTablesUptoRow.holds Try.pinned (OpenSpec.upto symTablesSpec)

end Rows
end Go.Proofs.Ythhoiejjejdffaa
