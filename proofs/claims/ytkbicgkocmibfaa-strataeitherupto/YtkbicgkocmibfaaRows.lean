/-
  No cell of these rows narrows 'for every input' (looked for: loops, veiled, ifaces, maps, wideKeys, modest, calm, conditions, laid).
  DERIVED. THE GIVEN ROWS OF THIS SEAT. 6 by the template 'for every input the law returns true; each argument reads behind the call as it read before'; 0 by the template 'total and deterministic' (their statements: YtkbicgkocmibfaaTotals.lean).
  GIVEN WITH THE SEED: the statements are not yours to turn. If you find one false, say at which input.
  Laid BY PROGRAM, IN A SANDBOX (cutbox-rows.mjs): the forced cells as the released guide's own fill.sh prints them over the translation a6d9c278281397a1… (all of the seat's roots in one cut). By AI agents, Wed Nov 11 2026. No macro, syntax, notation, axiom, sorry.
-/
import Derived.Test.YtkbicgkocmibfaaChecked
import GoSem.Claim
import GoSem.ClaimJoined
import GoSem.ClaimMapViews
import Derived.JoinedTies
import Derived.KernelRfl
namespace Go.Proofs.Ytkbicgkocmibfaa
/- THE CELL 'sum', in the pinned program and in every row, IS THE sha256 OF THE DUMP (.gsa) THAT YtkbicgkocmibfaaProg.lean LOADS. Nothing in Lean hashes anything: it is a label: what it is worth is what the hold of that sum in a sandbox is worth. -/
noncomputable def Try.pinned : Pinned := { name := "ytkbicgkocmibfaa", sum := "a6d9c278281397a147f313bf427b30788c5b0bad80f985fd308c468933a7b7db", checked := Try.checked }
namespace Rows
def none {H : Type} : Left H := { results := [], args := [] }

/-- 'edictlaw08.StrataApart': WHATEVER THE INPUT: true; the input reads as it did. -/
def strataApartSpec : ChangeSpec := { name := "strataApart", fn := fun _ => fun
  | [d1, d2] => { results := [.lit (.bool true)], args := [d1, d2] }
  | _ => none }
def strataApartRow : OpenClaim := { program := "ytkbicgkocmibfaa", sum := "a6d9c278281397a147f313bf427b30788c5b0bad80f985fd308c468933a7b7db", func := "edict/edictlaw08.StrataApart", spec := "strataApart", unfollowed := true, recurses := true, apart := false }
def StrataApartSaid : Prop := strataApartRow.holds Try.pinned (OpenSpec.ofChange strataApartSpec)

/-- ITS FALSE NEIGHBOUR: 'it returns false'. Refute it at one input. -/
def strataApartWrong : ChangeSpec := { name := "strataApart", fn := fun _ => fun
  | [d1, d2] => { results := [.lit (.bool false)], args := [d1, d2] }
  | _ => none }
def StrataApartWrongFalsely : Prop := strataApartRow.holds Try.pinned (OpenSpec.ofChange strataApartWrong)

/-- 'edictlaw08.StrataOrder': WHATEVER THE INPUT: true; the input reads as it did. -/
def strataOrderSpec : ChangeSpec := { name := "strataOrder", fn := fun _ => fun
  | [d1, d2, d3] => { results := [.lit (.bool true)], args := [d1, d2, d3] }
  | _ => none }
def strataOrderRow : OpenClaim := { program := "ytkbicgkocmibfaa", sum := "a6d9c278281397a147f313bf427b30788c5b0bad80f985fd308c468933a7b7db", func := "edict/edictlaw08.StrataOrder", spec := "strataOrder", unfollowed := true, recurses := true, apart := false }
def StrataOrderSaid : Prop := strataOrderRow.holds Try.pinned (OpenSpec.ofChange strataOrderSpec)

/-- ITS FALSE NEIGHBOUR: 'it returns false'. Refute it at one input. -/
def strataOrderWrong : ChangeSpec := { name := "strataOrder", fn := fun _ => fun
  | [d1, d2, d3] => { results := [.lit (.bool false)], args := [d1, d2, d3] }
  | _ => none }
def StrataOrderWrongFalsely : Prop := strataOrderRow.holds Try.pinned (OpenSpec.ofChange strataOrderWrong)

/-- 'edictlaw08.StrataComponents': WHATEVER THE INPUT: true; the input reads as it did. -/
def strataComponentsSpec : ChangeSpec := { name := "strataComponents", fn := fun _ => fun
  | [d1, d2] => { results := [.lit (.bool true)], args := [d1, d2] }
  | _ => none }
def strataComponentsRow : OpenClaim := { program := "ytkbicgkocmibfaa", sum := "a6d9c278281397a147f313bf427b30788c5b0bad80f985fd308c468933a7b7db", func := "edict/edictlaw08.StrataComponents", spec := "strataComponents", unfollowed := true, recurses := true, apart := false }
def StrataComponentsSaid : Prop := strataComponentsRow.holds Try.pinned (OpenSpec.ofChange strataComponentsSpec)

/-- ITS FALSE NEIGHBOUR: 'it returns false'. Refute it at one input. -/
def strataComponentsWrong : ChangeSpec := { name := "strataComponents", fn := fun _ => fun
  | [d1, d2] => { results := [.lit (.bool false)], args := [d1, d2] }
  | _ => none }
def StrataComponentsWrongFalsely : Prop := strataComponentsRow.holds Try.pinned (OpenSpec.ofChange strataComponentsWrong)

/-- 'edictlaw08.StrataLevels': WHATEVER THE INPUT: true; the input reads as it did. -/
def strataLevelsSpec : ChangeSpec := { name := "strataLevels", fn := fun _ => fun
  | [d1, d2] => { results := [.lit (.bool true)], args := [d1, d2] }
  | _ => none }
def strataLevelsRow : OpenClaim := { program := "ytkbicgkocmibfaa", sum := "a6d9c278281397a147f313bf427b30788c5b0bad80f985fd308c468933a7b7db", func := "edict/edictlaw08.StrataLevels", spec := "strataLevels", unfollowed := true, recurses := true, apart := false }
def StrataLevelsSaid : Prop := strataLevelsRow.holds Try.pinned (OpenSpec.ofChange strataLevelsSpec)

/-- ITS FALSE NEIGHBOUR: 'it returns false'. Refute it at one input. -/
def strataLevelsWrong : ChangeSpec := { name := "strataLevels", fn := fun _ => fun
  | [d1, d2] => { results := [.lit (.bool false)], args := [d1, d2] }
  | _ => none }
def StrataLevelsWrongFalsely : Prop := strataLevelsRow.holds Try.pinned (OpenSpec.ofChange strataLevelsWrong)

/-- 'edictlaw08.StrataEither': WHATEVER THE INPUT: true; the input reads as it did. -/
def strataEitherSpec : ChangeSpec := { name := "strataEither", fn := fun _ => fun
  | [d] => { results := [.lit (.bool true)], args := [d] }
  | _ => none }
def strataEitherRow : OpenClaim := { program := "ytkbicgkocmibfaa", sum := "a6d9c278281397a147f313bf427b30788c5b0bad80f985fd308c468933a7b7db", func := "edict/edictlaw08.StrataEither", spec := "strataEither", unfollowed := true, recurses := true, apart := false }
def StrataEitherSaid : Prop := strataEitherRow.holds Try.pinned (OpenSpec.ofChange strataEitherSpec)

/-- ITS FALSE NEIGHBOUR: 'it returns false'. Refute it at one input. -/
def strataEitherWrong : ChangeSpec := { name := "strataEither", fn := fun _ => fun
  | [d] => { results := [.lit (.bool false)], args := [d] }
  | _ => none }
def StrataEitherWrongFalsely : Prop := strataEitherRow.holds Try.pinned (OpenSpec.ofChange strataEitherWrong)

/-- 'edictlaw08.StrataMore': WHATEVER THE INPUT: true; the input reads as it did. -/
def strataMoreSpec : ChangeSpec := { name := "strataMore", fn := fun _ => fun
  | [d1, d2, d3] => { results := [.lit (.bool true)], args := [d1, d2, d3] }
  | _ => none }
def strataMoreRow : OpenClaim := { program := "ytkbicgkocmibfaa", sum := "a6d9c278281397a147f313bf427b30788c5b0bad80f985fd308c468933a7b7db", func := "edict/edictlaw08.StrataMore", spec := "strataMore", unfollowed := true, recurses := true, apart := false }
def StrataMoreSaid : Prop := strataMoreRow.holds Try.pinned (OpenSpec.ofChange strataMoreSpec)

/-- ITS FALSE NEIGHBOUR: 'it returns false'. Refute it at one input. -/
def strataMoreWrong : ChangeSpec := { name := "strataMore", fn := fun _ => fun
  | [d1, d2, d3] => { results := [.lit (.bool false)], args := [d1, d2, d3] }
  | _ => none }
def StrataMoreWrongFalsely : Prop := strataMoreRow.holds Try.pinned (OpenSpec.ofChange strataMoreWrong)

/- THE SECOND FORM. 'bulk': how many values and letters a reading holds, each counted each time it is reached (what is shared counts as often as it is met; a slice's spare places count too). A statement '..UptoSaid' is the law's where the arguments, and the package variables that the reading takes, are together of bulk at most 1048576: NARROWER than '..Said'. Prove '..Said' where nothing that the law and all that it calls make is longer than what came in: it says more and counts as full. Else prove '..UptoSaid'. A law counts once. -/
mutual
def uptoBulk {H : Type} : DataW H → Nat
  | .lit (.string bytes) => bytes.length + 1
  | .lit _ => 1
  | .nil => 1
  | .ptr d => uptoBulk d + 1
  | .slice elems spare => uptoBulkAll elems + uptoBulkAll spare + 1
  | .agg parts => uptoBulkAll parts + 1
  | .iface _ d => uptoBulk d + 1
  | .map entries => uptoBulkEntries entries + 1
  | .held _ => 1
def uptoBulkAll {H : Type} : List (DataW H) → Nat
  | [] => 0
  | d :: r => uptoBulk d + uptoBulkAll r
def uptoBulkEntries {H : Type} : List (Lit × DataW H) → Nat
  | [] => 0
  | x :: r => uptoBulkEntry x + uptoBulkEntries r
def uptoBulkEntry {H : Type} : Lit × DataW H → Nat
  | (.string bytes, d) => bytes.length + uptoBulk d + 1
  | (_, d) => uptoBulk d + 1
 end
def uptoSmall : (H : Type) → List (DataW H) → Bool := fun _ ds => decide (uptoBulkAll ds ≤ 1048576)
def OpenSpec.upto (s : _root_.Go.ChangeSpec) : _root_.Go.OpenSpec := { _root_.Go.OpenSpec.ofChange s with cond := some uptoSmall }

/-- 'edictlaw08.StrataApart', WHERE WHAT IT READS IS OF BULK AT MOST 1048576: true; the input reads as it did. -/
def strataApartUptoRow : OpenClaim := { program := "ytkbicgkocmibfaa", sum := "a6d9c278281397a147f313bf427b30788c5b0bad80f985fd308c468933a7b7db", func := "edict/edictlaw08.StrataApart", spec := "strataApart", unfollowed := true, recurses := true, apart := false, narrowed := true }
def StrataApartUptoSaid : Prop := strataApartUptoRow.holds Try.pinned (OpenSpec.upto strataApartSpec)

/-- 'edictlaw08.StrataOrder', WHERE WHAT IT READS IS OF BULK AT MOST 1048576: true; the input reads as it did. -/
def strataOrderUptoRow : OpenClaim := { program := "ytkbicgkocmibfaa", sum := "a6d9c278281397a147f313bf427b30788c5b0bad80f985fd308c468933a7b7db", func := "edict/edictlaw08.StrataOrder", spec := "strataOrder", unfollowed := true, recurses := true, apart := false, narrowed := true }
def StrataOrderUptoSaid : Prop := strataOrderUptoRow.holds Try.pinned (OpenSpec.upto strataOrderSpec)

/-- 'edictlaw08.StrataComponents', WHERE WHAT IT READS IS OF BULK AT MOST 1048576: true; the input reads as it did. -/
def strataComponentsUptoRow : OpenClaim := { program := "ytkbicgkocmibfaa", sum := "a6d9c278281397a147f313bf427b30788c5b0bad80f985fd308c468933a7b7db", func := "edict/edictlaw08.StrataComponents", spec := "strataComponents", unfollowed := true, recurses := true, apart := false, narrowed := true }
def StrataComponentsUptoSaid : Prop := strataComponentsUptoRow.holds Try.pinned (OpenSpec.upto strataComponentsSpec)

/-- 'edictlaw08.StrataLevels', WHERE WHAT IT READS IS OF BULK AT MOST 1048576: true; the input reads as it did. -/
def strataLevelsUptoRow : OpenClaim := { program := "ytkbicgkocmibfaa", sum := "a6d9c278281397a147f313bf427b30788c5b0bad80f985fd308c468933a7b7db", func := "edict/edictlaw08.StrataLevels", spec := "strataLevels", unfollowed := true, recurses := true, apart := false, narrowed := true }
def StrataLevelsUptoSaid : Prop := strataLevelsUptoRow.holds Try.pinned (OpenSpec.upto strataLevelsSpec)

/-- 'edictlaw08.StrataEither', WHERE WHAT IT READS IS OF BULK AT MOST 1048576: true; the input reads as it did. -/
def strataEitherUptoRow : OpenClaim := { program := "ytkbicgkocmibfaa", sum := "a6d9c278281397a147f313bf427b30788c5b0bad80f985fd308c468933a7b7db", func := "edict/edictlaw08.StrataEither", spec := "strataEither", unfollowed := true, recurses := true, apart := false, narrowed := true }
def StrataEitherUptoSaid : Prop := strataEitherUptoRow.holds Try.pinned (OpenSpec.upto strataEitherSpec)

/-- 'edictlaw08.StrataMore', WHERE WHAT IT READS IS OF BULK AT MOST 1048576: true; the input reads as it did. -/
def strataMoreUptoRow : OpenClaim := { program := "ytkbicgkocmibfaa", sum := "a6d9c278281397a147f313bf427b30788c5b0bad80f985fd308c468933a7b7db", func := "edict/edictlaw08.StrataMore", spec := "strataMore", unfollowed := true, recurses := true, apart := false, narrowed := true }
def StrataMoreUptoSaid : Prop := strataMoreUptoRow.holds Try.pinned (OpenSpec.upto strataMoreSpec)

end Rows
end Go.Proofs.Ytkbicgkocmibfaa
