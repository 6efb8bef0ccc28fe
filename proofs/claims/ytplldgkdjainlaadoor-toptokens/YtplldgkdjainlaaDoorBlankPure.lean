/- A piece of a text that is a gap, as a plain function. -/
import Derived.Test.YtplldgkdjainlaaDoorGapPure
namespace Go.Proofs.YtplldgkdjainlaaDoor
set_option linter.unusedSimpArgs false
set_option linter.unusedVariables false
open Go.RowKit

def pieceL (s : ByteArray) (a b : Nat) : List UInt8 := (s.data.toList.take b).drop a

def blankW (s : ByteArray) (a b : Int) : Bool :=
  if s.size ≤ 65536 ∧ 0 ≤ a ∧ a ≤ b ∧ b ≤ s.size then (gapN (pieceL s a.toNat b.toNat)).2 && decide (a.toNat + (gapN (pieceL s a.toNat b.toNat)).1 = b.toNat) else false

theorem rest_upto (s : ByteArray) (a b : Nat) : rest (s.extract 0 b) a = pieceL s a b := by
  unfold rest pieceL
  rw [ByteArray.data_extract, Array.toList_extract, List.extract_eq_take_drop, List.drop_zero, Nat.sub_zero]
end Go.Proofs.YtplldgkdjainlaaDoor
