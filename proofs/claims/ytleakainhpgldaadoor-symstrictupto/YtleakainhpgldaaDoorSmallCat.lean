/- Two strings one behind the other. -/
import Derived.Test.YtleakainhpgldaaDoorProg
import Derived.Test.YtleakainhpgldaaDoorOpen
namespace Go.Proofs.YtleakainhpgldaaDoor
set_option linter.unusedSimpArgs false
set_option linter.unusedVariables false
open Go.RowKit

theorem small_cat (a b : ByteArray) (h : a.size + b.size ≤ 1000000) (w : World) : (Op.stringOp .add a b).run Tryd.prog w = .ok (.string (a ++ b)) w := by
  have h1 : ¬ (((a.size + b.size : Nat) : Int) > IntKind.i64.max) := by show ¬ _ > (9223372036854775807 : Int); omega
  unfold Op.stringOp
  simp only
  rw [if_neg h1]
  rfl
end Go.Proofs.YtleakainhpgldaaDoor
