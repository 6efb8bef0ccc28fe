/- Worlds that have grown by what a call made. -/
import Derived.Test.YthhoiejjejdffaaOver
namespace Go.Proofs.Ythhoiejjejdffaa
set_option linter.unusedSimpArgs false
set_option linter.unusedVariables false
open Go.RowKit

theorem belo1 (w : World) (x : Obj) : Below w.heap.size w (w.alloc x) := (Below.refl _ _).alloc (Nat.le_refl _) _
theorem belo1t {w w' : World} {x : Obj} (h : Below (w.alloc x).heap.size (w.alloc x) w') : Below w.heap.size w w' := (belo1 w x).trans (h.mono (by simp))
theorem belot {w w' w'' : World} (h : Below w.heap.size w w') (h2 : Below w'.heap.size w' w'') : Below w.heap.size w w'' := h.trans (h2.mono h.size)
end Go.Proofs.Ythhoiejjejdffaa
