/- The law's own sameAtom at equal atoms. The law's own sameAtoms at equal lists of atoms. -/
import Derived.Test.YtchhophblejmeaaGreatDoorProg
import Derived.Test.YtchhophblejmeaaGreatDoorPkB4
import Derived.Test.YtchhophblejmeaaGreatDoorOver
import Derived.Test.YtchhophblejmeaaGreatDoorPkB8

namespace Go.Proofs.YtchhophblejmeaaGreatDoor
set_option linter.unusedSimpArgs false
set_option linter.unusedVariables false
open Go.RowKit

end Go.Proofs.YtchhophblejmeaaGreatDoor

namespace Go.Proofs.YtchhophblejmeaaGreatDoor
set_option linter.unusedSimpArgs false
set_option linter.unusedVariables false
open Go.RowKit

theorem pur_at {α β : Type} {f : α → β} {l m : List α} (h : l.map f = m.map f) {k : Nat} {x y : α} (hx : l[k]? = some x) (hy : m[k]? = some y) : f x = f y := by
  have e := congrArg (fun z => z[k]?) h
  simp only [List.getElem?_map, hx, hy, Option.map_some, Option.some.injEq] at e
  exact e
end Go.Proofs.YtchhophblejmeaaGreatDoor
