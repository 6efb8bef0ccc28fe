/- The law's own sameAtom at equal atoms. -/
import Derived.Test.YtnpmdepbfobebaaGreatDoorProg
import Derived.Test.YtnpmdepbfobebaaGreatDoorForms
import Derived.Test.YtnpmdepbfobebaaGreatDoorOver
import Derived.Test.YtnpmdepbfobebaaGreatDoorParseLit
namespace Go.Proofs.YtnpmdepbfobebaaGreatDoor
set_option linter.unusedSimpArgs false
set_option linter.unusedVariables false
open Go.RowKit

end Go.Proofs.YtnpmdepbfobebaaGreatDoor
