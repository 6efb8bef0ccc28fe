/- The document's Cyclic. -/
import Derived.Test.YtmbkjgfnnpopgaaEdgeCyc
import Derived.Laws.Cover3
namespace Go.Proofs.Ytmbkjgfnnpopgaa
set_option linter.unusedSimpArgs false
set_option linter.unusedVariables false
open Go.RowKit

theorem ed_at {es : List Edg} {k : Nat} {x : Edg} (h : es[k]? = some x) : ed es (k : Int) = x := by unfold ed; simp [h]
theorem wk_at {l : List Int} {k : Nat} {x : Int} (h : l[k]? = some x) : wk l k = x := by unfold wk; simp [h]

end Go.Proofs.Ytmbkjgfnnpopgaa
