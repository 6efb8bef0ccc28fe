/- Lists of uint64 in memory. -/
import Derived.Test.YtidllcbagfhndaaBoundPure
import Derived.Test.YtidllcbagfhndaaPush
import Derived.Test.YtidllcbagfhndaaWellBase
import Derived.Test.YtidllcbagfhndaaProg
import Derived.Deep.RegionHeld3
import Derived.WalkKit
namespace Go.Proofs.Ytidllcbagfhndaa
set_option linter.unusedSimpArgs false
set_option linter.unusedVariables false
open Go.RowKit

def elU : El Nat where
  cells x := [.int .u64 (x : Int)]
  size := 1
  pos := by decide
  len _ := rfl
  ok _ _ x := x < 18446744073709551616
  one _ u hu := by simp only [List.mem_singleton] at hu; subst hu; rfl
  move h _ := h

theorem Try.infoU : (Try.prog.info? 22).map (fun i => (i.zero, i.size, i.bytes)) = some (some (.int .u64 0), 1, 8) := by kernel_rfl
end Go.Proofs.Ytidllcbagfhndaa
