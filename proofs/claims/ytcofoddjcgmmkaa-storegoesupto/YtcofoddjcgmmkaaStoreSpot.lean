/- What (store.cells).spotAt answers. -/
import Derived.Test.YtcofoddjcgmmkaaProg
import Derived.Test.YtcofoddjcgmmkaaStoreKeys
import Derived.WalkSpells
import Derived.Deep.DeepCutAuto
import Derived.Deep.RegionHeld3
import Derived.WalkLawsBesides
namespace Go.Proofs.Ytcofoddjcgmmkaa
set_option linter.unusedSimpArgs false
set_option linter.unusedVariables false
open Go.RowKit Go.Maps

set_option maxRecDepth 100000 in
set_option maxHeartbeats 2000000 in
theorem spot_any (w : World) {c : List Int} (hc : c.length = 9) {k : Nat} {q x : Int} (hq : c[0]? = some q) (hx : c[1 + k]? = some x) (hk : k < 8) :
    Calls Try.prog 43 #[.agg (ints c).toArray, .int .i64 k] w fun e w' => e = .returned (.agg #[.int .i64 q, .int .i64 k, .int .i64 x]) ∧ Below w.heap.size w w' := by
  have hB : Below w.heap.size w ((w.alloc (.cells (ints c).toArray 56)).alloc (.cells #[.int .i64 q, .int .i64 k, .int .i64 x] 78)).drew := (((Below.refl _ w).alloc (Nat.le_refl _) _).alloc (by simp) _).drew
  have e0 : (ints c).toArray[0]? = some (.int .i64 q) := by simp [hq]
  have e1 : (ints c).toArray[1 + k]? = some (.int .i64 x) := by simp [hx]
  have h1 : (0 : Int) ≤ (k : Int) := by omega
  have h2 : (1 : Int) + (k : Int) < 9 := by omega
  have h3 : ((1 : Int) + (k : Int)).toNat = 1 + k := by omega
  have HB := hide hB
  clear hB hc hq hx
  go_enter Try.func43, Try.ntmps43
  go_upto_region 1 with fail
  go_region
  go_wp2
  exact bodyPost_ret (v := .agg #[.int .i64 q, .int .i64 k, .int .i64 x]) (by simp [results, Try.results43, go_sem]) rfl ⟨rfl, HB.out⟩
end Go.Proofs.Ytcofoddjcgmmkaa
