/- The law's own mod. -/
import Derived.Test.YtidllcbagfhndaaOver
import Derived.Test.YtidllcbagfhndaaOrder
import Derived.Test.YtidllcbagfhndaaOpen
import Derived.Test.YtidllcbagfhndaaProg
import Derived.WalkKit
namespace Go.Proofs.Ytidllcbagfhndaa
set_option linter.unusedSimpArgs false
set_option linter.unusedVariables false
open Go.RowKit

theorem tmod_is (n k : Int) (hk : 0 < k) : (n.tmod k + k) % k = n % k := by
  rw [Int.add_emod_right, Int.tmod_eq_emod]
  split
  · simp
  · have e : (k.natAbs : Int) = k := by omega
    rw [e, Int.sub_emod, Int.emod_self, Int.sub_zero, Int.emod_emod_of_dvd _ (Int.dvd_refl k), Int.emod_emod_of_dvd _ (Int.dvd_refl k)]

set_option maxHeartbeats 1000000 in
theorem mod_any {n k : Int} (hn : I64 n) (hk : 0 < k) (hk2 : k ≤ 4611686018427387904) (w : World)  :
    Calls Try.prog 11 #[.int .i64 n, .int .i64 k] w fun e w' => e = .returned (.int .i64 (n % k)) ∧ w' = w := by
  have h1 := Int.tmod_lt_of_pos n hk
  have h2 : -k < n.tmod k := Int.lt_tmod_of_pos n hk
  have hk0 : k ≠ 0 := by omega
  have HE := hide (tmod_is n k hk)
  clear hn
  go_enter Try.func11, Try.ntmps11
  go_wp2
  go_ret
  exact ⟨by rw [← HE.out]; rfl, rfl⟩

end Go.Proofs.Ytidllcbagfhndaa
