/- agenda.Index and the document's Index: the pick modulo n. -/
import Derived.Test.YtocilbleboglbaaOpen
import Derived.Test.YtocilbleboglbaaProg
import Derived.WalkKit
namespace Go.Proofs.Ytocilbleboglbaa
set_option linter.unusedSimpArgs false
set_option linter.unusedVariables false
open Go.RowKit

/-- The pick modulo n; 0 where n is none. -/
def idxP (k n : Int) : Int := if n ≤ 0 then 0 else k % n

theorem idx_tmod {k n : Int} (h : 0 < n) : (k.tmod n < 0 → k.tmod n + n = k % n) ∧ (¬ k.tmod n < 0 → k.tmod n = k % n) := by
  have h1 := Int.tmod_lt_of_pos k h
  have h2 : -n < k.tmod n := Int.lt_tmod_of_pos k h
  have h3 := Int.emod_nonneg k (Int.ne_of_gt h)
  have h4 := Int.emod_lt_of_pos k h
  have e := Int.tmod_eq_emod (a := k) (b := n)
  have en : (n.natAbs : Int) = n := by omega
  split at e
  · constructor <;> intro <;> omega
  · rw [en] at e
    constructor <;> intro <;> omega

set_option maxHeartbeats 1000000 in
theorem index_any {k n : Int} (hk : I64 k) (hn : I64 n) (w : World) :
    Calls Try.prog 5 #[.int .i64 k, .int .i64 n] w fun e w' => e = .returned (.int .i64 (idxP k n)) ∧ w' = w := by
  unfold I64 at hk hn
  by_cases hp : n ≤ 0
  · have HE : Hid (idxP k n = 0) := by show _ = _; unfold idxP; rw [if_pos hp]
    go_enter Try.func5, Try.ntmps5
    go_wp2
    go_ret
    exact ⟨by rw [HE.out]; rfl, rfl⟩
  · have HE : Hid (idxP k n = k % n) := by show _ = _; unfold idxP; rw [if_neg hp]
    have hp0 : 0 < n := by omega
    have h1 := Int.tmod_lt_of_pos k hp0
    have h2 : -n < k.tmod n := Int.lt_tmod_of_pos k hp0
    have hn0 : n ≠ 0 := by omega
    have HM := hide (idx_tmod (k := k) hp0)
    by_cases hr : k.tmod n < 0
    · have HR : Hid (k.tmod n + n = idxP k n) := by show _ = _; rw [HE.out]; exact HM.out.1 hr
      go_enter Try.func5, Try.ntmps5
      go_wp2
      go_ret
      exact ⟨by rw [← HR.out]; rfl, rfl⟩
    · have HR : Hid (k.tmod n = idxP k n) := by show _ = _; rw [HE.out]; exact HM.out.2 hr
      go_enter Try.func5, Try.ntmps5
      go_wp2
      go_ret
      exact ⟨by rw [← HR.out]; rfl, rfl⟩
end Go.Proofs.Ytocilbleboglbaa
