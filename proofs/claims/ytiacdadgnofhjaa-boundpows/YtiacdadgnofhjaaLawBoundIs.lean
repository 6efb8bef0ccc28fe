/- The laws of sums and products: their walks. -/
import Derived.Test.YtiacdadgnofhjaaRefBound
import Derived.Test.YtiacdadgnofhjaaBoundPow
namespace Go.Proofs.Ytiacdadgnofhjaa
set_option linter.unusedSimpArgs false
set_option linter.unusedVariables false
open Go.RowKit

set_option maxHeartbeats 1000000 in
theorem boundAdds_walk (a b : Nat) (w : World) (ha : a < 18446744073709551616) (hb : b < 18446744073709551616) :
    Calls Try.prog 6 #[.int .u64 a, .int .u64 b] w fun e w' => e = .returned (.bool true) ∧ Below w.heap.size w w' := by
  have H1 := hide (badd_any ha hb w)
  have H2 := hide (radd_any ha hb w)
  obtain ⟨z, hz⟩ : ∃ z, cutN (a + b) = z := ⟨_, rfl⟩
  rw [hz] at H1 H2
  clear ha hb hz
  go_enter Try.func6, Try.ntmps6
  go_wp2_with (first
    | (go_at_call 9; refine H1.out.mono ?_; rintro e w2 ⟨rfl, hw⟩; have hw := hw.symm; subst hw)
    | (go_at_call 13; refine H2.out.mono ?_; rintro e w2 ⟨rfl, hb⟩; have B2 := hide hb; clear hb))
  go_ret
  exact ⟨rfl, B2.out⟩
set_option maxHeartbeats 1000000 in
theorem boundMuls_walk (a b : Nat) (w : World) (ha : a < 18446744073709551616) (hb : b < 18446744073709551616) :
    Calls Try.prog 7 #[.int .u64 a, .int .u64 b] w fun e w' => e = .returned (.bool true) ∧ Below w.heap.size w w' := by
  have H1 := hide (bmul_any ha hb w)
  have H2 := hide (rmul_any ha hb w)
  obtain ⟨z, hz⟩ : ∃ z, cutN (a * b) = z := ⟨_, rfl⟩
  rw [hz] at H1 H2
  clear ha hb hz
  go_enter Try.func7, Try.ntmps7
  go_wp2_with (first
    | (go_at_call 12; refine H1.out.mono ?_; rintro e w2 ⟨rfl, hw⟩; have hw := hw.symm; subst hw)
    | (go_at_call 14; refine H2.out.mono ?_; rintro e w2 ⟨rfl, hb⟩; have B2 := hide hb; clear hb))
  go_ret
  exact ⟨rfl, B2.out⟩
set_option maxHeartbeats 1000000 in
theorem boundPows_walk (a b : Nat) (w : World) (ha : a < 18446744073709551616) (hb : b < 18446744073709551616) :
    Calls Try.prog 8 #[.int .u64 a, .int .u64 b] w fun e w' => e = .returned (.bool true) ∧ Below w.heap.size w w' := by
  have H1 := hide (bpow_any ha hb w)
  have H2 := hide (rpow_any ha hb w)
  obtain ⟨z, hz⟩ : ∃ z, cutN (a ^ b) = z := ⟨_, rfl⟩
  rw [hz] at H1 H2
  clear ha hb hz
  go_enter Try.func8, Try.ntmps8
  go_wp2_with (first
    | (go_at_call 11; refine H1.out.mono ?_; rintro e w2 ⟨rfl, hw⟩; have hw := hw.symm; subst hw)
    | (go_at_call 15; refine H2.out.mono ?_; rintro e w2 ⟨rfl, hb⟩; have B2 := hide hb; clear hb))
  go_ret
  exact ⟨rfl, B2.out⟩
end Go.Proofs.Ytiacdadgnofhjaa
