/- edictlaw13.AgendaModulo returns true at every two numbers. -/
import Derived.Test.YtocilbleboglbaaAgIndex
namespace Go.Proofs.Ytocilbleboglbaa
set_option linter.unusedSimpArgs false
set_option linter.unusedVariables false
open Go.RowKit

theorem idx_lit (w : World) : Calls Try.prog 5 #[.int .i64 5, .int .i64 3] w fun e w' => e = .returned (.int .i64 2) ∧ w' = w := index_any (by unfold I64; omega) (by unfold I64; omega) w
theorem idx_zero {k : Int} (hk : I64 k) (w : World) : Calls Try.prog 5 #[.int .i64 k, .int .i64 0] w fun e w' => e = .returned (.int .i64 0) ∧ w' = w := index_any hk (by unfold I64; omega) w
theorem idx_one {k : Int} (hk : I64 k) (w : World) : Calls Try.prog 5 #[.int .i64 k, .int .i64 1] w fun e w' => e = .returned (.int .i64 0) ∧ w' = w := by
  have := index_any hk (n := 1) (by unfold I64; omega) w
  rwa [show idxP k 1 = 0 by unfold idxP; rw [if_neg (by omega)]; omega] at this

set_option maxHeartbeats 2000000 in
theorem agendaModulo_walk (k n : Int) (w : World) (hk : -9223372036854775808 ≤ k ∧ k ≤ 9223372036854775807) (hn : -9223372036854775808 ≤ n ∧ n ≤ 9223372036854775807) :
    Calls Try.prog 3 #[.int .i64 k, .int .i64 n] w fun e w' => e = .returned (.bool true) ∧ Below w.heap.size w w' := by
  have H0 := hide (idx_lit w)
  have H1 := hide (idx_zero hk w)
  have H2 := hide (idx_one hk w)
  have H3 := hide (index_any hk hn w)
  by_cases hp : n ≤ 0
  · have e : idxP k n = 0 := by unfold idxP; rw [if_pos hp]
    rw [e] at H3
    clear e
    go_enter Try.func3, Try.ntmps3
    go_wp2_with (first
      | (go_at_call 5; refine H0.out.mono ?_; rintro e w2 ⟨rfl, hw⟩; have hw := hw.symm; subst hw; clear H0)
      | (go_at_call 5; refine H1.out.mono ?_; rintro e w2 ⟨rfl, hw⟩; have hw := hw.symm; subst hw; clear H1)
      | (go_at_call 5; refine H2.out.mono ?_; rintro e w2 ⟨rfl, hw⟩; have hw := hw.symm; subst hw; clear H2)
      | (go_at_call 5; refine H3.out.mono ?_; rintro e w2 ⟨rfl, hw⟩; have hw := hw.symm; subst hw; clear H3))
    go_ret
    exact ⟨rfl, Below.refl _ _⟩
  · have hp0 : 0 < n := by omega
    have e : idxP k n = k % n := by unfold idxP; rw [if_neg hp]
    rw [e] at H3
    have m1 := Int.emod_nonneg k (Int.ne_of_gt hp0)
    have m2 := Int.emod_lt_of_pos k hp0
    have H4 : Hid (k + n ≤ 9223372036854775807 → Calls Try.prog 5 #[.int .i64 (k + n), .int .i64 n] w fun e w' => e = .returned (.int .i64 (k % n)) ∧ w' = w) := fun h => by
      have := index_any (k := k + n) (n := n) (by unfold I64; omega) hn w
      rwa [show idxP (k + n) n = k % n by unfold idxP; rw [if_neg hp, Int.add_emod_right]] at this
    have H5 : Hid (-9223372036854775808 ≤ k - n → Calls Try.prog 5 #[.int .i64 (k - n), .int .i64 n] w fun e w' => e = .returned (.int .i64 (k % n)) ∧ w' = w) := fun h => by
      have := index_any (k := k - n) (n := n) (by unfold I64; omega) hn w
      rwa [show idxP (k - n) n = k % n by unfold idxP; rw [if_neg hp, Int.sub_emod_right]] at this
    have hs : 0 ≤ k → k < n → k % n = k := fun a b => Int.emod_eq_of_lt a b
    have HS := hide hs
    obtain ⟨m, hm⟩ : ∃ m, k % n = m := ⟨_, rfl⟩
    rw [hm] at m1 m2 H3 H4 H5 HS
    clear hm e hs
    have q0 : ¬ m < 0 := by omega
    have q1 : ¬ n ≤ m := by omega
    by_cases c1 : k ≤ 9223372036854775807 - n <;> by_cases c2 : k < -9223372036854775808 + n <;> by_cases c3 : 0 ≤ k <;> by_cases c4 : k < n
    all_goals first | (exfalso; omega) | skip
    all_goals (
      (try have H4 := hide (H4.out (by omega)))
      (try have H5 := hide (H5.out (by omega)))
      (try have hmk := HS.out (by omega) (by omega))
      (try subst hmk)
      go_enter Try.func3, Try.ntmps3
      go_wp2_with (first
        | (go_at_call 5; refine H0.out.mono ?_; rintro e w2 ⟨rfl, hw⟩; have hw := hw.symm; subst hw; clear H0)
        | (go_at_call 5; refine H1.out.mono ?_; rintro e w2 ⟨rfl, hw⟩; have hw := hw.symm; subst hw; clear H1)
        | (go_at_call 5; refine H2.out.mono ?_; rintro e w2 ⟨rfl, hw⟩; have hw := hw.symm; subst hw; clear H2)
        | (go_at_call 5; refine H3.out.mono ?_; rintro e w2 ⟨rfl, hw⟩; have hw := hw.symm; subst hw; clear H3)
        | (go_at_call 5; refine H4.out.mono ?_; rintro e w2 ⟨rfl, hw⟩; have hw := hw.symm; subst hw; clear H4)
        | (go_at_call 5; refine H5.out.mono ?_; rintro e w2 ⟨rfl, hw⟩; have hw := hw.symm; subst hw; clear H5))
      go_ret
      exact ⟨rfl, Below.refl _ _⟩)
end Go.Proofs.Ytocilbleboglbaa
