/- edictlaw13.AgendaIndexes returns true at every two numbers. -/
import Derived.Test.YtocilbleboglbaaAgIndex
namespace Go.Proofs.Ytocilbleboglbaa
set_option linter.unusedSimpArgs false
set_option linter.unusedVariables false
open Go.RowKit

theorem div_in {k n : Int} (hk : I64 k) (hp : 0 < n) : I64 (k.tdiv n) ∧ I64 (k.tdiv n * n) ∧ k - k.tdiv n * n = k.tmod n := by
  unfold I64 at *
  have e := Int.tmod_add_mul_tdiv k n
  rw [Int.mul_comm] at e
  have h1 := Int.tmod_lt_of_pos k hp
  have h2 : -n < k.tmod n := Int.lt_tmod_of_pos k hp
  have a1 := Int.natAbs_tdiv_le_natAbs k n
  have hm : (0 ≤ k → 0 ≤ k.tmod n) ∧ (k ≤ 0 → k.tmod n ≤ 0) := ⟨fun h => Int.tmod_nonneg n h, fun h => by
    have := Int.tmod_nonneg n (a := -k) (by omega); rw [Int.neg_tmod] at this; omega⟩
  have hs : k ≤ 0 → k.tdiv n ≤ 0 := fun h => by
    have := Int.tdiv_nonneg (a := -k) (b := n) (by omega) (by omega); rw [Int.neg_tdiv] at this; omega
  refine ⟨by omega, ?_, by omega⟩
  generalize k.tdiv n * n = q at *
  by_cases h0 : 0 ≤ k
  · have b1 : 0 ≤ q := by
      have := hm.1 h0
      have := Int.tmod_lt_of_pos k hp
      by_cases hk2 : k < n
      · have := Int.tmod_eq_of_lt h0 hk2; omega
      · omega
    have := hm.1 h0
    omega
  · have b1 : q ≤ 0 := by
      have := hm.2 (by omega)
      by_cases hk2 : -k < n
      · have h3 := Int.tmod_eq_of_lt (a := -k) (b := n) (by omega) hk2
        rw [Int.neg_tmod] at h3; omega
      · omega
    have := hm.2 (by omega)
    omega

set_option maxHeartbeats 1000000 in
theorem rindex_any {k n : Int} (hk : I64 k) (hn : I64 n) (w : World) :
    Calls Try.prog 6 #[.int .i64 k, .int .i64 n] w fun e w' => e = .returned (.int .i64 (idxP k n)) ∧ w' = w := by
  by_cases hp : n ≤ 0
  · have HE : Hid (idxP k n = 0) := by show _ = _; unfold idxP; rw [if_pos hp]
    unfold I64 at hk hn
    go_enter Try.func6, Try.ntmps6
    go_wp2
    go_ret
    exact ⟨by rw [HE.out]; rfl, rfl⟩
  · have HE : Hid (idxP k n = k % n) := by show _ = _; unfold idxP; rw [if_neg hp]
    have hp0 : 0 < n := by omega
    obtain ⟨d1, d2, d3⟩ := div_in hk hp0
    have h1 := Int.tmod_lt_of_pos k hp0
    have h2 : -n < k.tmod n := Int.lt_tmod_of_pos k hp0
    have hn0 : n ≠ 0 := by omega
    have HM := hide (idx_tmod (k := k) hp0)
    have HD := hide d3
    unfold I64 at hk hn d1 d2
    rw [← d3] at h1 h2
    by_cases hr : k - k.tdiv n * n < 0
    · have HR : Hid (k - k.tdiv n * n + n = idxP k n) := by show _ = _; rw [HE.out, HD.out]; rw [HD.out] at hr; exact HM.out.1 hr
      clear d3
      go_enter Try.func6, Try.ntmps6
      go_wp2
      go_ret
      exact ⟨by rw [← HR.out]; rfl, rfl⟩
    · have HR : Hid (k - k.tdiv n * n = idxP k n) := by show _ = _; rw [HE.out, HD.out]; rw [HD.out] at hr; exact HM.out.2 hr
      clear d3
      go_enter Try.func6, Try.ntmps6
      go_wp2
      go_ret
      exact ⟨by rw [← HR.out]; rfl, rfl⟩

set_option maxHeartbeats 1000000 in
theorem agendaIndexes_walk (k n : Int) (w : World) (hk : -9223372036854775808 ≤ k ∧ k ≤ 9223372036854775807) (hn : -9223372036854775808 ≤ n ∧ n ≤ 9223372036854775807) :
    Calls Try.prog 4 #[.int .i64 k, .int .i64 n] w fun e w' => e = .returned (.bool true) ∧ Below w.heap.size w w' := by
  have H1 := hide (index_any hk hn w)
  have H2 := hide (rindex_any hk hn w)
  generalize idxP k n = z at *
  clear hk hn
  go_enter Try.func4, Try.ntmps4
  go_wp2_with (first
    | (go_at_call 5; refine H1.out.mono ?_; rintro e w2 ⟨rfl, hw⟩; have hw := hw.symm; subst hw)
    | (go_at_call 6; refine H2.out.mono ?_; rintro e w2 ⟨rfl, hw⟩; have hw := hw.symm; subst hw))
  go_ret
  exact ⟨rfl, Below.refl _ _⟩
end Go.Proofs.Ytocilbleboglbaa
