/- bound's Pow: powers, cut at the greatest uint64. -/
import Derived.Test.YtihkhnljjegopaaBoundBits
namespace Go.Proofs.Ytihkhnljjegopaa
set_option linter.unusedSimpArgs false
set_option linter.unusedVariables false
open Go.RowKit

theorem and_one9 (n : Nat) (hn : n < 18446744073709551616) : bits .and .u64 (n : Int) 1 = ((n % 2 : Nat) : Int) := by
  have h := bits_and_u64_nat n 1 hn (by omega)
  have e : n &&& 1 = n % 2 := Nat.and_two_pow_sub_one_eq_mod n 1
  rw [e] at h
  exact h

set_option maxHeartbeats 1000000 in
theorem bpow_any {a n : Nat} (ha : a < 18446744073709551616) (hn : n < 18446744073709551616) (w : World) :
    Calls Try.prog 12 #[.int .u64 a, .int .u64 n] w fun e w' => e = .returned (.int .u64 ((cutN (a ^ n) : Nat) : Int)) ∧ w' = w := by
  go_enter Try.func12, Try.ntmps12
  go_wp2
  go_loopw [1, 5, 6] (fun x y z wl => ∃ m p s : Nat, x = .int .u64 m ∧ y = .int .u64 p ∧ z = .int .u64 s ∧ Hid (m < 18446744073709551616 ∧ p < 18446744073709551616 ∧ s < 18446744073709551616) ∧ Hid (cutN (p * s ^ m) = cutN (a ^ n)) ∧ Hid (wl = w)) (fun x _ _ _ => (intOf x).toNat)
  case atStart => exact ⟨n, 1, a, rfl, rfl, rfl, ⟨hn, by omega, ha⟩, by show _ = _; rw [Nat.one_mul], rfl⟩
  case round =>
    obtain ⟨m, p, s, rfl, rfl, rfl, HL, HK, HW⟩ := hrel
    have HR := hide (pow_round p s m)
    have hb := and_one9 m HL.out.1
    by_cases h0 : m = 0
    · subst h0
      have HE : Hid (cutN (a ^ n) = p) := by
        show _ = _
        rw [← HK.out, Nat.pow_zero, Nat.mul_one]
        exact cutN_of HL.out.2.1
      go_wp2
      go_ret
      exact ⟨by rw [HE.out]; rfl, HW.out⟩
    · have hpos : decide ((0 : Int) < (m : Int)) = true := by simp; omega
      have hw := HW.out
      subst hw
      by_cases h1 : m % 2 = 1
      · rw [h1] at hb
        have HQ : Hid (cutN (cutN (p * s) * cutN (s * s) ^ (m / 2)) = cutN (a ^ n)) := by
          show _ = _
          have := HR.out
          rw [if_pos h1] at this
          rw [this]
          exact HK.out
        clear HR HK
        go_wp2_with (go_at_call 18; refine (bmul_any (by first | exact HL.out.2.1 | exact HL.out.2.2) HL.out.2.2 _).mono ?_; rintro e w2 ⟨rfl, hw⟩; have hw := hw.symm; subst hw)
        go_roundw
        case rel => exact ⟨m / 2, _, _, by go_num, rfl, rfl, ⟨by have := HL.out.1; omega, cutN_lt _, cutN_lt _⟩, HQ, trivial⟩
        case measure => simp [intOf]; omega
      · have h2 : m % 2 = 0 := by omega
        rw [h2] at hb
        have HQ : Hid (cutN (p * cutN (s * s) ^ (m / 2)) = cutN (a ^ n)) := by
          show _ = _
          have := HR.out
          rw [if_neg h1] at this
          rw [this]
          exact HK.out
        clear HR HK
        go_wp2_with (go_at_call 18; refine (bmul_any HL.out.2.2 HL.out.2.2 _).mono ?_; rintro e w2 ⟨rfl, hw⟩; have hw := hw.symm; subst hw)
        go_roundw
        case rel => exact ⟨m / 2, _, _, by go_num, rfl, rfl, ⟨by have := HL.out.1; omega, HL.out.2.1, cutN_lt _⟩, HQ, trivial⟩
        case measure => simp [intOf]; omega
end Go.Proofs.Ytihkhnljjegopaa
