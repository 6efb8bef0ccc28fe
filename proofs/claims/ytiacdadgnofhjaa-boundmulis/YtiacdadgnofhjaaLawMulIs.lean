/- The law of products: its walk. -/
import Derived.Test.YtiacdadgnofhjaaLawAddIs
namespace Go.Proofs.Ytiacdadgnofhjaa
set_option linter.unusedSimpArgs false
set_option linter.unusedVariables false
open Go.RowKit

set_option maxHeartbeats 1000000 in
theorem mulIs_core {a b c z s t x y : Nat} (w : World) (ha : Hid (U a)) (hb : Hid (U b)) (hc : Hid (U c)) (hz : Hid (U z)) (hs : Hid (U s)) (hy : Hid (U y))
    (q1 : Hid (cutN (a * b) = z)) (q2 : Hid (cutN (b * a) = z)) (q3 : Hid (cutN (b + c) = s)) (q4 : Hid (cutN (a * s) = t)) (q5 : Hid (cutN (a * c) = y)) (q6 : Hid (cutN (z + y) = t))
    (m : Nat) (hw : IntKind.u64.wrap ((a : Int) * (b : Int)) = (m : Int))
    (hq : (b = 0 ∧ z = m) ∨ (0 < b ∧ ((18446744073709551615 / (b : Int) < (a : Int) ∧ z = 18446744073709551615) ∨ (¬ 18446744073709551615 / (b : Int) < (a : Int) ∧ z = m)))) :
    Calls Try.prog 5 #[.int .u64 a, .int .u64 b, .int .u64 c] w fun e w' => e = .returned (.bool true) ∧ Below w.heap.size w w' := by
  rcases hq with ⟨hb0, rfl⟩ | ⟨hb0, ⟨hq, rfl⟩ | ⟨hq, rfl⟩⟩
  · have hb1 : ¬ 0 < b := by omega
    clear hb0
    go_enter Try.func5, Try.ntmps5
    go_wp2_with (first
      | (go_at_call 9; refine (badd_is (by first | exact q3.out | exact q6.out) (by first | exact hb.out | exact hz.out) (by first | exact hc.out | exact hy.out) _).mono ?_; rintro e w2 ⟨rfl, hw⟩; have hw := hw.symm; subst hw)
      | (go_at_call 12; refine (bmul_is (by first | exact q1.out | exact q2.out | exact q4.out | exact q5.out) (by first | exact ha.out | exact hb.out) (by first | exact ha.out | exact hb.out | exact hc.out | exact hs.out) _).mono ?_; rintro e w2 ⟨rfl, hw⟩; have hw := hw.symm; subst hw))
    go_ret
    exact ⟨rfl, Below.refl _ _⟩
  · have hb2 : (b : Int) ≠ 0 := by omega
    go_enter Try.func5, Try.ntmps5
    go_wp2_with (first
      | (go_at_call 9; refine (badd_is (by first | exact q3.out | exact q6.out) (by first | exact hb.out | exact hz.out) (by first | exact hc.out | exact hy.out) _).mono ?_; rintro e w2 ⟨rfl, hw⟩; have hw := hw.symm; subst hw)
      | (go_at_call 12; refine (bmul_is (by first | exact q1.out | exact q2.out | exact q4.out | exact q5.out) (by first | exact ha.out | exact hb.out) (by first | exact ha.out | exact hb.out | exact hc.out | exact hs.out) _).mono ?_; rintro e w2 ⟨rfl, hw⟩; have hw := hw.symm; subst hw))
    go_ret
    exact ⟨rfl, Below.refl _ _⟩
  · have hb2 : (b : Int) ≠ 0 := by omega
    go_enter Try.func5, Try.ntmps5
    go_wp2_with (first
      | (go_at_call 9; refine (badd_is (by first | exact q3.out | exact q6.out) (by first | exact hb.out | exact hz.out) (by first | exact hc.out | exact hy.out) _).mono ?_; rintro e w2 ⟨rfl, hw⟩; have hw := hw.symm; subst hw)
      | (go_at_call 12; refine (bmul_is (by first | exact q1.out | exact q2.out | exact q4.out | exact q5.out) (by first | exact ha.out | exact hb.out) (by first | exact ha.out | exact hb.out | exact hc.out | exact hs.out) _).mono ?_; rintro e w2 ⟨rfl, hw⟩; have hw := hw.symm; subst hw))
    go_ret
    exact ⟨rfl, Below.refl _ _⟩

theorem most_div {a b : Nat} (hb : 0 < b) : 18446744073709551615 / b < a ↔ 18446744073709551616 ≤ a * b := by
  rw [Nat.div_lt_iff_lt_mul hb]
  omega

theorem boundMulIs_walk (a b c : Nat) (w : World) (ha : a < 18446744073709551616) (hb : b < 18446744073709551616) (hc : c < 18446744073709551616) :
    Calls Try.prog 5 #[.int .u64 a, .int .u64 b, .int .u64 c] w fun e w' => e = .returned (.bool true) ∧ Below w.heap.size w w' := by
  refine mulIs_core (z := cutN (a * b)) (s := cutN (b + c)) (t := cutN (a * (b + c))) (x := 0) (y := cutN (a * c)) w ha hb hc (cutN_lt _) (cutN_lt _) (cutN_lt _) rfl ?_ rfl ?_ rfl ?_ (a * b % 18446744073709551616) ?_ ?_
  · show _ = _; rw [Nat.mul_comm]
  · exact cutN_mul' _ _
  · show _ = _; rw [cutN_add2, Nat.mul_add]
  · rw [← Int.natCast_mul, IntKind.wrap_u64]; omega
  · rcases Nat.eq_zero_or_pos b with h0 | h0
    · exact .inl ⟨h0, by subst h0; rfl⟩
    · refine .inr ⟨h0, ?_⟩
      have e : (18446744073709551615 : Int) / (b : Int) = ((18446744073709551615 / b : Nat) : Int) := rfl
      have hd := most_div (a := a) h0
      rw [e]
      generalize 18446744073709551615 / b = q at hd
      rcases Nat.lt_or_ge (a * b) 18446744073709551616 with h | h
      · exact .inr ⟨by omega, by rw [cutN_of h]; omega⟩
      · exact .inl ⟨by omega, cutN_top h⟩
end Go.Proofs.Ytiacdadgnofhjaa
