/- The law of powers: its walk. -/
import Derived.Test.YtiacdadgnofhjaaLawAddIs
namespace Go.Proofs.Ytiacdadgnofhjaa
set_option linter.unusedSimpArgs false
set_option linter.unusedVariables false
open Go.RowKit

theorem bpow_is {x n z : Nat} (h : cutN (x ^ n) = z) (hx : U x) (hn : U n) (w : World) :
    Calls Try.prog 11 #[.int .u64 x, .int .u64 n] w fun e w' => e = .returned (.int .u64 (z : Int)) ∧ w' = w := by
  subst h
  exact bpow_any hx hn w
theorem bpow_0 {x : Nat} (hx : U x) (w : World) : Calls Try.prog 11 #[.int .u64 x, .int .u64 0] w fun e w' => e = .returned (.int .u64 1) ∧ w' = w :=
  bpow_is (n := 0) (z := 1) (by rw [Nat.pow_zero]; rfl) hx (by decide) w
theorem bpow_1 {x : Nat} (hx : U x) (w : World) : Calls Try.prog 11 #[.int .u64 x, .int .u64 1] w fun e w' => e = .returned (.int .u64 (x : Int)) ∧ w' = w :=
  bpow_is (n := 1) (z := x) (by rw [Nat.pow_one]; exact cutN_of hx) hx (by decide) w

set_option maxRecDepth 100000 in
set_option maxHeartbeats 2000000 in
theorem powIs_core {a m n pm pn m1 p1 s ps t pt : Nat} (w : World) (ha : Hid (U a)) (hm : Hid (U m)) (hn : Hid (U n)) (hpm : Hid (U pm)) (hpn : Hid (U pn)) (hs : Hid (U s)) (ht : Hid (U t)) (hm1 : Hid (U m1))
    (q1 : Hid (cutN (a ^ m) = pm)) (q2 : Hid (cutN (a ^ n) = pn)) (q3 : Hid (m < 18446744073709551615 → cutN (a ^ m1) = p1 ∧ cutN (a * pm) = p1))
    (q4 : Hid ((m : Int) ≤ 18446744073709551615 - (n : Int) → cutN (a ^ s) = ps ∧ cutN (pm * pn) = ps)) (q5 : Hid ((m : Int) ≤ 18446744073709551615 / (n : Int) → cutN (a ^ t) = pt ∧ cutN (pm ^ n) = pt))
    (e1 : Hid (m < 18446744073709551615 → (m : Int) + 1 = (m1 : Int) ∧ IntKind.u64.wrap ((m : Int) + 1) = (m1 : Int))) (e2 : IntKind.u64.wrap ((m : Int) + (n : Int)) = (s : Int)) (e3 : IntKind.u64.wrap ((m : Int) * (n : Int)) = (t : Int)) :
    Calls Try.prog 4 #[.int .u64 a, .int .u64 m, .int .u64 n] w fun e w' => e = .returned (.bool true) ∧ Below w.heap.size w w' := by
  have e4 : IntKind.u64.wrap (18446744073709551615 - (n : Int)) = 18446744073709551615 - (n : Int) := by rw [IntKind.wrap_u64]; have := hn.out; unfold U at this; omega
  by_cases c1 : ((m : Int) < 18446744073709551615)
  · have Q3 := hide (q3.out (by omega))
    have e12 := (e1.out (by omega)).2
    have d1 : ((m : Int) < 18446744073709551615) = True := eq_true c1
    clear c1 e1 q3
    by_cases c2 : ((m : Int) ≤ 18446744073709551615 - (n : Int))
    · have Q4 := hide (q4.out c2)
      have d2 : ((m : Int) ≤ 18446744073709551615 - (n : Int)) = True := eq_true c2
      clear c2 q4
      by_cases c3 : 0 < n
      · have c3' : (n : Int) ≠ 0 := by omega
        have d3 : (0 < n) = True := eq_true c3
        clear c3
        by_cases c4 : ((m : Int) ≤ 18446744073709551615 / (n : Int))
        · have Q5 := hide (q5.out c4)
          have d4 : ((m : Int) ≤ 18446744073709551615 / (n : Int)) = True := eq_true c4
          clear c4 q5
          go_enter Try.func4, Try.ntmps4
          go_wp2_with (first
            | (go_at_call 11; (first
                | with_reducible refine (bpow_0 ha.out _).mono ?_
                | with_reducible refine (bpow_1 ha.out _).mono ?_
                | with_reducible refine (bpow_is (by first | with_reducible exact q1.out | with_reducible exact q2.out | with_reducible exact Q3.out.1 | with_reducible exact Q4.out.1 | with_reducible exact Q5.out.1 | with_reducible exact Q5.out.2) (by first | with_reducible exact ha.out | with_reducible exact hpm.out) (by first | with_reducible exact hm.out | with_reducible exact hn.out | with_reducible exact hm1.out | with_reducible exact hs.out | with_reducible exact ht.out) _).mono ?_); rintro e w2 ⟨rfl, hw⟩; have hw := hw.symm; subst hw)
            | (go_at_call 12; with_reducible refine (bmul_is (by first | with_reducible exact Q3.out.2 | with_reducible exact Q4.out.2) (by first | with_reducible exact ha.out | with_reducible exact hpm.out) (by first | with_reducible exact hpm.out | with_reducible exact hpn.out) _).mono ?_; rintro e w2 ⟨rfl, hw⟩; have hw := hw.symm; subst hw))
          go_ret
          exact ⟨rfl, Below.refl _ _⟩
        · have d4 : ((m : Int) ≤ 18446744073709551615 / (n : Int)) = False := eq_false c4
          clear c4 q5
          go_enter Try.func4, Try.ntmps4
          go_wp2_with (first
            | (go_at_call 11; (first
                | with_reducible refine (bpow_0 ha.out _).mono ?_
                | with_reducible refine (bpow_1 ha.out _).mono ?_
                | with_reducible refine (bpow_is (by first | with_reducible exact q1.out | with_reducible exact q2.out | with_reducible exact Q3.out.1 | with_reducible exact Q4.out.1 | with_reducible exact Q5.out.1 | with_reducible exact Q5.out.2) (by first | with_reducible exact ha.out | with_reducible exact hpm.out) (by first | with_reducible exact hm.out | with_reducible exact hn.out | with_reducible exact hm1.out | with_reducible exact hs.out | with_reducible exact ht.out) _).mono ?_); rintro e w2 ⟨rfl, hw⟩; have hw := hw.symm; subst hw)
            | (go_at_call 12; with_reducible refine (bmul_is (by first | with_reducible exact Q3.out.2 | with_reducible exact Q4.out.2) (by first | with_reducible exact ha.out | with_reducible exact hpm.out) (by first | with_reducible exact hpm.out | with_reducible exact hpn.out) _).mono ?_; rintro e w2 ⟨rfl, hw⟩; have hw := hw.symm; subst hw))
          go_ret
          exact ⟨rfl, Below.refl _ _⟩
      · have d3 : (0 < n) = False := eq_false c3
        clear c3 q5
        go_enter Try.func4, Try.ntmps4
        go_wp2_with (first
          | (go_at_call 11; (first
              | with_reducible refine (bpow_0 ha.out _).mono ?_
              | with_reducible refine (bpow_1 ha.out _).mono ?_
              | with_reducible refine (bpow_is (by first | with_reducible exact q1.out | with_reducible exact q2.out | with_reducible exact Q3.out.1 | with_reducible exact Q4.out.1 | with_reducible exact Q5.out.1 | with_reducible exact Q5.out.2) (by first | with_reducible exact ha.out | with_reducible exact hpm.out) (by first | with_reducible exact hm.out | with_reducible exact hn.out | with_reducible exact hm1.out | with_reducible exact hs.out | with_reducible exact ht.out) _).mono ?_); rintro e w2 ⟨rfl, hw⟩; have hw := hw.symm; subst hw)
          | (go_at_call 12; with_reducible refine (bmul_is (by first | with_reducible exact Q3.out.2 | with_reducible exact Q4.out.2) (by first | with_reducible exact ha.out | with_reducible exact hpm.out) (by first | with_reducible exact hpm.out | with_reducible exact hpn.out) _).mono ?_; rintro e w2 ⟨rfl, hw⟩; have hw := hw.symm; subst hw))
        go_ret
        exact ⟨rfl, Below.refl _ _⟩
    · have d2 : ((m : Int) ≤ 18446744073709551615 - (n : Int)) = False := eq_false c2
      clear c2 q4
      by_cases c3 : 0 < n
      · have c3' : (n : Int) ≠ 0 := by omega
        have d3 : (0 < n) = True := eq_true c3
        clear c3
        by_cases c4 : ((m : Int) ≤ 18446744073709551615 / (n : Int))
        · have Q5 := hide (q5.out c4)
          have d4 : ((m : Int) ≤ 18446744073709551615 / (n : Int)) = True := eq_true c4
          clear c4 q5
          go_enter Try.func4, Try.ntmps4
          go_wp2_with (first
            | (go_at_call 11; (first
                | with_reducible refine (bpow_0 ha.out _).mono ?_
                | with_reducible refine (bpow_1 ha.out _).mono ?_
                | with_reducible refine (bpow_is (by first | with_reducible exact q1.out | with_reducible exact q2.out | with_reducible exact Q3.out.1 | with_reducible exact Q4.out.1 | with_reducible exact Q5.out.1 | with_reducible exact Q5.out.2) (by first | with_reducible exact ha.out | with_reducible exact hpm.out) (by first | with_reducible exact hm.out | with_reducible exact hn.out | with_reducible exact hm1.out | with_reducible exact hs.out | with_reducible exact ht.out) _).mono ?_); rintro e w2 ⟨rfl, hw⟩; have hw := hw.symm; subst hw)
            | (go_at_call 12; with_reducible refine (bmul_is (by first | with_reducible exact Q3.out.2 | with_reducible exact Q4.out.2) (by first | with_reducible exact ha.out | with_reducible exact hpm.out) (by first | with_reducible exact hpm.out | with_reducible exact hpn.out) _).mono ?_; rintro e w2 ⟨rfl, hw⟩; have hw := hw.symm; subst hw))
          go_ret
          exact ⟨rfl, Below.refl _ _⟩
        · have d4 : ((m : Int) ≤ 18446744073709551615 / (n : Int)) = False := eq_false c4
          clear c4 q5
          go_enter Try.func4, Try.ntmps4
          go_wp2_with (first
            | (go_at_call 11; (first
                | with_reducible refine (bpow_0 ha.out _).mono ?_
                | with_reducible refine (bpow_1 ha.out _).mono ?_
                | with_reducible refine (bpow_is (by first | with_reducible exact q1.out | with_reducible exact q2.out | with_reducible exact Q3.out.1 | with_reducible exact Q4.out.1 | with_reducible exact Q5.out.1 | with_reducible exact Q5.out.2) (by first | with_reducible exact ha.out | with_reducible exact hpm.out) (by first | with_reducible exact hm.out | with_reducible exact hn.out | with_reducible exact hm1.out | with_reducible exact hs.out | with_reducible exact ht.out) _).mono ?_); rintro e w2 ⟨rfl, hw⟩; have hw := hw.symm; subst hw)
            | (go_at_call 12; with_reducible refine (bmul_is (by first | with_reducible exact Q3.out.2 | with_reducible exact Q4.out.2) (by first | with_reducible exact ha.out | with_reducible exact hpm.out) (by first | with_reducible exact hpm.out | with_reducible exact hpn.out) _).mono ?_; rintro e w2 ⟨rfl, hw⟩; have hw := hw.symm; subst hw))
          go_ret
          exact ⟨rfl, Below.refl _ _⟩
      · have d3 : (0 < n) = False := eq_false c3
        clear c3 q5
        go_enter Try.func4, Try.ntmps4
        go_wp2_with (first
          | (go_at_call 11; (first
              | with_reducible refine (bpow_0 ha.out _).mono ?_
              | with_reducible refine (bpow_1 ha.out _).mono ?_
              | with_reducible refine (bpow_is (by first | with_reducible exact q1.out | with_reducible exact q2.out | with_reducible exact Q3.out.1 | with_reducible exact Q4.out.1 | with_reducible exact Q5.out.1 | with_reducible exact Q5.out.2) (by first | with_reducible exact ha.out | with_reducible exact hpm.out) (by first | with_reducible exact hm.out | with_reducible exact hn.out | with_reducible exact hm1.out | with_reducible exact hs.out | with_reducible exact ht.out) _).mono ?_); rintro e w2 ⟨rfl, hw⟩; have hw := hw.symm; subst hw)
          | (go_at_call 12; with_reducible refine (bmul_is (by first | with_reducible exact Q3.out.2 | with_reducible exact Q4.out.2) (by first | with_reducible exact ha.out | with_reducible exact hpm.out) (by first | with_reducible exact hpm.out | with_reducible exact hpn.out) _).mono ?_; rintro e w2 ⟨rfl, hw⟩; have hw := hw.symm; subst hw))
        go_ret
        exact ⟨rfl, Below.refl _ _⟩
  · have d1 : ((m : Int) < 18446744073709551615) = False := eq_false c1
    clear c1 e1 q3
    by_cases c2 : ((m : Int) ≤ 18446744073709551615 - (n : Int))
    · have Q4 := hide (q4.out c2)
      have d2 : ((m : Int) ≤ 18446744073709551615 - (n : Int)) = True := eq_true c2
      clear c2 q4
      by_cases c3 : 0 < n
      · have c3' : (n : Int) ≠ 0 := by omega
        have d3 : (0 < n) = True := eq_true c3
        clear c3
        by_cases c4 : ((m : Int) ≤ 18446744073709551615 / (n : Int))
        · have Q5 := hide (q5.out c4)
          have d4 : ((m : Int) ≤ 18446744073709551615 / (n : Int)) = True := eq_true c4
          clear c4 q5
          go_enter Try.func4, Try.ntmps4
          go_wp2_with (first
            | (go_at_call 11; (first
                | with_reducible refine (bpow_0 ha.out _).mono ?_
                | with_reducible refine (bpow_1 ha.out _).mono ?_
                | with_reducible refine (bpow_is (by first | with_reducible exact q1.out | with_reducible exact q2.out | with_reducible exact Q3.out.1 | with_reducible exact Q4.out.1 | with_reducible exact Q5.out.1 | with_reducible exact Q5.out.2) (by first | with_reducible exact ha.out | with_reducible exact hpm.out) (by first | with_reducible exact hm.out | with_reducible exact hn.out | with_reducible exact hm1.out | with_reducible exact hs.out | with_reducible exact ht.out) _).mono ?_); rintro e w2 ⟨rfl, hw⟩; have hw := hw.symm; subst hw)
            | (go_at_call 12; with_reducible refine (bmul_is (by first | with_reducible exact Q3.out.2 | with_reducible exact Q4.out.2) (by first | with_reducible exact ha.out | with_reducible exact hpm.out) (by first | with_reducible exact hpm.out | with_reducible exact hpn.out) _).mono ?_; rintro e w2 ⟨rfl, hw⟩; have hw := hw.symm; subst hw))
          go_ret
          exact ⟨rfl, Below.refl _ _⟩
        · have d4 : ((m : Int) ≤ 18446744073709551615 / (n : Int)) = False := eq_false c4
          clear c4 q5
          go_enter Try.func4, Try.ntmps4
          go_wp2_with (first
            | (go_at_call 11; (first
                | with_reducible refine (bpow_0 ha.out _).mono ?_
                | with_reducible refine (bpow_1 ha.out _).mono ?_
                | with_reducible refine (bpow_is (by first | with_reducible exact q1.out | with_reducible exact q2.out | with_reducible exact Q3.out.1 | with_reducible exact Q4.out.1 | with_reducible exact Q5.out.1 | with_reducible exact Q5.out.2) (by first | with_reducible exact ha.out | with_reducible exact hpm.out) (by first | with_reducible exact hm.out | with_reducible exact hn.out | with_reducible exact hm1.out | with_reducible exact hs.out | with_reducible exact ht.out) _).mono ?_); rintro e w2 ⟨rfl, hw⟩; have hw := hw.symm; subst hw)
            | (go_at_call 12; with_reducible refine (bmul_is (by first | with_reducible exact Q3.out.2 | with_reducible exact Q4.out.2) (by first | with_reducible exact ha.out | with_reducible exact hpm.out) (by first | with_reducible exact hpm.out | with_reducible exact hpn.out) _).mono ?_; rintro e w2 ⟨rfl, hw⟩; have hw := hw.symm; subst hw))
          go_ret
          exact ⟨rfl, Below.refl _ _⟩
      · have d3 : (0 < n) = False := eq_false c3
        clear c3 q5
        go_enter Try.func4, Try.ntmps4
        go_wp2_with (first
          | (go_at_call 11; (first
              | with_reducible refine (bpow_0 ha.out _).mono ?_
              | with_reducible refine (bpow_1 ha.out _).mono ?_
              | with_reducible refine (bpow_is (by first | with_reducible exact q1.out | with_reducible exact q2.out | with_reducible exact Q3.out.1 | with_reducible exact Q4.out.1 | with_reducible exact Q5.out.1 | with_reducible exact Q5.out.2) (by first | with_reducible exact ha.out | with_reducible exact hpm.out) (by first | with_reducible exact hm.out | with_reducible exact hn.out | with_reducible exact hm1.out | with_reducible exact hs.out | with_reducible exact ht.out) _).mono ?_); rintro e w2 ⟨rfl, hw⟩; have hw := hw.symm; subst hw)
          | (go_at_call 12; with_reducible refine (bmul_is (by first | with_reducible exact Q3.out.2 | with_reducible exact Q4.out.2) (by first | with_reducible exact ha.out | with_reducible exact hpm.out) (by first | with_reducible exact hpm.out | with_reducible exact hpn.out) _).mono ?_; rintro e w2 ⟨rfl, hw⟩; have hw := hw.symm; subst hw))
        go_ret
        exact ⟨rfl, Below.refl _ _⟩
    · have d2 : ((m : Int) ≤ 18446744073709551615 - (n : Int)) = False := eq_false c2
      clear c2 q4
      by_cases c3 : 0 < n
      · have c3' : (n : Int) ≠ 0 := by omega
        have d3 : (0 < n) = True := eq_true c3
        clear c3
        by_cases c4 : ((m : Int) ≤ 18446744073709551615 / (n : Int))
        · have Q5 := hide (q5.out c4)
          have d4 : ((m : Int) ≤ 18446744073709551615 / (n : Int)) = True := eq_true c4
          clear c4 q5
          go_enter Try.func4, Try.ntmps4
          go_wp2_with (first
            | (go_at_call 11; (first
                | with_reducible refine (bpow_0 ha.out _).mono ?_
                | with_reducible refine (bpow_1 ha.out _).mono ?_
                | with_reducible refine (bpow_is (by first | with_reducible exact q1.out | with_reducible exact q2.out | with_reducible exact Q3.out.1 | with_reducible exact Q4.out.1 | with_reducible exact Q5.out.1 | with_reducible exact Q5.out.2) (by first | with_reducible exact ha.out | with_reducible exact hpm.out) (by first | with_reducible exact hm.out | with_reducible exact hn.out | with_reducible exact hm1.out | with_reducible exact hs.out | with_reducible exact ht.out) _).mono ?_); rintro e w2 ⟨rfl, hw⟩; have hw := hw.symm; subst hw)
            | (go_at_call 12; with_reducible refine (bmul_is (by first | with_reducible exact Q3.out.2 | with_reducible exact Q4.out.2) (by first | with_reducible exact ha.out | with_reducible exact hpm.out) (by first | with_reducible exact hpm.out | with_reducible exact hpn.out) _).mono ?_; rintro e w2 ⟨rfl, hw⟩; have hw := hw.symm; subst hw))
          go_ret
          exact ⟨rfl, Below.refl _ _⟩
        · have d4 : ((m : Int) ≤ 18446744073709551615 / (n : Int)) = False := eq_false c4
          clear c4 q5
          go_enter Try.func4, Try.ntmps4
          go_wp2_with (first
            | (go_at_call 11; (first
                | with_reducible refine (bpow_0 ha.out _).mono ?_
                | with_reducible refine (bpow_1 ha.out _).mono ?_
                | with_reducible refine (bpow_is (by first | with_reducible exact q1.out | with_reducible exact q2.out | with_reducible exact Q3.out.1 | with_reducible exact Q4.out.1 | with_reducible exact Q5.out.1 | with_reducible exact Q5.out.2) (by first | with_reducible exact ha.out | with_reducible exact hpm.out) (by first | with_reducible exact hm.out | with_reducible exact hn.out | with_reducible exact hm1.out | with_reducible exact hs.out | with_reducible exact ht.out) _).mono ?_); rintro e w2 ⟨rfl, hw⟩; have hw := hw.symm; subst hw)
            | (go_at_call 12; with_reducible refine (bmul_is (by first | with_reducible exact Q3.out.2 | with_reducible exact Q4.out.2) (by first | with_reducible exact ha.out | with_reducible exact hpm.out) (by first | with_reducible exact hpm.out | with_reducible exact hpn.out) _).mono ?_; rintro e w2 ⟨rfl, hw⟩; have hw := hw.symm; subst hw))
          go_ret
          exact ⟨rfl, Below.refl _ _⟩
      · have d3 : (0 < n) = False := eq_false c3
        clear c3 q5
        go_enter Try.func4, Try.ntmps4
        go_wp2_with (first
          | (go_at_call 11; (first
              | with_reducible refine (bpow_0 ha.out _).mono ?_
              | with_reducible refine (bpow_1 ha.out _).mono ?_
              | with_reducible refine (bpow_is (by first | with_reducible exact q1.out | with_reducible exact q2.out | with_reducible exact Q3.out.1 | with_reducible exact Q4.out.1 | with_reducible exact Q5.out.1 | with_reducible exact Q5.out.2) (by first | with_reducible exact ha.out | with_reducible exact hpm.out) (by first | with_reducible exact hm.out | with_reducible exact hn.out | with_reducible exact hm1.out | with_reducible exact hs.out | with_reducible exact ht.out) _).mono ?_); rintro e w2 ⟨rfl, hw⟩; have hw := hw.symm; subst hw)
          | (go_at_call 12; with_reducible refine (bmul_is (by first | with_reducible exact Q3.out.2 | with_reducible exact Q4.out.2) (by first | with_reducible exact ha.out | with_reducible exact hpm.out) (by first | with_reducible exact hpm.out | with_reducible exact hpn.out) _).mono ?_; rintro e w2 ⟨rfl, hw⟩; have hw := hw.symm; subst hw))
        go_ret
        exact ⟨rfl, Below.refl _ _⟩

theorem boundPowIs_walk (a m n : Nat) (w : World) (ha : a < 18446744073709551616) (hm : m < 18446744073709551616) (hn : n < 18446744073709551616) :
    Calls Try.prog 4 #[.int .u64 a, .int .u64 m, .int .u64 n] w fun e w' => e = .returned (.bool true) ∧ Below w.heap.size w w' := by
  refine powIs_core (pm := cutN (a ^ m)) (pn := cutN (a ^ n)) (m1 := (m + 1) % 18446744073709551616) (p1 := cutN (a ^ (m + 1))) (s := (m + n) % 18446744073709551616) (ps := cutN (a ^ (m + n))) (t := m * n % 18446744073709551616) (pt := cutN (a ^ (m * n))) w ha hm hn (cutN_lt _) (cutN_lt _) (Nat.mod_lt _ (by decide)) (Nat.mod_lt _ (by decide)) (Nat.mod_lt _ (by decide)) rfl rfl (fun h => ?_) (fun h => ?_) (fun h => ?_) (fun h => ?_) ?_ ?_
  · rw [Nat.mod_eq_of_lt (by omega), cutN_mul', Nat.pow_succ, Nat.mul_comm]
    exact ⟨rfl, rfl⟩
  · rw [Nat.mod_eq_of_lt (by omega), cutN_mul2, Nat.pow_add]
    exact ⟨rfl, rfl⟩
  · rcases Nat.eq_zero_or_pos n with h0 | h0
    · subst h0
      rw [Nat.mul_zero, Nat.pow_zero, Nat.pow_zero]
      exact ⟨rfl, rfl⟩
    · have e : (18446744073709551615 : Int) / (n : Int) = ((18446744073709551615 / n : Nat) : Int) := rfl
      rw [e] at h
      have h2 : m ≤ 18446744073709551615 / n := by omega
      have h3 := (Nat.le_div_iff_mul_le h0).1 h2
      rw [Nat.mod_eq_of_lt (by omega), cutN_pow1, Nat.pow_mul]
      exact ⟨rfl, rfl⟩
  · rw [Nat.mod_eq_of_lt (by omega), IntKind.wrap_u64]
    omega
  · rw [IntKind.wrap_u64]; omega
  · rw [← Int.natCast_mul, IntKind.wrap_u64]; omega
end Go.Proofs.Ytiacdadgnofhjaa
