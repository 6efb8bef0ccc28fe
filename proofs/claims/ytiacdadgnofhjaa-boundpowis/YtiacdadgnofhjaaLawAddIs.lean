/- The law of sums: its walk. -/
import Derived.Test.YtiacdadgnofhjaaBoundPow
import Derived.Test.YtiacdadgnofhjaaBoundSum
namespace Go.Proofs.Ytiacdadgnofhjaa
set_option linter.unusedSimpArgs false
set_option linter.unusedVariables false
open Go.RowKit

abbrev U (n : Nat) : Prop := n < 18446744073709551616

theorem badd_is {x y z : Nat} (h : cutN (x + y) = z) (hx : U x) (hy : U y) (w : World) :
    Calls Try.prog 9 #[.int .u64 x, .int .u64 y] w fun e w' => e = .returned (.int .u64 (z : Int)) ∧ w' = w := by
  subst h
  exact badd_any hx hy w
theorem bmul_is {x y z : Nat} (h : cutN (x * y) = z) (hx : U x) (hy : U y) (w : World) :
    Calls Try.prog 12 #[.int .u64 x, .int .u64 y] w fun e w' => e = .returned (.int .u64 (z : Int)) ∧ w' = w := by
  subst h
  exact bmul_any hx hy w

set_option maxHeartbeats 1000000 in
theorem addIs_core {a b c z s t r : Nat} (w : World) (ha : Hid (U a)) (hb : Hid (U b)) (hc : Hid (U c)) (hz : Hid (U z)) (hs : Hid (U s)) (hr : Hid (U r))
    (q1 : Hid (cutN (a + b) = z)) (q2 : Hid (cutN (b + a) = z)) (q3 : Hid (cutN (z + c) = t)) (q4 : Hid (cutN (b + c) = s)) (q5 : Hid (cutN (a + s) = t)) (q6 : Hid (cutN (c + a) = r)) (q7 : Hid (cutN (r + b) = t))
    (q8 : Hid (cutN (List.sum [a, b, c]) = t)) (m : Nat) (hw : IntKind.u64.wrap ((a : Int) + (b : Int)) = (m : Int))
    (hq : (m < a ∧ z = 18446744073709551615) ∨ (¬ m < a ∧ z = m)) :
    Calls Try.prog 3 #[.int .u64 a, .int .u64 b, .int .u64 c] w fun e w' => e = .returned (.bool true) ∧ Below w.heap.size w w' := by
  have HN := hide (has_new elU w 22 [a, b, c] #[.int .u64 a, .int .u64 b, .int .u64 c] rfl (F := fun _ => True) trivial (fun x hx => by
      simp only [List.mem_cons, List.not_mem_nil, or_false] at hx
      rcases hx with rfl | rfl | rfl
      · exact ha.out
      · exact hb.out
      · exact hc.out) (by simp))
  rcases hq with ⟨hlt, rfl⟩ | ⟨hlt, rfl⟩
  · go_enter Try.func3, Try.ntmps3
    go_wp2_with (first
      | (go_at_call 9; refine (badd_is (by first | exact q1.out | exact q2.out | exact q3.out | exact q4.out | exact q5.out | exact q6.out | exact q7.out) (by first | exact ha.out | exact hb.out | exact hc.out | exact hz.out | exact hs.out | exact hr.out) (by first | exact ha.out | exact hb.out | exact hc.out | exact hz.out | exact hs.out | exact hr.out) _).mono ?_; rintro e w2 ⟨rfl, hw⟩; have hw := hw.symm; subst hw)
      | (go_at_call 10; refine (bsum_any HN.out).mono ?_; rw [q8.out]; rintro e w2 ⟨rfl, hw⟩; have hw := hw.symm; subst hw))
    go_ret
    exact ⟨rfl, belo1 _ _⟩
  · go_enter Try.func3, Try.ntmps3
    go_wp2_with (first
      | (go_at_call 9; refine (badd_is (by first | exact q1.out | exact q2.out | exact q3.out | exact q4.out | exact q5.out | exact q6.out | exact q7.out) (by first | exact ha.out | exact hb.out | exact hc.out | exact hz.out | exact hs.out | exact hr.out) (by first | exact ha.out | exact hb.out | exact hc.out | exact hz.out | exact hs.out | exact hr.out) _).mono ?_; rintro e w2 ⟨rfl, hw⟩; have hw := hw.symm; subst hw)
      | (go_at_call 10; refine (bsum_any HN.out).mono ?_; rw [q8.out]; rintro e w2 ⟨rfl, hw⟩; have hw := hw.symm; subst hw))
    go_ret
    exact ⟨rfl, belo1 _ _⟩

theorem boundAddIs_walk (a b c : Nat) (w : World) (ha : a < 18446744073709551616) (hb : b < 18446744073709551616) (hc : c < 18446744073709551616) :
    Calls Try.prog 3 #[.int .u64 a, .int .u64 b, .int .u64 c] w fun e w' => e = .returned (.bool true) ∧ Below w.heap.size w w' := by
  refine addIs_core (z := cutN (a + b)) (s := cutN (b + c)) (t := cutN (a + b + c)) (r := cutN (c + a)) w ha hb hc (cutN_lt _) (cutN_lt _) (cutN_lt _) rfl ?_ ?_ rfl ?_ rfl ?_ ?_ ((a + b) % 18446744073709551616) ?_ ?_
  · show _ = _; rw [Nat.add_comm]
  · exact cutN_add _ _
  · show _ = _; rw [cutN_add', Nat.add_assoc]
  · show _ = _; rw [cutN_add]; congr 1; omega
  · show _ = _; simp [Nat.add_assoc]
  · rw [IntKind.wrap_u64]; omega
  · rcases Nat.lt_or_ge (a + b) 18446744073709551616 with h | h
    · exact   .inr ⟨by omega, by rw [cutN_of h]; omega⟩
    · exact   .inl ⟨by omega, cutN_top h⟩
end Go.Proofs.Ytiacdadgnofhjaa
