/- The document's Add, Mul and Pow: sums, products and powers, cut at the greatest uint64. -/
import Derived.Test.YtihkhnljjegopaaRefOf
import Derived.Test.YtihkhnljjegopaaRefCut
import Derived.Test.YtihkhnljjegopaaRefTimes
namespace Go.Proofs.Ytihkhnljjegopaa
set_option linter.unusedSimpArgs false
set_option linter.unusedVariables false
open Go.RowKit


set_option maxHeartbeats 1000000 in
theorem rpow_any {x n : Nat} (hx : x < 18446744073709551616) (hn : n < 18446744073709551616) (w : World) :
    Calls Try.prog 21 #[.int .u64 x, .int .u64 n] w fun e w' => e = .returned (.int .u64 ((cutN (x ^ n) : Nat) : Int)) ∧ Below w.heap.size w w' := by
  by_cases h0 : n = 0
  · subst h0
    go_enter Try.func21, Try.ntmps21
    go_wp2
    go_ret
    exact ⟨rfl, Below.refl _ _⟩
  · have h0' : ((n : Int) == 0) = false := by simp; omega
    by_cases h1 : x = 1
    · subst h1
      have e : cutN (1 ^ n) = 1 := by rw [Nat.one_pow]; rfl
      rw [e]
      go_enter Try.func21, Try.ntmps21
      go_wp2
      go_ret
      exact ⟨rfl, Below.refl _ _⟩
    · have h1' : ((x : Int) == 1) = false := by simp; omega
      by_cases h2 : x = 0
      · subst h2
        have e : cutN (0 ^ n) = 0 := by rw [Nat.zero_pow (by omega)]; rfl
        rw [e]
        go_enter Try.func21, Try.ntmps21
        go_wp2
        go_ret
        exact ⟨rfl, Below.refl _ _⟩
      · have h2' : ((x : Int) == 0) = false := by simp; omega
        have H1 := hide (of_any (a := 1) (by omega) w)
        have HX := hide hx
        have HP := hide (pow_64 n (show 2 ≤ x by omega))
        rw [← HP.out]
        clear HP
        go_enter Try.func21, Try.ntmps21
        go_wp2_with (go_at_call 20; refine H1.out.mono ?_; rintro e w1 ⟨v1, rfl, l1, hg1, hd1, hv1, hl1, hb1⟩; obtain ⟨pa, pc, rfl, -, -⟩ := hg1.shape; have G1 := hide hg1; have P1 : Hid (Dig l1 ∧ val l1 = 1 ∧ l1.length ≤ 4) := ⟨hd1, hv1, hl1⟩; have B1 := hide hb1; clear hg1 hd1 hv1 hl1 hb1 H1)
        go_loopw [5, 6] (fun v y wl => ∃ (k : Nat) (l : List Nat), k ≤ min n 64 ∧ y = .int .u64 k ∧ Hid (Dig l ∧ val l = x ^ k ∧ l.length ≤ 4 + 9 * k) ∧ Hid (Grow elU 27 w.heap.size wl v l) ∧ Hid (Below w.heap.size w wl)) (fun _ y _ => min n 64 - (intOf y).toNat)
        case atStart => exact ⟨0, l1, by omega, rfl, ⟨P1.out.1, by rw [P1.out.2.1, Nat.pow_zero], P1.out.2.2⟩, G1, B1⟩
        case round =>
          clear G1 B1 P1
          obtain ⟨k, l, hk, rfl, P1, G1, B1⟩ := hrel
          obtain ⟨oa, oc, rfl, -, -⟩ := G1.out.shape
          by_cases hlt : k < min n 64
          · have hk1 : (k : Int) < (n : Int) := by omega
            have hk2 : (k : Int) < 64 := by omega
            have H2 := hide (of_any HX.out wr)
            go_wp2_with (first
              | (go_at_call 20; refine H2.out.mono ?_; rintro e w2 ⟨v2, rfl, l2, hg2, hd2, hv2, hl2, hb2⟩; obtain ⟨qa, qc, rfl, -, -⟩ := hg2.shape; have G2 := hide hg2; have P2 : Hid (Dig l2 ∧ val l2 = x ∧ l2.length ≤ 4) := ⟨hd2, hv2, hl2⟩; have B2 := hide (B1.out.trans (hb2.mono B1.out.size)); have G3 := hide (G1.out.kept hb2); clear hg2 hd2 hv2 hl2 hb2 H2 G1)
              | (go_at_call 25; refine (times_any (G3.out.list (by have := P1.out.2.2; omega)) (G2.out.list (by have := P2.out.2.2; omega)) P1.out.1 P2.out.1 (by have := P1.out.2.2; have := P2.out.2.2; omega)).mono ?_; rintro e w3 ⟨v3, rfl, l3, hg3, hd3, hv3, hl3, hb3⟩; obtain ⟨ra, rc, rfl, -, -⟩ := hg3.shape; have G4 := hide (hg3.mono B2.out.size); have P3 : Hid (Dig l3 ∧ val l3 = x ^ (k + 1) ∧ l3.length ≤ 4 + 9 * (k + 1)) := ⟨hd3, by rw [hv3, P1.out.2.1, P2.out.2.1, Nat.pow_succ], by have := P1.out.2.2; have := P2.out.2.2; omega⟩; have B3 := hide (B2.out.trans (hb3.mono B2.out.size)); clear hg3 hd3 hv3 hl3 hb3))
            go_roundw
            case rel => exact ⟨k + 1, l3, by omega, by go_num, P3, G4, B3⟩
            case measure => simp [intOf]; omega
          · obtain rfl : k = min n 64 := by omega
            have hk1 : ¬ (((min n 64 : Nat) : Int) < (n : Int) ∧ ((min n 64 : Nat) : Int) < 64) := by omega
            obtain ⟨k, hk2⟩ : ∃ k, min n 64 = k := ⟨_, rfl⟩
            rw [hk2] at hk1 P1 ⊢
            have HE : Hid (cutN (x ^ min n 64) = cutN (val l)) := by show _ = _; rw [P1.out.2.1, hk2]
            have HC := hide (cut_any (G1.out.list (by have := P1.out.2.2; omega)) P1.out.1)
            clear hk hlt
            by_cases hn1 : (k : Int) < (n : Int)
            · have hn2 : ¬ (k : Int) < 64 := by omega
              go_wp2_with (go_at_call 23; refine HC.out.mono ?_; rintro e w4 ⟨rfl, hw⟩; have hw := hw.symm; subst hw)
              go_ret
              exact ⟨by rw [HE.out]; rfl, B1.out⟩
            · go_wp2_with (go_at_call 23; refine HC.out.mono ?_; rintro e w4 ⟨rfl, hw⟩; have hw := hw.symm; subst hw)
              go_ret
              exact ⟨by rw [HE.out]; rfl, B1.out⟩
end Go.Proofs.Ytihkhnljjegopaa
