/- bound's Sum: the sum of a list, cut at the greatest uint64. -/
import Derived.Test.YtihkhnljjegopaaBoundBits
import Derived.Test.YtihkhnljjegopaaBigMem
namespace Go.Proofs.Ytihkhnljjegopaa
set_option linter.unusedSimpArgs false
set_option linter.unusedVariables false
open Go.RowKit

theorem sum_snoc9 {l : List Nat} {k x : Nat} (hx : l[k]? = some x) : (l.take (k + 1)).sum = (l.take k).sum + x := by
  rw [List.take_add_one, hx]
  simp [List.sum_append]

set_option maxHeartbeats 1000000 in
theorem bsum_any {w : World} {v : Value} {l : List Nat} (h : Has elU w v l) :
    Calls Try.prog 16 #[v] w fun e w' => e = .returned (.int .u64 ((cutN l.sum : Nat) : Int)) ∧ w' = w := by
  obtain ⟨va, vc, rfl, -, -, hlen⟩ := h.shape
  have HL := hide h
  clear h
  go_enter Try.func16, Try.ntmps16
  go_wp2
  go_loopw [3, 8] (fun x y wl => ∃ k : Nat, k ≤ l.length ∧ x = .int .u64 ((cutN (l.take k).sum : Nat) : Int) ∧ y = .int .i64 k ∧ Hid (wl = w)) (fun _ y _ => l.length - (intOf y).toNat)
  case atStart => exact ⟨0, by omega, rfl, rfl, rfl⟩
  case round =>
    obtain ⟨k, hk, rfl, rfl, HW⟩ := hrel
    have hw := HW.out
    subst hw
    clear HW
    by_cases hlt : k < l.length
    · have hi : (k : Int) < (l.length : Int) := by omega
      have hi0 : (0 : Int) ≤ (k : Int) := by omega
      obtain ⟨b, off, rfl, -, -, hrow⟩ := HL.out.row (by omega)
      obtain ⟨x, hx⟩ : ∃ x, l[k]? = some x := ⟨_, List.getElem?_eq_getElem hlt⟩
      have y0 := hrow k x hx 0 _ rfl
      simp only [elU, Nat.add_zero, Nat.mul_one] at y0
      have HA := hide (badd_any (cutN_lt (l.take k).sum) (HL.out.ok (List.mem_of_getElem? hx)) wr)
      have HS : Hid (cutN (cutN (l.take k).sum + x) = cutN (l.take (k + 1)).sum) := by show _ = _; rw [cutN_add, sum_snoc9 hx]
      clear hrow hx
      go_wp2_with (go_at_call 9; refine HA.out.mono ?_; rintro e w2 ⟨rfl, hw⟩; have hw := hw.symm; subst hw)
      go_roundw
      case rel => exact ⟨k + 1, by omega, by rw [← HS.out], by go_num, trivial⟩
      case measure => simp [intOf]; omega
    · obtain rfl : k = l.length := by omega
      have hi : ¬ (l.length : Int) < (l.length : Int) := by omega
      rw [List.take_of_length_le (Nat.le_refl _)]
      go_wp2
      go_ret
      exact ⟨rfl, rfl⟩
end Go.Proofs.Ytihkhnljjegopaa
