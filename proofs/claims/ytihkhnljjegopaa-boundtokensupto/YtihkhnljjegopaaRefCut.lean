/- The document's whole numbers: cut. -/
import Derived.Test.YtihkhnljjegopaaRefPlus
namespace Go.Proofs.Ytihkhnljjegopaa
set_option linter.unusedSimpArgs false
set_option linter.unusedVariables false
open Go.RowKit

def topP (a : List Nat) (j : Nat) : Nat := val ((a.take 4).drop j)
theorem topP_lt {a : List Nat} (h : Dig a) (j : Nat) : topP a j < 18446744073709551616 := by
  have h1 := val_lt ((h.take 4).drop j)
  have h2 : 65536 ^ ((a.take 4).drop j).length ≤ 65536 ^ 4 := Nat.pow_le_pow_right (by omega) (by simp; omega)
  have h4 : (65536 : Nat) ^ 4 = 18446744073709551616 := by decide
  unfold topP
  omega
theorem topP_step {a : List Nat} {j x : Nat} (h : a[j]? = some x) (hj : j < 4) : topP a j = topP a (j + 1) * 65536 + x := by
  unfold topP
  rw [val_drop (d := x) (by rw [List.getElem?_take, if_pos hj]; exact h)]
  omega
theorem topP_up {a : List Nat} {j : Nat} (hj : 4 ≤ j) : topP a j = topP a (j + 1) := by
  unfold topP
  rw [val_end (by simp; omega), val_end (by simp; omega)]
theorem topP_start (a : List Nat) : topP a a.length = 0 := val_end (by simp; omega)

set_option maxHeartbeats 1000000 in
theorem cut_any {w : World} {u : Value} {a : List Nat} (hu : Has elU w u a) (da : Dig a) :
    Calls Try.prog 23 #[u] w fun e w' => e = .returned (.int .u64 ((cutN (val a) : Nat) : Int)) ∧ w' = w := by
  obtain ⟨va, vc, rfl, -, -, hlen⟩ := hu.shape
  have HU := hide hu
  have HD := hide da
  clear hu da
  go_enter Try.func23, Try.ntmps23
  go_wp2
  go_loopw [3] (fun x wl => ∃ k : Nat, 4 ≤ k ∧ k ≤ max 4 a.length ∧ x = .int .i64 k ∧ Hid (∀ i d, 4 ≤ i → i < k → a[i]? = some d → d = 0) ∧ Hid (wl = w)) (fun x _ => a.length - (intOf x).toNat)
  case atStart => exact ⟨4, by omega, by omega, rfl, fun i d h1 h2 => by omega, rfl⟩
  case round =>
    obtain ⟨k, hk4, hk, rfl, HK, HW⟩ := hrel
    have hw := HW.out
    subst hw
    by_cases hlt : k < a.length
    · have hi : (k : Int) < (a.length : Int) := by omega
      have hi0 : (0 : Int) ≤ (k : Int) := by omega
      obtain ⟨b, off, rfl, -, -, hrow⟩ := HU.out.row (by omega)
      obtain ⟨x, hx⟩ : ∃ x, a[k]? = some x := ⟨_, List.getElem?_eq_getElem hlt⟩
      have y0 := hrow k x hx 0 _ rfl
      simp only [elU, Nat.add_zero, Nat.mul_one] at y0
      have HX := hide hx
      clear hrow hx
      by_cases h0 : x = 0
      · subst h0
        have HK2 : Hid (∀ i d, 4 ≤ i → i < k + 1 → a[i]? = some d → d = 0) := fun i d h1 h2 h3 => by
          rcases Nat.lt_or_ge i k with h4 | h4
          · exact HK.out i d h1 h4 h3
          · have e : i = k := by omega
            subst e
            rw [HX.out] at h3
            injection h3 with h3
            exact h3.symm
        go_wp2
        go_roundw
        case rel => exact ⟨k + 1, by omega, by omega, by go_num, HK2, trivial⟩
        case measure => simp [intOf]; omega
      · have hpos : decide ((0 : Int) < (x : Int)) = true := by simp; omega
        have HE : Hid (cutN (val a) = 18446744073709551615) := by
          have h1 := val_big HX.out (by omega)
          have h2 : 65536 ^ 4 ≤ 65536 ^ k := Nat.pow_le_pow_right (by omega) hk4
          have h4 : (65536 : Nat) ^ 4 = 18446744073709551616 := by decide
          exact cutN_top (by omega)
        go_wp2
        go_ret
        rw [HE.out]
        exact ⟨rfl, rfl⟩
    · have hi : ¬ (k : Int) < (a.length : Int) := by omega
      have HV : Hid (cutN (val a) = topP a 0) := by
        have h1 : val a = topP a 0 := by
          unfold topP
          rw [List.drop_zero]
          exact val_take fun i d h1 h2 => HK.out i d h1 (by have := (List.getElem?_eq_some_iff.1 h2).1; omega) h2
        rw [h1]
        exact cutN_of (topP_lt HD.out 0)
      clear HK HW
      go_wp2
      go_loopw [4, 5] (fun x y wl => ∃ j : Nat, j ≤ a.length ∧ x = .int .u64 ((topP a j : Nat) : Int) ∧ y = .int .i64 ((j : Int) - 1) ∧ Hid (wl = wr)) (fun _ y _ => (intOf y + 1).toNat)
      case atStart => exact ⟨a.length, by omega, by rw [topP_start]; rfl, by go_num, rfl⟩
      case round =>
        obtain ⟨j, hj, rfl, rfl, HW⟩ := hrel
        have hw := HW.out
        have hw := hw.symm
        subst hw
        clear HW
        cases j with
        | zero =>
          have h0 : decide ((0 : Int) ≤ ((0 : Nat) : Int) - 1) = false := by decide
          go_wp2
          go_ret
          rw [HV.out]
          exact ⟨rfl, rfl⟩
        | succ j =>
          have h0 : decide ((0 : Int) ≤ ((j + 1 : Nat) : Int) - 1) = true := by simp
          obtain ⟨b, off, rfl, -, -, hrow⟩ := HU.out.row (by omega)
          obtain ⟨x, hx⟩ : ∃ x, a[j]? = some x := ⟨_, List.getElem?_eq_getElem (by omega)⟩
          have y0 := hrow j x hx 0 _ rfl
          simp only [elU, Nat.add_zero, Nat.mul_one] at y0
          have HX := hide hx
          clear hrow hx
          by_cases h4 : j < 4
          · have HWr : Hid (IntKind.u64.wrap (IntKind.u64.wrap (((topP a (j + 1) : Nat) : Int) * 65536) + (x : Int)) = ((topP a j : Nat) : Int)) := by
              show _ = _
              have h1 := topP_step HX.out h4
              have h2 := topP_lt HD.out j
              have e : IntKind.u64.wrap (((topP a (j + 1) : Nat) : Int) * 65536) = ((topP a (j + 1) : Nat) : Int) * 65536 := by rw [IntKind.wrap_u64]; omega
              rw [e, IntKind.wrap_u64]
              omega
            go_wp2
            go_roundw
            case rel => exact ⟨j, by omega, by rw [HWr.out], by go_num, trivial⟩
            case measure => simp [intOf]
          · have h4' : decide ((j : Int) < 4) = false := by simp; omega
            have HWr := hide (topP_up (a := a) (j := j) (by omega))
            go_wp2
            go_roundw
            case rel => exact ⟨j, by omega, by rw [HWr.out], by go_num, trivial⟩
            case measure => simp [intOf]
end Go.Proofs.Ytihkhnljjegopaa
