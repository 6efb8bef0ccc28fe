/- bound's Add and Mul: sum and product, cut at the greatest uint64. -/
import Derived.Test.YtihkhnljjegopaaBoundPure
import Derived.Test.YtihkhnljjegopaaOver
import Derived.Test.YtihkhnljjegopaaProg
import Derived.WalkKit
import Derived.Lib.Mul64
import Derived.Laws.Bits64b
import Derived.Laws.Externs
import Derived.Laws.Cover1
namespace Go.Proofs.Ytihkhnljjegopaa
set_option linter.unusedSimpArgs false
set_option linter.unusedVariables false
open Go.RowKit

theorem maskN9 (a : Nat) (ha : a < 18446744073709551616) : bits .and .u64 (a : Int) 4294967295 = ((a % 4294967296 : Nat) : Int) := by
  have h := bits_and_u64_nat a 4294967295 ha (by omega)
  have e : a &&& 4294967295 = a % 4294967296 := Nat.and_two_pow_sub_one_eq_mod a 32
  rw [e] at h
  exact h
theorem divN9 (a : Nat) : (a : Int) / 4294967296 = ((a / 4294967296 : Nat) : Int) := by omega
theorem mulN9 (a b : Nat) : (a : Int) * (b : Int) = ((a * b : Nat) : Int) := (Int.natCast_mul a b).symm
theorem addN9 (a b : Nat) : (a : Int) + (b : Int) = ((a + b : Nat) : Int) := (Int.natCast_add a b).symm
theorem wrapN9 (a : Nat) (ha : a < 18446744073709551616) : IntKind.u64.wrap (a : Int) = (a : Int) := by rw [IntKind.wrap_u64]; omega
theorem wrapM9 (a : Nat) : IntKind.u64.wrap (a : Int) = ((a % 18446744073709551616 : Nat) : Int) := by rw [IntKind.wrap_u64]; omega

set_option maxHeartbeats 1000000 in
theorem mul64_all (x y : Nat) (hx : x < 18446744073709551616) (hy : y < 18446744073709551616) (w : World) :
    Calls Try.prog 24 #[.int .u64 x, .int .u64 y] w fun e w' => e = .returned (.tuple #[.int .u64 ((x * y / 18446744073709551616 : Nat) : Int), .int .u64 ((x * y % 18446744073709551616 : Nat) : Int)]) ∧ w' = w := by
  obtain ⟨bd, bt, bw, hhi⟩ := Lib.mul64_hi x y hx hy
  have ba := Lib.half_mul_le (a := x / 4294967296) (b := y / 4294967296) (by omega) (by omega)
  have bb := Lib.half_mul_le (a := x / 4294967296) (b := y % 4294967296) (by omega) (by omega)
  have bc := Lib.half_mul_le (a := x % 4294967296) (b := y / 4294967296) (by omega) (by omega)
  have ba' : x / 4294967296 * (y / 4294967296) < 18446744073709551616 := by omega
  have bb' : x / 4294967296 * (y % 4294967296) < 18446744073709551616 := by omega
  have bc' : x % 4294967296 * (y / 4294967296) < 18446744073709551616 := by omega
  have bh1 : x / 4294967296 * (y / 4294967296) + (x / 4294967296 * (y % 4294967296) + x % 4294967296 * (y % 4294967296) / 4294967296) / 4294967296 < 18446744073709551616 := by omega
  have bh : x / 4294967296 * (y / 4294967296) + (x / 4294967296 * (y % 4294967296) + x % 4294967296 * (y % 4294967296) / 4294967296) / 4294967296 + ((x / 4294967296 * (y % 4294967296) + x % 4294967296 * (y % 4294967296) / 4294967296) % 4294967296 + x % 4294967296 * (y / 4294967296)) / 4294967296 < 18446744073709551616 := by omega
  go_enter Try.func24, Try.ntmps24
  go_wp2
  simp only [maskN9 x hx, maskN9 y hy, divN9, mulN9, addN9, wrapN9 _ bd, wrapN9 _ bb', wrapN9 _ bt, maskN9 _ bt, wrapN9 _ bc', wrapN9 _ bw, wrapN9 _ ba', wrapN9 _ bh1, wrapN9 _ bh, wrapM9 (x * y)]
  rw [hhi]
  exact bodyPost_ret (v := .tuple #[.int .u64 ((x * y / 18446744073709551616 : Nat) : Int), .int .u64 ((x * y % 18446744073709551616 : Nat) : Int)]) (by simp [results, Try.results24, go_sem]) rfl ⟨rfl, rfl⟩

set_option maxHeartbeats 1000000 in
theorem bmul_any {x y : Nat} (hx : x < 18446744073709551616) (hy : y < 18446744073709551616) (w : World) :
    Calls Try.prog 18 #[.int .u64 x, .int .u64 y] w fun e w' => e = .returned (.int .u64 ((cutN (x * y) : Nat) : Int)) ∧ w' = w := by
  have HM := hide (mul64_all x y hx hy w)
  obtain ⟨h, hh⟩ : ∃ h, x * y / 18446744073709551616 = h := ⟨_, rfl⟩
  obtain ⟨l, hl⟩ : ∃ l, x * y % 18446744073709551616 = l := ⟨_, rfl⟩
  have HQ : Hid ((0 < h → cutN (x * y) = 18446744073709551615) ∧ (h = 0 → cutN (x * y) = l)) := by
    show _ ∧ _
    unfold cutN
    omega
  rw [hh, hl] at HM
  clear hh hl
  by_cases h0 : 0 < h
  · have h1 : decide ((0 : Int) < (h : Int)) = true := by simpa using h0
    have e := HQ.out.1 h0
    rw [e]
    clear HQ e
    go_enter Try.func18, Try.ntmps18
    go_wp2_with (go_at_call 24; refine HM.out.mono ?_; rintro e w2 ⟨rfl, hw⟩; have hw := hw.symm; subst hw)
    go_ret
    exact ⟨rfl, rfl⟩
  · have h1 : h = 0 := by omega
    have e := HQ.out.2 h1
    rw [e]
    subst h1
    clear HQ e
    go_enter Try.func18, Try.ntmps18
    go_wp2_with (go_at_call 24; refine HM.out.mono ?_; rintro e w2 ⟨rfl, hw⟩; have hw := hw.symm; subst hw)
    go_ret
    exact ⟨rfl, rfl⟩

theorem add64_all (x y : Nat) (w : World) : (callFunc 17 #[.int .u64 (x : Int), .int .u64 (y : Int), .int .u64 0]).run Try.prog w =
    .ok (.value (.tuple #[.int .u64 (((x : Int) + y) % 18446744073709551616), .int .u64 (((x : Int) + y) / 18446744073709551616)])) w := by
  rw [run_callFunc_extern Try.func17 (by kernel_rfl) (by kernel_rfl) (by kernel_rfl) (e := add64Entry) (by kernel_rfl), run_add64 x y 0 (by omega) (by omega) (by omega) (by omega)]
  simp only [Result.andThen, Int.add_zero]

set_option maxHeartbeats 1000000 in
theorem badd_any {x y : Nat} (hx : x < 18446744073709551616) (hy : y < 18446744073709551616) (w : World) :
    Calls Try.prog 9 #[.int .u64 x, .int .u64 y] w fun e w' => e = .returned (.int .u64 ((cutN (x + y) : Nat) : Int)) ∧ w' = w := by
  have HR := add64_all x y
  obtain ⟨h, hh⟩ : ∃ h, ((x : Int) + y) / 18446744073709551616 = h := ⟨_, rfl⟩
  obtain ⟨l, hl⟩ : ∃ l, ((x : Int) + y) % 18446744073709551616 = l := ⟨_, rfl⟩
  have HQ : Hid ((0 < h → cutN (x + y) = 18446744073709551615) ∧ (¬ 0 < h → ((cutN (x + y) : Nat) : Int) = l)) := by
    show _ ∧ _
    unfold cutN
    omega
  simp only [hh, hl] at HR
  clear hh hl
  by_cases h0 : 0 < h
  · have h1 : decide ((0 : Int) < h) = true := by simpa using h0
    have e := HQ.out.1 h0
    rw [e]
    clear HQ e
    go_enter Try.func9, Try.ntmps9
    go_wp2_with (simp only [HR])
    go_ret
    exact ⟨rfl, rfl⟩
  · have h1 : decide ((0 : Int) < h) = false := by simpa using h0
    have e := HQ.out.2 h0
    rw [e]
    clear HQ e
    go_enter Try.func9, Try.ntmps9
    go_wp2_with (simp only [HR])
    go_ret
    exact ⟨rfl, rfl⟩
end Go.Proofs.Ytihkhnljjegopaa
