/- Decimal numerals: what they are read as. -/
import Derived.Test.YtoppnjpajeipdaaGreatDoorProg
import Derived.Test.YtoppnjpajeipdaaGreatDoorOpen
import Derived.Lib.ItoaMem
import Derived.Lib.ItoaLen
import Derived.Lib.ParseIntB
namespace Go.Proofs.YtoppnjpajeipdaaGreatDoor
set_option linter.unusedSimpArgs false
set_option linter.unusedVariables false
open Go.RowKit
open Go.Lib (decDigits itoa parseUintM parseUintB parseIntB)

theorem dig_nat {d : Nat} (h : d < 10) : (UInt8.ofNat (48 + d)).toNat = 48 + d := by
  rw [UInt8.toNat_ofNat']; omega
theorem dec_digs : ∀ (u : Nat), ∀ b ∈ decDigits u, 48 ≤ b.toNat ∧ b.toNat ≤ 57 := by
  intro u
  induction u using Nat.strongRecOn with
  | ind u ih =>
    intro b hb
    rw [decDigits] at hb
    split at hb
    · next h =>
      simp only [List.mem_singleton] at hb
      rw [hb, dig_nat h]; omega
    · next h =>
      rcases List.mem_append.1 hb with hb | hb
      · exact ih (u / 10) (by omega) b hb
      · simp only [List.mem_singleton] at hb
        rw [hb, dig_nat (by omega)]; omega
theorem dec_ne (u : Nat) : decDigits u ≠ [] := by
  rw [decDigits]
  split <;> simp
theorem dec_parse {M : Nat} (hM : M < 18446744073709551616) : ∀ (u : Nat), u ≤ M → ∀ r, parseUintM M 0 (decDigits u ++ r) = parseUintM M u r := by
  intro u
  induction u using Nat.strongRecOn with
  | ind u ih =>
    intro hu r
    rw [decDigits]
    split
    · next h =>
      rw [List.singleton_append, parseUintM, dig_nat h, if_pos (by omega), if_neg (by omega), if_neg (by omega)]
      congr 1
      omega
    · next h =>
      rw [List.append_assoc, ih (u / 10) (by omega) (by omega), List.singleton_append, parseUintM, dig_nat (by omega), if_pos (by omega), if_neg (by omega), if_neg (by omega)]
      congr 1
      omega
theorem num_parse (u : Nat) (hu : u < 18446744073709551616) : parseUintB 64 (decDigits u) = .ok u := by
  unfold parseUintB
  rw [if_neg (dec_ne u)]
  have := dec_parse (M := 2 ^ 64 - 1) (by decide) u (by omega) []
  rw [List.append_nil] at this
  rw [this, parseUintM]
theorem num_head (u : Nat) : ∃ b r, decDigits u = b :: r ∧ 48 ≤ b.toNat ∧ b.toNat ≤ 57 := by
  cases h : decDigits u with
  | nil => exact absurd h (dec_ne u)
  | cons b r => exact ⟨b, r, rfl, dec_digs u b (by rw [h]; simp)⟩
theorem pos_parse (u : Nat) (hu : u < 9223372036854775808) : parseIntB 64 (decDigits u) = .ok (u : Int) := by
  obtain ⟨b, r, e, h1, h2⟩ := num_head u
  have hp := num_parse u (by omega)
  rw [e] at hp ⊢
  unfold parseIntB
  simp only
  rw [if_neg (by omega), hp]
  simp only
  rw [if_neg (by show ¬ (¬ b.toNat = 45 ∧ 9223372036854775808 ≤ u); omega), if_neg (by omega), if_neg (by omega)]
theorem neg_parse (u : Nat) (hu : u ≤ 9223372036854775808) : parseIntB 64 (45 :: decDigits u) = .ok (-(u : Int)) := by
  have hp := num_parse u (by omega)
  unfold parseIntB
  simp only
  rw [if_pos (by right; decide), hp]
  simp only
  rw [if_neg (by simp), if_neg (by show ¬ ((45 : UInt8).toNat = 45 ∧ 9223372036854775808 < u); omega), if_pos (by decide)]
theorem itoa_parse (n : Int) (h : I64 n) : parseIntB 64 (itoa n) = .ok n := by
  unfold I64 at h
  unfold itoa
  split
  · next hn =>
    have := neg_parse n.natAbs (by omega)
    rw [show (-(n.natAbs : Int)) = n by omega] at this
    exact this
  · next hn =>
    have := pos_parse n.toNat (by omega)
    rw [show ((n.toNat : Nat) : Int) = n by omega] at this
    exact this
theorem itoa_head (n : Int) : ∃ b r, itoa n = b :: r ∧ (b.toNat = 45 ∨ (48 ≤ b.toNat ∧ b.toNat ≤ 57)) := by
  unfold itoa
  split
  · exact ⟨45, _, rfl, .inl rfl⟩
  · obtain ⟨b, r, e, h⟩ := num_head n.toNat
    exact ⟨b, r, e, .inr h⟩
theorem itoa_byt (n : Int) : ∀ b ∈ itoa n, b.toNat = 45 ∨ (48 ≤ b.toNat ∧ b.toNat ≤ 57) := by
  unfold itoa
  split
  · intro b hb
    rcases List.mem_cons.1 hb with rfl | hb
    · exact .inl rfl
    · exact .inr (dec_digs _ b hb)
  · exact fun b hb => .inr (dec_digs _ b hb)
end Go.Proofs.YtoppnjpajeipdaaGreatDoor
