/- Decimal numerals: what they are read as; the tokens that they are. -/
import Derived.Test.YtaemcbabegjfnaaDoorSpellPure
import Derived.Lib.ItoaMem
import Derived.Lib.ItoaLen
namespace Go.Proofs.YtaemcbabegjfnaaDoor
set_option linter.unusedSimpArgs false
set_option linter.unusedVariables false
open Go.RowKit
open Go.Lib (decDigits itoa parseUintM parseUintB parseIntB)

theorem dig_nat {d : Nat} (h : d < 10) : (UInt8.ofNat (48 + d)).toNat = 48 + d := by
  rw [UInt8.toNat_ofNat']; omega
theorem dec_digs : ∀ (u : Nat), ∀ b ∈ decDigits u, 48 ≤ b.toNat ∧ b.toNat ≤ 57 := by
  intro u
  induction u using Nat.strongRecOn with
  | ind u ih =>
    intro b hb
    rw [decDigits] at hb
    split at hb
    · next h =>
      simp only [List.mem_singleton] at hb
      rw [hb, dig_nat h]; omega
    · next h =>
      rcases List.mem_append.1 hb with hb | hb
      · exact ih (u / 10) (by omega) b hb
      · simp only [List.mem_singleton] at hb
        rw [hb, dig_nat (by omega)]; omega
theorem dec_ne (u : Nat) : decDigits u ≠ [] := by
  rw [decDigits]
  split <;> simp
theorem dec_parse {M : Nat} (hM : M < 18446744073709551616) : ∀ (u : Nat), u ≤ M → ∀ r, parseUintM M 0 (decDigits u ++ r) = parseUintM M u r := by
  intro u
  induction u using Nat.strongRecOn with
  | ind u ih =>
    intro hu r
    rw [decDigits]
    split
    · next h =>
      rw [List.singleton_append, parseUintM, dig_nat h, if_pos (by omega), if_neg (by omega), if_neg (by omega)]
      congr 1
      omega
    · next h =>
      rw [List.append_assoc, ih (u / 10) (by omega) (by omega), List.singleton_append, parseUintM, dig_nat (by omega), if_pos (by omega), if_neg (by omega), if_neg (by omega)]
      congr 1
      omega
theorem zero_parse {M : Nat} (r : List UInt8) : parseUintM M 0 (48 :: r) = parseUintM M 0 r := by
  rw [parseUintM, if_pos (by decide), if_neg (by decide), if_neg (by show ¬ M < 0; omega)]
  rfl
/-- Zeros ahead and all: what is read. -/
def zeros : Nat → List UInt8
  | 0 => []
  | n + 1 => 48 :: zeros n
theorem zeros_parse {M : Nat} (r : List UInt8) : ∀ z, parseUintM M 0 (zeros z ++ r) = parseUintM M 0 r
  | 0 => rfl
  | z + 1 => by rw [zeros, List.cons_append, zero_parse, zeros_parse r z]
theorem num_parse (z u : Nat) (hu : u < 18446744073709551616) : parseUintB 64 (zeros z ++ decDigits u) = .ok u := by
  have hne : zeros z ++ decDigits u ≠ [] := fun e => dec_ne u (List.append_eq_nil_iff.1 e).2
  unfold parseUintB
  rw [if_neg hne, zeros_parse]
  have := dec_parse (M := 2 ^ 64 - 1) (by decide) u (by omega) []
  rw [List.append_nil] at this
  rw [this, parseUintM]
theorem num_head (z u : Nat) : ∃ b r, zeros z ++ decDigits u = b :: r ∧ 48 ≤ b.toNat ∧ b.toNat ≤ 57 := by
  cases z with
  | succ z => exact ⟨48, _, rfl, by decide, by decide⟩
  | zero =>
    cases h : decDigits u with
    | nil => exact absurd h (dec_ne u)
    | cons b r => exact ⟨b, r, rfl, dec_digs u b (by rw [h]; simp)⟩
theorem zeros_digs (b : UInt8) : ∀ z, b ∈ zeros z → 48 ≤ b.toNat ∧ b.toNat ≤ 57
  | 0, hb => by simp [zeros] at hb
  | z + 1, hb => by
    rw [zeros] at hb
    rcases List.mem_cons.1 hb with rfl | hb
    · decide
    · exact zeros_digs b z hb
theorem num_digs (z u : Nat) : ∀ b ∈ zeros z ++ decDigits u, 48 ≤ b.toNat ∧ b.toNat ≤ 57 := fun b hb => by
  rcases List.mem_append.1 hb with hb | hb
  · exact zeros_digs b z hb
  · exact dec_digs u b hb
theorem pos_parse (z u : Nat) (hu : u < 9223372036854775808) : parseIntB 64 (zeros z ++ decDigits u) = .ok (u : Int) := by
  obtain ⟨b, r, e, h1, h2⟩ := num_head z u
  have hp := num_parse z u (by omega)
  rw [e] at hp ⊢
  unfold parseIntB
  simp only
  rw [if_neg (by omega), hp]
  simp only
  rw [if_neg (by show ¬ (¬ b.toNat = 45 ∧ 9223372036854775808 ≤ u); omega), if_neg (by omega), if_neg (by omega)]
theorem neg_parse (z u : Nat) (hu : u ≤ 9223372036854775808) : parseIntB 64 (45 :: (zeros z ++ decDigits u)) = .ok (-(u : Int)) := by
  have hp := num_parse z u (by omega)
  unfold parseIntB
  simp only
  rw [if_pos (by right; decide), hp]
  simp only
  rw [if_neg (by simp), if_neg (by show ¬ ((45 : UInt8).toNat = 45 ∧ 9223372036854775808 < u); omega), if_pos (by decide)]
theorem dig_word : ∀ n : Fin 256, 48 ≤ n.val ∧ n.val ≤ 57 → bDig (n.val : Int) = true ∧ bWord (n.val : Int) = true := by decide +kernel
theorem dig_b {b : UInt8} (h : 48 ≤ b.toNat ∧ b.toNat ≤ 57) : bDig (b.toNat : Int) = true ∧ bWord (b.toNat : Int) = true := dig_word ⟨b.toNat, b.toNat_lt⟩ h
/-- Numerals are tokens, zeros ahead or none. -/
theorem pos_tkn (z u : Nat) (hu : u < 9223372036854775808) : Tkn (zeros z ++ decDigits u) ⟨3, ⟨#[]⟩, (u : Int), 0, 0, 0⟩ okWord := by
  have hd := num_digs z u
  have hp := pos_parse z u hu
  obtain ⟨b, r, e, h1, h2⟩ := num_head z u
  rw [e] at hd hp ⊢
  exact int_tkn (fun c hc => (dig_b (hd c (by simp [hc]))).2) (.inl (dig_b ⟨h1, h2⟩).1) hp
theorem neg_tkn (z u : Nat) (hu : u ≤ 9223372036854775808) : Tkn (45 :: (zeros z ++ decDigits u)) ⟨3, ⟨#[]⟩, -(u : Int), 0, 0, 0⟩ okWord := by
  have hd := num_digs z u
  have hp := neg_parse z u hu
  obtain ⟨b, r, e, h1, h2⟩ := num_head z u
  exact int_tkn (fun c hc => (dig_b (hd c hc)).2) (.inr ⟨by decide, b, r, e, (dig_b ⟨h1, h2⟩).1⟩) hp
theorem itoa_tkn (n : Int) (h : I64 n) : Tkn (itoa n) ⟨3, ⟨#[]⟩, n, 0, 0, 0⟩ okWord := by
  unfold I64 at h
  unfold itoa
  split
  · next hn =>
    have := neg_tkn 0 n.natAbs (by omega)
    rw [show (-(n.natAbs : Int)) = n by omega] at this
    exact this
  · next hn =>
    have := pos_tkn 0 n.toNat (by omega)
    rw [show ((n.toNat : Nat) : Int) = n by omega] at this
    exact this
end Go.Proofs.YtaemcbabegjfnaaDoor
