/- Numbers written in digits, and what ParseInt makes of them: no program in sight. -/
import Derived.Test.YtplldgkdjainlaaDoorProg
import Derived.Test.YtplldgkdjainlaaDoorLexInt
namespace Go.Proofs.YtplldgkdjainlaaDoor
set_option linter.unusedSimpArgs false
set_option linter.unusedVariables false
open Go.RowKit

def numS (a : Nat) (c : UInt8) : Nat := a * 10 + (c.toNat - 48)
def numA (acc : Nat) (l : List UInt8) : Nat := l.foldl numS acc
theorem numA_n (acc : Nat) : numA acc [] = acc := rfl
theorem numA_c (acc : Nat) (c : UInt8) (r : List UInt8) : numA acc (c :: r) = numA (acc * 10 + (c.toNat - 48)) r := by
  unfold numA; rw [List.foldl_cons, numS]

def AllD (l : List UInt8) : Prop := ∀ c ∈ l, 48 ≤ c.toNat ∧ c.toNat ≤ 57

theorem AllD.tail {c : UInt8} {r : List UInt8} (h : AllD (c :: r)) : AllD r := fun x hx => h x (List.mem_cons_of_mem _ hx)
theorem AllD.head {c : UInt8} {r : List UInt8} (h : AllD (c :: r)) : 48 ≤ c.toNat ∧ c.toNat ≤ 57 := h c List.mem_cons_self

theorem numA_ge : ∀ (l : List UInt8) (acc : Nat), acc ≤ numA acc l
  | [], _ => Nat.le_refl _
  | c :: r, acc => by
    rw [numA_c]
    exact Nat.le_trans (by omega) (numA_ge r _)

theorem parse_digits : ∀ (l : List UInt8) (acc : Nat), AllD l → acc ≤ 18446744073709551615 → Lib.parseUintM 18446744073709551615 acc l = if numA acc l ≤ 18446744073709551615 then .ok (numA acc l) else .range
  | [], acc, _, h => by rw [Lib.parseUintM, numA_n, if_pos h]
  | c :: r, acc, hd, h => by
    rw [Lib.parseUintM, numA_c, if_pos hd.head]
    have hge := numA_ge r (acc * 10 + (c.toNat - 48))
    split
    · rw [if_neg (by omega)]
    · split
      · rw [if_neg (by omega)]
      · exact parse_digits r _ hd.tail (by omega)

theorem parse_other : ∀ (l : List UInt8) (acc : Nat), ¬ AllD l → ∀ u, Lib.parseUintM 18446744073709551615 acc l ≠ .ok u
  | [], _, h, _ => absurd (fun c hc => by cases hc) h
  | c :: r, acc, h, u => by
    rw [Lib.parseUintM]
    split
    · next hc =>
      have hr : ¬ AllD r := fun hr => h (fun x hx => by
        rcases List.mem_cons.1 hx with rfl | hx
        · exact hc
        · exact hr x hx)
      split
      · intro he; cases he
      · split
        · intro he; cases he
        · exact parse_other r _ hr u
    · intro he; cases he

theorem int_pos (l : List UInt8) (c : UInt8) (r : List UInt8) (hl : l = c :: r) (hc : 48 ≤ c.toNat ∧ c.toNat ≤ 57) :
    (AllD l → numA 0 l ≤ 9223372036854775807 → Lib.parseIntB 64 l = .ok (numA 0 l : Int)) ∧ (¬ (AllD l ∧ numA 0 l ≤ 9223372036854775807) → ∀ v, Lib.parseIntB 64 l ≠ .ok v) := by
  have e : Lib.parseIntB 64 l = match Lib.parseUintM 18446744073709551615 0 l with
    | .syntax => .syntax
    | .range => .range
    | .ok u => if 9223372036854775808 ≤ u then .range else .ok (u : Int) := by
    rw [hl]
    unfold Lib.parseIntB Lib.parseUintB
    have n1 : ¬ c.toNat = 43 := by omega
    have n2 : ¬ c.toNat = 45 := by omega
    simp only [n1, n2, or_self, if_false, List.cons_ne_nil, not_false_eq_true, true_and, false_and]
    rfl
  constructor
  · intro hd hn
    rw [e, parse_digits l 0 hd (by decide), if_pos (by omega)]
    exact if_neg (by omega)
  · intro h v
    rw [e]
    by_cases hd : AllD l
    · have hn : ¬ numA 0 l ≤ 9223372036854775807 := fun hn => h ⟨hd, hn⟩
      rw [parse_digits l 0 hd (by decide)]
      split
      · intro he; cases he
      · intro he; cases he
      · next u hu =>
        split at hu
        · injection hu with hu
          rw [if_pos (by omega)]; intro he; cases he
        · cases hu
    · have := parse_other l 0 hd
      split
      · intro he; cases he
      · intro he; cases he
      · next u hu => exact absurd hu (this u)

theorem int_neg (l : List UInt8) (c : UInt8) (r : List UInt8) (hl : l = c :: r) (hc : c.toNat = 45) (hr : r ≠ []) :
    (AllD r → numA 0 r ≤ 9223372036854775808 → Lib.parseIntB 64 l = .ok (-(numA 0 r : Int))) ∧ (¬ (AllD r ∧ numA 0 r ≤ 9223372036854775808) → ∀ v, Lib.parseIntB 64 l ≠ .ok v) := by
  have e : Lib.parseIntB 64 l = match Lib.parseUintM 18446744073709551615 0 r with
    | .syntax => .syntax
    | .range => .range
    | .ok u => if 9223372036854775808 < u then .range else .ok (-(u : Int)) := by
    rw [hl]
    unfold Lib.parseIntB Lib.parseUintB
    simp only [hc, or_true, if_true, hr, if_false, not_true_eq_false, true_and, false_and]
    rfl
  constructor
  · intro hd hn
    rw [e, parse_digits r 0 hd (by decide), if_pos (by omega)]
    exact if_neg (by omega)
  · intro h v
    rw [e]
    by_cases hd : AllD r
    · have hn : ¬ numA 0 r ≤ 9223372036854775808 := fun hn => h ⟨hd, hn⟩
      rw [parse_digits r 0 hd (by decide)]
      split
      · intro he; cases he
      · intro he; cases he
      · next u hu =>
        split at hu
        · injection hu with hu
          rw [if_pos (by omega)]; intro he; cases he
        · cases hu
    · have := parse_other r 0 hd
      split
      · intro he; cases he
      · intro he; cases he
      · next u hu => exact absurd hu (this u)


theorem numA_app (acc : Nat) (a b : List UInt8) : numA acc (a ++ b) = numA (numA acc a) b := List.foldl_append

theorem numA_snoc (l : List UInt8) (acc : Nat) (c : UInt8) : numA acc (l ++ [c]) = numA acc l * 10 + (c.toNat - 48) := by
  rw [numA_app, numA_c, numA_n]

theorem numA_take (l : List UInt8) (k : Nat) : numA 0 (l.take k) ≤ numA 0 l := by
  have := numA_app 0 (l.take k) (l.drop k)
  rw [List.take_append_drop] at this
  rw [this]
  exact numA_ge _ _

end Go.Proofs.YtplldgkdjainlaaDoor
