/- Numbers written in digits: what ParseInt makes of them, and what the document's above says. -/
import Derived.Test.YtojgfngpndmfoaaDoorProg
import Derived.Test.YtojgfngpndmfoaaDoorRefAbove
import Derived.Test.YtojgfngpndmfoaaDoorLexInt
namespace Go.Proofs.YtojgfngpndmfoaaDoor
set_option linter.unusedSimpArgs false
set_option linter.unusedVariables false
open Go.RowKit

def numS (a : Nat) (c : UInt8) : Nat := a * 10 + (c.toNat - 48)
def numA (acc : Nat) (l : List UInt8) : Nat := l.foldl numS acc
theorem numA_n (acc : Nat) : numA acc [] = acc := rfl
theorem numA_c (acc : Nat) (c : UInt8) (r : List UInt8) : numA acc (c :: r) = numA (acc * 10 + (c.toNat - 48)) r := by
  unfold numA; rw [List.foldl_cons, numS]

def AllD (l : List UInt8) : Prop := ∀ c ∈ l, 48 ≤ c.toNat ∧ c.toNat ≤ 57

theorem AllD.tail {c : UInt8} {r : List UInt8} (h : AllD (c :: r)) : AllD r := fun x hx => h x (List.mem_cons_of_mem _ hx)
theorem AllD.head {c : UInt8} {r : List UInt8} (h : AllD (c :: r)) : 48 ≤ c.toNat ∧ c.toNat ≤ 57 := h c List.mem_cons_self

theorem numA_split : ∀ (l : List UInt8) (acc : Nat), numA acc l = acc * 10 ^ l.length + numA 0 l
  | [], acc => by rw [numA_n, numA_n]; simp
  | c :: r, acc => by
    rw [numA_c, numA_c, numA_split r (acc * 10 + _), numA_split r (0 * 10 + _), List.length_cons, Nat.pow_succ, Nat.zero_mul, Nat.zero_add, Nat.add_mul, Nat.add_assoc, Nat.mul_assoc, Nat.mul_comm 10]

theorem numA_cons (c : UInt8) (r : List UInt8) : numA 0 (c :: r) = (c.toNat - 48) * 10 ^ r.length + numA 0 r := by
  rw [numA_c, numA_split, Nat.zero_mul, Nat.zero_add]

theorem numA_lt : ∀ (l : List UInt8), AllD l → numA 0 l < 10 ^ l.length
  | [], _ => by rw [numA_n]; simp
  | c :: r, h => by
    have h1 := numA_lt r h.tail
    have h2 := h.head
    rw [numA_cons, List.length_cons, Nat.pow_succ]
    have h3 : (c.toNat - 48) * 10 ^ r.length ≤ 9 * 10 ^ r.length := Nat.mul_le_mul_right _ (by omega)
    omega

theorem numA_low (c : UInt8) (r : List UInt8) (h : 49 ≤ c.toNat) : 10 ^ r.length ≤ numA 0 (c :: r) := by
  rw [numA_cons]
  have h3 : 1 * 10 ^ r.length ≤ (c.toNat - 48) * 10 ^ r.length := Nat.mul_le_mul_right _ (by omega)
  omega

theorem numA_strip : ∀ (l : List UInt8), AllD l → numA 0 (stripZ l) = numA 0 l ∧ AllD (stripZ l) ∧ (stripZ l = [] ∨ ∃ c r, stripZ l = c :: r ∧ 49 ≤ c.toNat)
  | [], h => ⟨rfl, h, .inl rfl⟩
  | c :: r, h => by
    unfold stripZ
    split
    · next h48 =>
      obtain ⟨h1, h2, h3⟩ := numA_strip r h.tail
      refine ⟨?_, h2, h3⟩
      rw [h1, numA_cons, h48]; simp
    · next h48 => exact ⟨rfl, h, .inr ⟨c, r, rfl, by have := h.head; omega⟩⟩

theorem less_num : ∀ (a b : List UInt8), AllD a → AllD b → a.length = b.length → (Op.bytesLess a b = true ↔ numA 0 a < numA 0 b) ∧ (a = b ↔ numA 0 a = numA 0 b)
  | [], [], _, _, _ => by simp [Op.bytesLess, numA_n]
  | [], _ :: _, _, _, h => by simp at h
  | _ :: _, [], _, _, h => by simp at h
  | x :: a, y :: b, ha, hb, h => by
    have hl : a.length = b.length := by simpa using h
    obtain ⟨i1, i2⟩ := less_num a b ha.tail hb.tail hl
    have la := numA_lt a ha.tail
    have lb := numA_lt b hb.tail
    have hx := ha.head
    have hy := hb.head
    rw [numA_cons, numA_cons, hl]
    rw [hl] at la
    have lt : (Op.bytesLess (x :: a) (y :: b) = true) ↔ (x.toNat < y.toNat ∨ (x.toNat = y.toNat ∧ Op.bytesLess a b = true)) := by
      rw [Op.bytesLess]
      simp only [Bool.or_eq_true, decide_eq_true_eq, Bool.and_eq_true, beq_iff_eq, UInt8.lt_iff_toNat_lt, UInt8.toNat_inj]
    have eq : (x :: a = y :: b) ↔ (x.toNat = y.toNat ∧ a = b) := by
      rw [List.cons.injEq, UInt8.toNat_inj]
    rw [lt, eq, i1, i2]
    generalize 10 ^ b.length = p at *
    generalize numA 0 a = A at *
    generalize numA 0 b = B at *
    rcases Nat.lt_trichotomy x.toNat y.toNat with hlt | heq | hgt
    · have h3 : (x.toNat - 48 + 1) * p ≤ (y.toNat - 48) * p := Nat.mul_le_mul_right _ (by omega)
      rw [Nat.add_mul] at h3
      constructor <;> constructor <;> intro _ <;> omega
    · rw [heq]
      constructor <;> constructor <;> intro _ <;> omega
    · have h3 : (y.toNat - 48 + 1) * p ≤ (x.toNat - 48) * p := Nat.mul_le_mul_right _ (by omega)
      rw [Nat.add_mul] at h3
      constructor <;> constructor <;> intro _ <;> omega

theorem above_num (l m : List UInt8) (hl : AllD l) (hm : AllD m) (c : UInt8) (r : List UInt8) (hc : m = c :: r) (h49 : 49 ≤ c.toNat) : aboveB l m = decide (numA 0 m < numA 0 l) := by
  obtain ⟨h1, h2, h3⟩ := numA_strip l hl
  unfold aboveB
  rw [← h1]
  have lm := numA_lt m hm
  have lw : 10 ^ r.length ≤ numA 0 m := by rw [hc]; exact numA_low c r h49
  split
  · next he =>
    obtain ⟨i1, i2⟩ := less_num _ m h2 hm he
    cases hb : Op.bytesLess (stripZ l) m with
    | true => have := i1.1 hb; simp; omega
    | false =>
      have hn : ¬ numA 0 (stripZ l) < numA 0 m := fun h => by rw [i1.2 h] at hb; cases hb
      by_cases e : stripZ l = m
      · have := i2.1 e; simp [e]
      · have : ¬ numA 0 (stripZ l) = numA 0 m := fun h => e (i2.2 h)
        rw [show (stripZ l == m) = false from by simpa using e]
        simp only [Bool.or_self, Bool.not_false]
        exact (decide_eq_true (by omega)).symm
  · next hne =>
    rcases Nat.lt_or_ge m.length (stripZ l).length with hlt | hge
    · rcases h3 with h0 | ⟨d, t, hd, h49'⟩
      · rw [h0] at hlt; simp at hlt
      · have hw := numA_low d t h49'
        rw [← hd] at hw
        have : 10 ^ m.length ≤ 10 ^ t.length := Nat.pow_le_pow_right (by decide) (by rw [hd] at hlt; simp at hlt; omega)
        simp only [decide_eq_decide]; omega
    · have hu := numA_lt _ h2
      have : 10 ^ (stripZ l).length ≤ 10 ^ r.length := Nat.pow_le_pow_right (by decide) (by rw [hc] at hge hne; simp at hge hne; omega)
      simp only [decide_eq_decide]; omega

theorem numA_ge : ∀ (l : List UInt8) (acc : Nat), acc ≤ numA acc l
  | [], _ => Nat.le_refl _
  | c :: r, acc => by
    rw [numA_c]
    exact Nat.le_trans (by omega) (numA_ge r _)

theorem parse_digits : ∀ (l : List UInt8) (acc : Nat), AllD l → acc ≤ 18446744073709551615 → Lib.parseUintM 18446744073709551615 acc l = if numA acc l ≤ 18446744073709551615 then .ok (numA acc l) else .range
  | [], acc, _, h => by rw [Lib.parseUintM, numA_n, if_pos h]
  | c :: r, acc, hd, h => by
    rw [Lib.parseUintM, numA_c, if_pos hd.head]
    have hge := numA_ge r (acc * 10 + (c.toNat - 48))
    split
    · rw [if_neg (by omega)]
    · split
      · rw [if_neg (by omega)]
      · exact parse_digits r _ hd.tail (by omega)

theorem parse_other : ∀ (l : List UInt8) (acc : Nat), ¬ AllD l → ∀ u, Lib.parseUintM 18446744073709551615 acc l ≠ .ok u
  | [], _, h, _ => absurd (fun c hc => by cases hc) h
  | c :: r, acc, h, u => by
    rw [Lib.parseUintM]
    split
    · next hc =>
      have hr : ¬ AllD r := fun hr => h (fun x hx => by
        rcases List.mem_cons.1 hx with rfl | hx
        · exact hc
        · exact hr x hx)
      split
      · intro he; cases he
      · split
        · intro he; cases he
        · exact parse_other r _ hr u
    · intro he; cases he

theorem int_pos (l : List UInt8) (c : UInt8) (r : List UInt8) (hl : l = c :: r) (hc : 48 ≤ c.toNat ∧ c.toNat ≤ 57) :
    (AllD l → numA 0 l ≤ 9223372036854775807 → Lib.parseIntB 64 l = .ok (numA 0 l : Int)) ∧ (¬ (AllD l ∧ numA 0 l ≤ 9223372036854775807) → ∀ v, Lib.parseIntB 64 l ≠ .ok v) := by
  have e : Lib.parseIntB 64 l = match Lib.parseUintM 18446744073709551615 0 l with
    | .syntax => .syntax
    | .range => .range
    | .ok u => if 9223372036854775808 ≤ u then .range else .ok (u : Int) := by
    rw [hl]
    unfold Lib.parseIntB Lib.parseUintB
    have n1 : ¬ c.toNat = 43 := by omega
    have n2 : ¬ c.toNat = 45 := by omega
    simp only [n1, n2, or_self, if_false, List.cons_ne_nil, not_false_eq_true, true_and, false_and]
    rfl
  constructor
  · intro hd hn
    rw [e, parse_digits l 0 hd (by decide), if_pos (by omega)]
    exact if_neg (by omega)
  · intro h v
    rw [e]
    by_cases hd : AllD l
    · have hn : ¬ numA 0 l ≤ 9223372036854775807 := fun hn => h ⟨hd, hn⟩
      rw [parse_digits l 0 hd (by decide)]
      split
      · intro he; cases he
      · intro he; cases he
      · next u hu =>
        split at hu
        · injection hu with hu
          rw [if_pos (by omega)]; intro he; cases he
        · cases hu
    · have := parse_other l 0 hd
      split
      · intro he; cases he
      · intro he; cases he
      · next u hu => exact absurd hu (this u)

theorem int_neg (l : List UInt8) (c : UInt8) (r : List UInt8) (hl : l = c :: r) (hc : c.toNat = 45) (hr : r ≠ []) :
    (AllD r → numA 0 r ≤ 9223372036854775808 → Lib.parseIntB 64 l = .ok (-(numA 0 r : Int))) ∧ (¬ (AllD r ∧ numA 0 r ≤ 9223372036854775808) → ∀ v, Lib.parseIntB 64 l ≠ .ok v) := by
  have e : Lib.parseIntB 64 l = match Lib.parseUintM 18446744073709551615 0 r with
    | .syntax => .syntax
    | .range => .range
    | .ok u => if 9223372036854775808 < u then .range else .ok (-(u : Int)) := by
    rw [hl]
    unfold Lib.parseIntB Lib.parseUintB
    simp only [hc, or_true, if_true, hr, if_false, not_true_eq_false, true_and, false_and]
    rfl
  constructor
  · intro hd hn
    rw [e, parse_digits r 0 hd (by decide), if_pos (by omega)]
    exact if_neg (by omega)
  · intro h v
    rw [e]
    by_cases hd : AllD r
    · have hn : ¬ numA 0 r ≤ 9223372036854775808 := fun hn => h ⟨hd, hn⟩
      rw [parse_digits r 0 hd (by decide)]
      split
      · intro he; cases he
      · intro he; cases he
      · next u hu =>
        split at hu
        · injection hu with hu
          rw [if_pos (by omega)]; intro he; cases he
        · cases hu
    · have := parse_other r 0 hd
      split
      · intro he; cases he
      · intro he; cases he
      · next u hu => exact absurd hu (this u)

theorem numA_app (acc : Nat) (a b : List UInt8) : numA acc (a ++ b) = numA (numA acc a) b := List.foldl_append

theorem numA_snoc (l : List UInt8) (acc : Nat) (c : UInt8) : numA acc (l ++ [c]) = numA acc l * 10 + (c.toNat - 48) := by
  rw [numA_app, numA_c, numA_n]

theorem numA_take (l : List UInt8) (k : Nat) : numA 0 (l.take k) ≤ numA 0 l := by
  have := numA_app 0 (l.take k) (l.drop k)
  rw [List.take_append_drop] at this
  rw [this]
  exact numA_ge _ _

end Go.Proofs.YtojgfngpndmfoaaDoor
