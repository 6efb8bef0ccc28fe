/- Whole numbers cut at the greatest uint64; digits to the base 65536. -/
import Derived.WalkKit
namespace Go.Proofs.Ytidllcbagfhndaa
set_option linter.unusedSimpArgs false
set_option linter.unusedVariables false

/-- The number, at most the greatest uint64. -/
def cutN (n : Nat) : Nat := min n 18446744073709551615
theorem cutN_lt (n : Nat) : cutN n < 18446744073709551616 := by unfold cutN; omega
theorem cutN_le (n : Nat) : cutN n ≤ 18446744073709551615 := by unfold cutN; omega
theorem cutN_of {n : Nat} (h : n < 18446744073709551616) : cutN n = n := by unfold cutN; omega
theorem cutN_top {n : Nat} (h : 18446744073709551616 ≤ n) : cutN n = 18446744073709551615 := by unfold cutN; omega
theorem cutN_mono {a b : Nat} (h : a ≤ b) : cutN a ≤ cutN b := by unfold cutN; omega
theorem cutN_add (a b : Nat) : cutN (cutN a + b) = cutN (a + b) := by unfold cutN; omega
theorem cutN_add' (a b : Nat) : cutN (a + cutN b) = cutN (a + b) := by unfold cutN; omega
theorem cutN_add2 (a b : Nat) : cutN (cutN a + cutN b) = cutN (a + b) := by rw [cutN_add, cutN_add']
theorem cutN_cut (a : Nat) : cutN (cutN a) = cutN a := by unfold cutN; omega
theorem cutN_mul (a b : Nat) : cutN (cutN a * b) = cutN (a * b) := by
  rcases Nat.lt_or_ge a 18446744073709551616 with h | h
  · rw [cutN_of h]
  · rw [cutN_top h]
    rcases Nat.eq_zero_or_pos b with rfl | hb
    · simp
    · have h1 : 18446744073709551615 * 1 ≤ 18446744073709551615 * b := Nat.mul_le_mul_left _ hb
      have h2 : a * 1 ≤ a * b := Nat.mul_le_mul_left _ hb
      unfold cutN
      omega
theorem cutN_mul' (a b : Nat) : cutN (a * cutN b) = cutN (a * b) := by rw [Nat.mul_comm, cutN_mul, Nat.mul_comm]
theorem cutN_mul2 (a b : Nat) : cutN (cutN a * cutN b) = cutN (a * b) := by rw [cutN_mul, cutN_mul']
theorem cutN_pow (s : Nat) : ∀ n p : Nat, cutN (p * cutN s ^ n) = cutN (p * s ^ n)
  | 0, p => rfl
  | n + 1, p => by
    rw [Nat.pow_succ, Nat.pow_succ, ← Nat.mul_assoc, ← Nat.mul_assoc, cutN_mul', Nat.mul_right_comm, cutN_pow s n (p * s), Nat.mul_right_comm]
theorem cutN_pow1 (s n : Nat) : cutN (cutN s ^ n) = cutN (s ^ n) := by
  have := cutN_pow s n 1
  simpa using this
/-- One round of the power: the lowest bit of n is told off. -/
theorem pow_round (p s n : Nat) : cutN ((if n % 2 = 1 then cutN (p * s) else p) * (cutN (s * s)) ^ (n / 2)) = cutN (p * s ^ n) := by
  rw [cutN_pow, ← Nat.pow_two, ← Nat.pow_mul]
  by_cases h : n % 2 = 1
  · rw [if_pos h, cutN_mul, Nat.mul_assoc]
    congr 2
    have e : n = 2 * (n / 2) + 1 := by omega
    conv => rhs; rw [e]
    rw [Nat.pow_succ, Nat.mul_comm]
  · rw [if_neg h]
    congr 3
    omega
theorem two_pow_64 {a n : Nat} (ha : 2 ≤ a) (hn : 64 ≤ n) : 18446744073709551616 ≤ a ^ n := by
  have h1 : 2 ^ 64 ≤ 2 ^ n := Nat.pow_le_pow_right (by omega) hn
  have h2 : 2 ^ n ≤ a ^ n := Nat.pow_le_pow_left ha n
  have h3 : (2 : Nat) ^ 64 = 18446744073709551616 := by decide
  omega
/-- From the 64th on a power of 2 and above stands at the greatest. -/
theorem pow_64 {a : Nat} (n : Nat) (ha : 2 ≤ a) : cutN (a ^ (min n 64)) = cutN (a ^ n) := by
  rcases Nat.lt_or_ge n 64 with h | h
  · rw [Nat.min_eq_left (by omega)]
  · rw [Nat.min_eq_right h, cutN_top (two_pow_64 ha (Nat.le_refl _)), cutN_top (two_pow_64 ha h)]

/-- A list of digits, the lowest first. -/
def val : List Nat → Nat
  | [] => 0
  | d :: r => d + 65536 * val r
def Dig (l : List Nat) : Prop := ∀ d ∈ l, d < 65536
theorem Dig.nil : Dig [] := fun d h => by simp at h
theorem Dig.snoc {l : List Nat} {d : Nat} (h : Dig l) (hd : d < 65536) : Dig (l ++ [d]) := fun x hx => by
  rcases List.mem_append.1 hx with h1 | h1
  · exact h x h1
  · simp only [List.mem_singleton] at h1; subst h1; exact hd
theorem val_snoc : ∀ (l : List Nat) (d : Nat), val (l ++ [d]) = val l + 65536 ^ l.length * d
  | [], d => by simp [val]
  | x :: r, d => by
    rw [List.cons_append, val, val, val_snoc r d, List.length_cons, Nat.pow_succ, Nat.mul_add, Nat.mul_right_comm]
    omega
theorem val_zeros (n : Nat) : val (List.replicate n 0) = 0 := by
  induction n with
  | zero => rfl
  | succ n ih => rw [List.replicate_succ, val, ih]
theorem val_drop {l : List Nat} {i d : Nat} (h : l[i]? = some d) : val (l.drop i) = d + 65536 * val (l.drop (i + 1)) := by
  obtain ⟨hi, e⟩ := List.getElem?_eq_some_iff.1 h
  rw [List.drop_eq_getElem_cons hi, e]
  rfl
theorem val_end {l : List Nat} {i : Nat} (h : l.length ≤ i) : val (l.drop i) = 0 := by rw [List.drop_eq_nil_of_le h]; rfl
theorem val_append : ∀ (l m : List Nat), val (l ++ m) = val l + 65536 ^ l.length * val m
  | [], m => by simp [val]
  | x :: r, m => by
    rw [List.cons_append, val, val, val_append r m, List.length_cons, Nat.pow_succ, Nat.mul_add, Nat.mul_right_comm]
    omega
theorem val_lt : ∀ {l : List Nat}, Dig l → val l < 65536 ^ l.length
  | [], _ => by simp [val]
  | x :: r, h => by
    have h1 := val_lt (l := r) fun d hd => h d (List.mem_cons_of_mem _ hd)
    have h2 := h x List.mem_cons_self
    rw [val, List.length_cons, Nat.pow_succ]
    have : val r + 1 ≤ 65536 ^ r.length := h1
    have := Nat.mul_le_mul_right 65536 this
    omega
/-- A digit that is not 0 at the fourth place or above: the number is above the greatest. -/
theorem val_big : ∀ {l : List Nat} {i d : Nat}, l[i]? = some d → 0 < d → 65536 ^ i ≤ val l
  | [], i, d, h, _ => by simp at h
  | x :: r, 0, d, h, hd => by
    simp only [List.getElem?_cons_zero, Option.some.injEq] at h
    subst h
    rw [val]; simp; omega
  | x :: r, i + 1, d, h, hd => by
    rw [List.getElem?_cons_succ] at h
    have := val_big h hd
    rw [val, Nat.pow_succ]
    omega
theorem val_zero : ∀ {l : List Nat}, (∀ d ∈ l, d = 0) → val l = 0
  | [], _ => rfl
  | x :: r, h => by
    rw [val, h x List.mem_cons_self, val_zero fun d hd => h d (List.mem_cons_of_mem _ hd)]
theorem val_take {l : List Nat} (h : ∀ i d, 4 ≤ i → l[i]? = some d → d = 0) : val l = val (l.take 4) := by
  have e : val l = val (l.take 4 ++ l.drop 4) := by rw [List.take_append_drop]
  rw [e, val_append]
  have : val (l.drop 4) = 0 := val_zero fun d hd => by
    obtain ⟨i, hi⟩ := List.getElem?_of_mem hd
    rw [List.getElem?_drop] at hi
    exact h (4 + i) d (by omega) hi
  rw [this, Nat.mul_zero, Nat.add_zero]
theorem Dig.take {l : List Nat} (h : Dig l) (n : Nat) : Dig (l.take n) := fun d hd => h d (List.mem_of_mem_take hd)
theorem Dig.drop {l : List Nat} (h : Dig l) (n : Nat) : Dig (l.drop n) := fun d hd => h d (List.mem_of_mem_drop hd)
theorem val_take_snoc {l : List Nat} {i d : Nat} (h : l[i]? = some d) : val (l.take (i + 1)) = val (l.take i) + 65536 ^ i * d := by
  obtain ⟨hi, e⟩ := List.getElem?_eq_some_iff.1 h
  rw [List.take_succ_eq_append_getElem hi, e, val_snoc, List.length_take, Nat.min_eq_left (by omega)]
end Go.Proofs.Ytidllcbagfhndaa
