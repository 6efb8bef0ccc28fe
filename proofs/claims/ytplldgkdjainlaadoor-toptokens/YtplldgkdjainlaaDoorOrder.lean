/- The plain order behind Compare, without any Go: bytes one by one, constants field by field; a total order. -/
import GoSem.Op.String
import Derived.Laws.Strings
namespace Go.Proofs.YtplldgkdjainlaaDoor
set_option linter.unusedSimpArgs false
set_option linter.unusedVariables false

def cmpI (a b : Int) : Int := if a < b then -1 else if b < a then 1 else 0

def cmpL : List UInt8 → List UInt8 → Int
  | [], [] => 0
  | [], _ :: _ => -1
  | _ :: _, [] => 1
  | x :: xs, y :: ys => if x < y then -1 else if y < x then 1 else cmpL xs ys

theorem cmpI_cases (a b : Int) : (cmpI a b = -1 ∧ a < b) ∨ (cmpI a b = 0 ∧ a = b) ∨ (cmpI a b = 1 ∧ b < a) := by
  unfold cmpI
  by_cases h : a < b
  · rw [if_pos h]; exact .inl ⟨rfl, h⟩
  · rw [if_neg h]
    by_cases h2 : b < a
    · rw [if_pos h2]; exact .inr (.inr ⟨rfl, h2⟩)
    · rw [if_neg h2]; exact .inr (.inl ⟨rfl, by omega⟩)

theorem u8_lt (x y : UInt8) : x < y ↔ x.toNat < y.toNat := UInt8.lt_iff_toNat_lt
theorem u8_eq {x y : UInt8} (h : x.toNat = y.toNat) : x = y := UInt8.toNat_inj.1 h

theorem cmpL_refl (a : List UInt8) : cmpL a a = 0 := by
  induction a with
  | nil => rfl
  | cons x xs ih => unfold cmpL; rw [if_neg (by rw [u8_lt]; omega), if_neg (by rw [u8_lt]; omega)]; exact ih

theorem cmpL_rng : ∀ a b : List UInt8, cmpL a b = -1 ∨ cmpL a b = 0 ∨ cmpL a b = 1
  | [], [] => .inr (.inl rfl)
  | [], _ :: _ => .inl rfl
  | _ :: _, [] => .inr (.inr rfl)
  | x :: xs, y :: ys => by
    unfold cmpL
    split
    · exact .inl rfl
    · split
      · exact .inr (.inr rfl)
      · exact cmpL_rng xs ys

theorem cmpL_zero : ∀ a b : List UInt8, cmpL a b = 0 → a = b
  | [], [], _ => rfl
  | [], _ :: _, h => by simp [cmpL] at h
  | _ :: _, [], h => by simp [cmpL] at h
  | x :: xs, y :: ys, h => by
    unfold cmpL at h
    by_cases h1 : x < y
    · rw [if_pos h1] at h; exact absurd h (by decide)
    · rw [if_neg h1] at h
      by_cases h2 : y < x
      · rw [if_pos h2] at h; exact absurd h (by decide)
      · rw [if_neg h2] at h
        rw [u8_lt] at h1 h2
        rw [u8_eq (x := x) (y := y) (by omega), cmpL_zero xs ys h]

theorem cmpL_anti : ∀ a b : List UInt8, cmpL a b = - cmpL b a
  | [], [] => rfl
  | [], _ :: _ => rfl
  | _ :: _, [] => rfl
  | x :: xs, y :: ys => by
    unfold cmpL
    by_cases h1 : x < y
    · rw [if_pos h1, if_neg (by rw [u8_lt] at *; omega), if_pos h1]
    · rw [if_neg h1]
      by_cases h2 : y < x
      · rw [if_pos h2, if_pos h2]; rfl
      · rw [if_neg h2, if_neg h2, if_neg h1]; exact cmpL_anti xs ys

theorem cmpL_trans : ∀ a b c : List UInt8, cmpL a b ≤ 0 → cmpL b c ≤ 0 → cmpL a c ≤ 0
  | [], _, [], _, _ => by simp [cmpL]
  | [], _, _ :: _, _, _ => by simp [cmpL]
  | _ :: _, [], _, h, _ => by simp [cmpL] at h
  | _ :: _, _ :: _, [], _, h => by simp [cmpL] at h
  | x :: xs, y :: ys, z :: zs, h, k => by
    unfold cmpL at h k ⊢
    simp only [u8_lt] at h k ⊢
    by_cases h1 : x.toNat < y.toNat
    · by_cases k1 : z.toNat < y.toNat
      · rw [if_neg (by omega), if_pos k1] at k; exact absurd k (by decide)
      · rw [if_pos (by omega)]; decide
    · rw [if_neg h1] at h
      by_cases h2 : y.toNat < x.toNat
      · rw [if_pos h2] at h; exact absurd h (by decide)
      · rw [if_neg h2] at h
        by_cases k1 : y.toNat < z.toNat
        · rw [if_pos (by omega)]; decide
        · rw [if_neg k1] at k
          by_cases k2 : z.toNat < y.toNat
          · rw [if_pos k2] at k; exact absurd k (by decide)
          · rw [if_neg k2] at k
            rw [if_neg (by omega), if_neg (by omega)]
            exact cmpL_trans xs ys zs h k

theorem cmpL_pre (p a b : List UInt8) : cmpL (p ++ a) (p ++ b) = cmpL a b := by
  induction p with
  | nil => rfl
  | cons x xs ih => rw [List.cons_append, List.cons_append, cmpL, if_neg (by rw [u8_lt]; omega), if_neg (by rw [u8_lt]; omega)]; exact ih

theorem less_iff : ∀ a b : List UInt8, Op.bytesLess a b = true ↔ cmpL a b = -1
  | [], [] => by simp [Op.bytesLess, cmpL]
  | [], _ :: _ => by simp [Op.bytesLess, cmpL]
  | _ :: _, [] => by simp [Op.bytesLess, cmpL]
  | x :: xs, y :: ys => by
    have ih := less_iff xs ys
    unfold cmpL
    simp only [Op.bytesLess, Bool.or_eq_true, Bool.and_eq_true, decide_eq_true_eq, beq_iff_eq]
    by_cases h1 : x < y
    · rw [if_pos h1]; simp [h1]
    · rw [if_neg h1]
      by_cases h2 : y < x
      · rw [if_pos h2]
        have : x ≠ y := by intro e; rw [e, u8_lt] at h2; omega
        simp [h1, this]
      · rw [if_neg h2]
        have e : x = y := by rw [u8_lt] at h1 h2; exact u8_eq (by omega)
        simp [h1, e, ih]

theorem less_eq (a b : List UInt8) : Op.bytesLess a b = decide (cmpL a b = -1) := by
  have := less_iff a b
  cases h : Op.bytesLess a b
  · rw [h] at this
    simp only [Bool.false_eq_true, false_iff] at this
    simp [this]
  · rw [h] at this
    simp only [true_iff] at this
    simp [this]

/-- A constant: its three fields. -/
structure Con where
  k : Int
  n : Int
  s : ByteArray

def Con.val (c : Con) : Value := .agg #[.int .i64 c.k, .int .i64 c.n, .string c.s]

def cmpC (a b : Con) : Int := if (a.k == b.k) = false then cmpI a.k b.k else if (a.n == b.n) = false then cmpI a.n b.n else cmpL a.s.toList b.s.toList

theorem cmpC_cases (a b : Con) : (a.k < b.k ∧ cmpC a b = -1) ∨ (b.k < a.k ∧ cmpC a b = 1) ∨ (a.k = b.k ∧ a.n < b.n ∧ cmpC a b = -1) ∨ (a.k = b.k ∧ b.n < a.n ∧ cmpC a b = 1) ∨ (a.k = b.k ∧ a.n = b.n ∧ cmpC a b = cmpL a.s.toList b.s.toList) := by
  unfold cmpC
  by_cases h : a.k = b.k
  · rw [if_neg (by simp [h])]
    by_cases h2 : a.n = b.n
    · rw [if_neg (by simp [h2])]; exact .inr (.inr (.inr (.inr ⟨h, h2, rfl⟩)))
    · rw [if_pos (by simp [h2])]
      rcases cmpI_cases a.n b.n with ⟨e, l⟩ | ⟨e, l⟩ | ⟨e, l⟩
      · exact .inr (.inr (.inl ⟨h, l, e⟩))
      · exact absurd l h2
      · exact .inr (.inr (.inr (.inl ⟨h, l, e⟩)))
  · rw [if_pos (by simp [h])]
    rcases cmpI_cases a.k b.k with ⟨e, l⟩ | ⟨e, l⟩ | ⟨e, l⟩
    · exact .inl ⟨l, e⟩
    · exact absurd l h
    · exact .inr (.inl ⟨l, e⟩)

theorem cmpC_rng (a b : Con) : -1 ≤ cmpC a b ∧ cmpC a b ≤ 1 := by
  rcases cmpC_cases a b with ⟨_, e⟩ | ⟨_, e⟩ | ⟨_, _, e⟩ | ⟨_, _, e⟩ | ⟨_, _, e⟩
  all_goals first | (rw [e]; decide) | skip
  rcases cmpL_rng a.s.toList b.s.toList with h | h | h <;> rw [e, h] <;> decide

theorem cmpC_anti (a b : Con) : cmpC a b = - cmpC b a := by
  rcases cmpC_cases a b with ⟨l, e⟩ | ⟨l, e⟩ | ⟨l, m, e⟩ | ⟨l, m, e⟩ | ⟨l, m, e⟩ <;> rcases cmpC_cases b a with ⟨l', e'⟩ | ⟨l', e'⟩ | ⟨l', m', e'⟩ | ⟨l', m', e'⟩ | ⟨l', m', e'⟩
  all_goals first | omega | skip
  have h := cmpL_anti a.s.toList b.s.toList
  omega

theorem cmpC_trans (a b c : Con) (h : cmpC a b ≤ 0) (k : cmpC b c ≤ 0) : cmpC a c ≤ 0 := by
  rcases cmpC_cases a b with ⟨l, e⟩ | ⟨l, e⟩ | ⟨l, m, e⟩ | ⟨l, m, e⟩ | ⟨l, m, e⟩ <;> rcases cmpC_cases b c with ⟨l', e'⟩ | ⟨l', e'⟩ | ⟨l', m', e'⟩ | ⟨l', m', e'⟩ | ⟨l', m', e'⟩ <;> rcases cmpC_cases a c with ⟨l2, e2⟩ | ⟨l2, e2⟩ | ⟨l2, m2, e2⟩ | ⟨l2, m2, e2⟩ | ⟨l2, m2, e2⟩
  all_goals first | (exfalso; omega) | (rw [e2]; decide) | skip
  rw [e] at h; rw [e'] at k; rw [e2]; exact cmpL_trans _ _ _ h k

theorem toList_inj {a b : ByteArray} (h : a.toList = b.toList) : a = b := by
  rw [ByteArray.toList_eq, ByteArray.toList_eq] at h
  cases a; cases b; simp_all

theorem cmpC_refl (a : Con) : cmpC a a = 0 := by
  rcases cmpC_cases a a with ⟨_, e⟩ | ⟨_, e⟩ | ⟨_, _, e⟩ | ⟨_, _, e⟩ | ⟨_, _, e⟩
  all_goals first | omega | (rw [e]; exact cmpL_refl _)

theorem cmpC_zero (a b : Con) : cmpC a b = 0 ↔ (a.k = b.k ∧ a.n = b.n ∧ a.s.toList = b.s.toList) := by
  rcases cmpC_cases a b with ⟨l, e⟩ | ⟨l, e⟩ | ⟨l, m, e⟩ | ⟨l, m, e⟩ | ⟨l, m, e⟩
  all_goals first | (rw [e]; constructor <;> intro h <;> omega) | skip
  rw [e]
  constructor
  · exact fun h => ⟨l, m, cmpL_zero _ _ h⟩
  · rintro ⟨_, _, h⟩; rw [h]; exact cmpL_refl _

end Go.Proofs.YtplldgkdjainlaaDoor
