/- A shape's text: decimal numbers with blanks between; different shapes have different texts. -/
import Derived.Test.YtgligipgjakecaaDoorShapePure
import Derived.Lib.ItoaNum
import Derived.Lib.ItoaMem
import Derived.Lib.ItoaLen
namespace Go.Proofs.YtgligipgjakecaaDoor
set_option linter.unusedSimpArgs false
set_option linter.unusedVariables false
open Go.RowKit

theorem dec_small10 {a : Nat} (h : a < 10) : Lib.decDigits a = [UInt8.ofNat (48 + a)] := by rw [Lib.decDigits, dif_pos h]
theorem dec_big10 {a : Nat} (h : ¬ a < 10) : Lib.decDigits a = Lib.decDigits (a / 10) ++ [UInt8.ofNat (48 + a % 10)] := by rw [Lib.decDigits, dif_neg h]
theorem ofNat_digit {d : Nat} (h : d < 10) : (UInt8.ofNat (48 + d)).toNat = 48 + d := by
  rw [UInt8.toNat_ofNat']
  omega
theorem dec_range : ∀ (a : Nat) (b : UInt8), b ∈ Lib.decDigits a → 48 ≤ b.toNat := by
  intro a
  induction a using Nat.strongRecOn with
  | _ a ih =>
    intro b hb
    by_cases h : a < 10
    · rw [dec_small10 h] at hb
      simp only [List.mem_singleton] at hb
      rw [hb, ofNat_digit h]; omega
    · rw [dec_big10 h] at hb
      rcases List.mem_append.1 hb with h1 | h1
      · exact ih (a / 10) (by omega) b h1
      · simp only [List.mem_singleton] at h1
        rw [h1, ofNat_digit (by omega)]; omega
def valD (l : List UInt8) : Nat := l.foldl (fun a b => a * 10 + (b.toNat - 48)) 0
theorem valD_dec : ∀ a : Nat, valD (Lib.decDigits a) = a := by
  intro a
  induction a using Nat.strongRecOn with
  | _ a ih =>
    by_cases h : a < 10
    · rw [dec_small10 h]
      simp only [valD, List.foldl_cons, List.foldl_nil]
      rw [ofNat_digit h]; omega
    · rw [dec_big10 h]
      have h1 := ih (a / 10) (by omega)
      unfold valD at h1 ⊢
      rw [List.foldl_append, h1]
      simp only [List.foldl_cons, List.foldl_nil]
      rw [ofNat_digit (by omega)]; omega
theorem dec_inj {a b : Nat} (h : Lib.decDigits a = Lib.decDigits b) : a = b := by rw [← valD_dec a, h, valD_dec]
theorem itoa_no32 {n : Int} {b : UInt8} (h : b ∈ Lib.itoa n) : b ≠ 32 := by
  unfold Lib.itoa at h
  intro e
  subst e
  split at h
  · rcases List.mem_cons.1 h with h1 | h1
    · exact absurd h1 (by decide)
    · have := dec_range _ _ h1
      exact absurd this (by decide)
  · have := dec_range _ _ h
    exact absurd this (by decide)
theorem itoa_inj {m n : Int} (h : Lib.itoa m = Lib.itoa n) : m = n := by
  unfold Lib.itoa at h
  by_cases hm : m < 0
  · rw [if_pos hm] at h
    by_cases hn : n < 0
    · rw [if_pos hn] at h
      have := dec_inj (List.cons.inj h).2
      omega
    · rw [if_neg hn] at h
      have := dec_range n.toNat 45 (by rw [← h]; simp)
      exact absurd this (by decide)
  · rw [if_neg hm] at h
    by_cases hn : n < 0
    · rw [if_pos hn] at h
      have := dec_range m.toNat 45 (by rw [h]; simp)
      exact absurd this (by decide)
    · rw [if_neg hn] at h
      have := dec_inj h
      omega

def textL (q : Int) (cs : List Int) : List UInt8 := Lib.itoa q ++ cs.flatMap fun c => 32 :: Lib.itoa c
theorem split32 : ∀ (a a' r r' : List UInt8), (∀ b ∈ a, b ≠ 32) → (∀ b ∈ a', b ≠ 32) → (r = [] ∨ ∃ t, r = 32 :: t) → (r' = [] ∨ ∃ t, r' = 32 :: t) → a ++ r = a' ++ r' → a = a' ∧ r = r'
  | [], [], r, r', _, _, _, _, h => ⟨rfl, by simpa using h⟩
  | [], y :: ys, r, r', _, h2, h3, _, h => by
    simp only [List.nil_append, List.cons_append] at h
    rcases h3 with rfl | ⟨t, rfl⟩
    · cases h
    · exact absurd (List.cons.inj h).1.symm (h2 y (by simp))
  | x :: xs, [], r, r', h1, _, _, h4, h => by
    simp only [List.nil_append, List.cons_append] at h
    rcases h4 with rfl | ⟨t, rfl⟩
    · cases h
    · exact absurd (List.cons.inj h).1 (h1 x (by simp))
  | x :: xs, y :: ys, r, r', h1, h2, h3, h4, h => by
    simp only [List.cons_append] at h
    obtain ⟨e1, e2⟩ := List.cons.inj h
    obtain ⟨e3, e4⟩ := split32 xs ys r r' (fun b hb => h1 b (by simp [hb])) (fun b hb => h2 b (by simp [hb])) h3 h4 e2
    exact ⟨by rw [e1, e3], e4⟩
theorem rest32 (cs : List Int) : (cs.flatMap fun c => 32 :: Lib.itoa c) = [] ∨ ∃ t, (cs.flatMap fun c => 32 :: Lib.itoa c) = 32 :: t := by
  cases cs with
  | nil => exact .inl rfl
  | cons c r => exact .inr ⟨_, rfl⟩
theorem textL_inj : ∀ {cs cs' : List Int} {q q' : Int}, textL q cs = textL q' cs' → q = q' ∧ cs = cs'
  | [], [], q, q', h => by
    unfold textL at h
    simp only [List.flatMap_nil, List.append_nil] at h
    exact ⟨itoa_inj h, rfl⟩
  | [], c' :: r', q, q', h => by
    obtain ⟨_, h2⟩ := split32 _ _ _ _ (fun b hb => itoa_no32 hb) (fun b hb => itoa_no32 hb) (rest32 []) (rest32 (c' :: r')) h
    simp at h2
  | c :: r, [], q, q', h => by
    obtain ⟨_, h2⟩ := split32 _ _ _ _ (fun b hb => itoa_no32 hb) (fun b hb => itoa_no32 hb) (rest32 (c :: r)) (rest32 []) h
    simp at h2
  | c :: r, c' :: r', q, q', h => by
    obtain ⟨h1, h2⟩ := split32 _ _ _ _ (fun b hb => itoa_no32 hb) (fun b hb => itoa_no32 hb) (rest32 (c :: r)) (rest32 (c' :: r')) h
    have h3 : textL c r = textL c' r' := by
      simp only [List.flatMap_cons, List.cons_append, List.cons.injEq, true_and] at h2
      exact h2
    obtain ⟨h4, h5⟩ := textL_inj h3
    exact ⟨itoa_inj h1, by rw [h4, h5]⟩
theorem textL_snoc (q : Int) (cs : List Int) (c : Int) : textL q (cs ++ [c]) = textL q cs ++ 32 :: Lib.itoa c := by
  unfold textL
  rw [List.flatMap_append, ← List.append_assoc]
  simp
theorem textL_len {q : Int} {cs : List Int} (hq : I64 q) (hc : ∀ c ∈ cs, I64 c) : (textL q cs).length ≤ 21 + 22 * cs.length := by
  unfold textL
  rw [List.length_append]
  have h1 := Lib.itoa_length_le q hq.1 hq.2
  have h2 : (cs.flatMap fun c => 32 :: Lib.itoa c).length ≤ 22 * cs.length := by
    induction cs with
    | nil => simp
    | cons c r ih =>
      have h3 := ih (fun x hx => hc x (by simp [hx]))
      have h4 := Lib.itoa_length_le c (hc c (by simp)).1 (hc c (by simp)).2
      simp only [List.flatMap_cons, List.length_append, List.length_cons]
      omega
  omega
end Go.Proofs.YtgligipgjakecaaDoor
