/- What a rule of parse's grammar leaves is no longer than what it began with. -/
import Derived.Test.YtfbmddgjbmapiaaDoorParseAtomMem
namespace Go.Proofs.YtfbmddgjbmapiaaDoor
set_option linter.unusedSimpArgs false
set_option linter.unusedVariables false
open Go.RowKit

theorem take_len {c f : Int} {ks : List Int} {R r : List Tok} {t : Tok} (h : takeP c f ks R = .ok t r) : r.length + 1 = R.length := by
  obtain ⟨rfl, _⟩ := take_eq h
  rfl
theorem args_len {c f : Int} {ks : List Int} : ∀ (n : Nat) (acc : List Trm) (R r : List Tok) (ts : List Trm), R.length = n → argsP c f ks acc R = .ok ts r → r.length < R.length := by
  intro n
  induction n using Nat.strongRecOn with
  | ind n ih =>
    intro acc R r ts hn h
    cases hT : takeP c f ks R with
    | bad ec eo => rw [args_bad1 hT] at h; cases h
    | ok t r1 =>
      have l1 := take_len hT
      by_cases h8 : acc.length = 8
      · rw [args_lim hT h8] at h; cases h
      · rw [args_next hT h8] at h
        cases hU : takeP c f [7, 6] r1 with
        | bad ec eo => rw [hU] at h; cases h
        | ok s r2 =>
          have l2 := take_len hU
          rw [hU] at h
          simp only at h
          by_cases h7 : s.k = 7
          · rw [if_pos h7] at h
            have := ih r2.length (by omega) _ r2 r ts rfl h
            omega
          · rw [if_neg h7] at h
            injection h with e1 e2
            subst e2
            omega
theorem atom_len {c f : Int} {ks : List Int} {name : Tok} {R r : List Tok} {a : PAtom} (h : atomP c f ks name R = .ok a r) : r.length ≤ R.length := by
  match R, h with
  | [], h => simp [atomP] at h
  | t :: r1, h =>
    unfold atomP at h
    simp only at h
    by_cases h5 : t.k = 5
    · rw [if_pos h5] at h
      cases hA : argsP c f ks [] r1 with
      | bad ec eo => rw [hA] at h; cases h
      | ok ts r2 =>
        rw [hA] at h
        injection h with e1 e2
        subst e2
        have := args_len _ _ _ _ _ rfl hA
        simp only [List.length_cons]
        omega
    · rw [if_neg h5] at h
      injection h with e1 e2
      subst e2
      exact Nat.le_refl _
theorem lit_len {c f : Int} {first : Tok} {R r : List Tok} {x : PLit} (h : litP c f first R = .ok x r) : r.length ≤ R.length := by
  have test : ∀ (q : PLit) (r : List Tok), (match takeP c f [11] R with
      | .bad c o => PR.bad c o
      | .ok o1 r' => match takeP c f termKs r' with
        | .bad c o => .bad c o
        | .ok t2 r'' => .ok ⟨3, zeroAtom, o1.op, termP first, termP t2, first.off⟩ r'') = PR.ok q r → r.length ≤ R.length := by
    intro q r h
    cases hT : takeP c f [11] R with
    | bad ec eo => rw [hT] at h; cases h
    | ok o1 r1 =>
      rw [hT] at h
      simp only at h
      cases hU : takeP c f termKs r1 with
      | bad ec eo => rw [hU] at h; cases h
      | ok t2 r2 =>
        rw [hU] at h
        injection h with e1 e2
        subst e2
        have := take_len hT
        have := take_len hU
        omega
  unfold litP at h
  by_cases h10 : first.k = 10
  · rw [if_pos h10] at h
    cases hT : takeP c f [1] R with
    | bad ec eo => rw [hT] at h; cases h
    | ok n r1 =>
      rw [hT] at h
      simp only at h
      cases hA : atomP c f termKs n r1 with
      | bad ec eo => rw [hA] at h; cases h
      | ok a r2 =>
        rw [hA] at h
        injection h with e1 e2
        subst e2
        have := take_len hT
        have := atom_len hA
        omega
  · rw [if_neg h10] at h
    simp only at h
    by_cases h1 : first.k = 1
    · rw [if_pos h1] at h
      cases R with
      | nil => cases h
      | cons t r1 =>
        simp only at h
        by_cases h11 : t.k = 11
        · rw [if_pos h11] at h; exact test _ _ h
        · rw [if_neg h11] at h
          cases hA : atomP c f termKs first (t :: r1) with
          | bad ec eo => rw [hA] at h; cases h
          | ok a r2 =>
            rw [hA] at h
            injection h with e1 e2
            subst e2
            exact atom_len hA
    · rw [if_neg h1] at h; exact test _ _ h
theorem body_len {c f : Int} : ∀ (n : Nat) (acc : List PLit) (R r : List Tok) (b : List PLit), bodyF c f n acc R = .ok b r → r.length < R.length := by
  intro n
  induction n with
  | zero => intro acc R r b h; cases h
  | succ n ih =>
    intro acc R r b h
    unfold bodyF at h
    cases hT : takeP c f [1, 10, 2, 3, 4] R with
    | bad ec eo => rw [hT] at h; cases h
    | ok t r1 =>
      rw [hT] at h
      simp only at h
      have l1 := take_len hT
      by_cases h16 : acc.length = 16
      · rw [if_pos h16] at h; cases h
      · rw [if_neg h16] at h
        cases hL : litP c f t r1 with
        | bad ec eo => rw [hL] at h; cases h
        | ok x r2 =>
          rw [hL] at h
          simp only at h
          have l2 := lit_len hL
          cases hU : takeP c f [7, 8] r2 with
          | bad ec eo => rw [hU] at h; cases h
          | ok s r3 =>
            rw [hU] at h
            simp only at h
            have l3 := take_len hU
            by_cases h8 : s.k = 8
            · rw [if_pos h8] at h
              injection h with e1 e2
              subst e2
              omega
            · rw [if_neg h8] at h
              have := ih _ _ _ _ h
              omega
section
variable {c f ec eo : Int} {n : Nat} {acc : List PLit} {R r1 r2 r3 : List Tok} {t s : Tok} {x : PLit}
theorem body_bad1 (hT : takeP c f [1, 10, 2, 3, 4] R = .bad ec eo) : bodyF c f (n + 1) acc R = .bad ec eo := by rw [bodyF, hT]
theorem body_lim (hT : takeP c f [1, 10, 2, 3, 4] R = .ok t r1) (h : acc.length = 16) : bodyF c f (n + 1) acc R = .bad 23 t.off := by rw [bodyF, hT]; simp only; rw [if_pos h]
theorem body_lit (hT : takeP c f [1, 10, 2, 3, 4] R = .ok t r1) (h : acc.length ≠ 16) (hL : litP c f t r1 = .bad ec eo) : bodyF c f (n + 1) acc R = .bad ec eo := by rw [bodyF, hT]; simp only; rw [if_neg h, hL]
theorem body_sep (hT : takeP c f [1, 10, 2, 3, 4] R = .ok t r1) (h : acc.length ≠ 16) (hL : litP c f t r1 = .ok x r2) (hU : takeP c f [7, 8] r2 = .bad ec eo) : bodyF c f (n + 1) acc R = .bad ec eo := by rw [bodyF, hT]; simp only; rw [if_neg h, hL]; simp only; rw [hU]
theorem body_end (hT : takeP c f [1, 10, 2, 3, 4] R = .ok t r1) (h : acc.length ≠ 16) (hL : litP c f t r1 = .ok x r2) (hU : takeP c f [7, 8] r2 = .ok s r3) (h8 : s.k = 8) : bodyF c f (n + 1) acc R = .ok (acc ++ [x]) r3 := by rw [bodyF, hT]; simp only; rw [if_neg h, hL]; simp only; rw [hU]; simp only; rw [if_pos h8]
theorem body_more (hT : takeP c f [1, 10, 2, 3, 4] R = .ok t r1) (h : acc.length ≠ 16) (hL : litP c f t r1 = .ok x r2) (hU : takeP c f [7, 8] r2 = .ok s r3) (h8 : s.k ≠ 8) : bodyF c f (n + 1) acc R = bodyF c f n (acc ++ [x]) r3 := by rw [bodyF, hT]; simp only; rw [if_neg h, hL]; simp only; rw [hU]; simp only; rw [if_neg h8]
end
theorem clause_len {c f : Int} {name : Tok} {R r : List Tok} {x : PCls} (h : clauseP c f name R = .ok x r) : r.length < R.length := by
  unfold clauseP at h
  cases hA : atomP c f termKs name R with
  | bad ec eo => rw [hA] at h; cases h
  | ok a r1 =>
    rw [hA] at h
    simp only at h
    have l1 := atom_len hA
    cases hT : takeP c f [8, 9] r1 with
    | bad ec eo => rw [hT] at h; cases h
    | ok s r2 =>
      rw [hT] at h
      simp only at h
      have l2 := take_len hT
      by_cases h9 : s.k = 9
      · rw [if_pos h9] at h
        cases hB : bodyP c f r2 with
        | bad ec eo => rw [hB] at h; cases h
        | ok b r3 =>
          rw [hB] at h
          injection h with e1 e2
          subst e2
          have := body_len _ _ _ _ _ hB
          omega
      · rw [if_neg h9] at h
        injection h with e1 e2
        subst e2
        omega
section
variable {c f ec eo : Int} {n : Nat} {acc : List PCls} {fs : List PAtom} {R r1 r2 r3 : List Tok} {t s : Tok} {x : PCls} {y : PAtom}
theorem prog_bad1 (hT : takeP c f [1, 0] R = .bad ec eo) : progF c f (n + 1) acc R = .bad ec eo := by rw [progF, hT]
theorem prog_end (hT : takeP c f [1, 0] R = .ok t r1) (h0 : t.k = 0) : progF c f (n + 1) acc R = .ok acc r1 := by rw [progF, hT]; simp only; rw [if_pos h0]
theorem prog_lim (hT : takeP c f [1, 0] R = .ok t r1) (h0 : t.k ≠ 0) (h : acc.length = 512) : progF c f (n + 1) acc R = .bad 24 t.off := by rw [progF, hT]; simp only; rw [if_neg h0, if_pos h]
theorem prog_cls (hT : takeP c f [1, 0] R = .ok t r1) (h0 : t.k ≠ 0) (h : acc.length ≠ 512) (hC : clauseP c f t r1 = .bad ec eo) : progF c f (n + 1) acc R = .bad ec eo := by rw [progF, hT]; simp only; rw [if_neg h0, if_neg h, hC]
theorem prog_more (hT : takeP c f [1, 0] R = .ok t r1) (h0 : t.k ≠ 0) (h : acc.length ≠ 512) (hC : clauseP c f t r1 = .ok x r2) : progF c f (n + 1) acc R = progF c f n (acc ++ [x]) r2 := by rw [progF, hT]; simp only; rw [if_neg h0, if_neg h, hC]
theorem facts_bad1 (hT : takeP c f [1, 0] R = .bad ec eo) : factsF c f (n + 1) fs R = .bad ec eo := by rw [factsF, hT]
theorem facts_end (hT : takeP c f [1, 0] R = .ok t r1) (h0 : t.k = 0) : factsF c f (n + 1) fs R = .ok fs r1 := by rw [factsF, hT]; simp only; rw [if_pos h0]
theorem facts_lim (hT : takeP c f [1, 0] R = .ok t r1) (h0 : t.k ≠ 0) (h : fs.length = 4096) : factsF c f (n + 1) fs R = .bad 24 t.off := by rw [factsF, hT]; simp only; rw [if_neg h0, if_pos h]
theorem facts_atom (hT : takeP c f [1, 0] R = .ok t r1) (h0 : t.k ≠ 0) (h : fs.length ≠ 4096) (hC : atomP c f valueKs t r1 = .bad ec eo) : factsF c f (n + 1) fs R = .bad ec eo := by rw [factsF, hT]; simp only; rw [if_neg h0, if_neg h, hC]
theorem facts_dot (hT : takeP c f [1, 0] R = .ok t r1) (h0 : t.k ≠ 0) (h : fs.length ≠ 4096) (hC : atomP c f valueKs t r1 = .ok y r2) (hD : takeP c f [8] r2 = .bad ec eo) : factsF c f (n + 1) fs R = .bad ec eo := by rw [factsF, hT]; simp only; rw [if_neg h0, if_neg h, hC]; simp only; rw [hD]
theorem facts_more (hT : takeP c f [1, 0] R = .ok t r1) (h0 : t.k ≠ 0) (h : fs.length ≠ 4096) (hC : atomP c f valueKs t r1 = .ok y r2) (hD : takeP c f [8] r2 = .ok s r3) : factsF c f (n + 1) fs R = factsF c f n (fs ++ [y]) r3 := by rw [factsF, hT]; simp only; rw [if_neg h0, if_neg h, hC]; simp only; rw [hD]
end
end Go.Proofs.YtfbmddgjbmapiaaDoor
