/- Where no token stands: the five ways. -/
import Derived.Test.YtplldgkdjainlaaDoorProg
import Derived.Test.YtplldgkdjainlaaDoorLexNext
import Derived.Test.YtplldgkdjainlaaDoorLexLocal
namespace Go.Proofs.YtplldgkdjainlaaDoor
set_option linter.unusedSimpArgs false
set_option linter.unusedVariables false
open Go.RowKit

theorem has_one (s : ByteArray) (g : Nat) (hg : g < s.size) (b : UInt8) : Lib.hasPrefix (rest s g) [b] = ((s[g].toNat : Int) == (b.toNat : Int)) := by
  rw [rest_cons s g hg]
  show (b == s[g] && List.isPrefixOf [] _) = _
  rw [Bool.eq_iff_iff]
  simp only [List.isPrefixOf_nil_left, Bool.and_true, beq_iff_eq]
  constructor
  · intro h; rw [h]
  · intro h
    have : s[g].toNat = b.toNat := by omega
    exact (UInt8.toNat_inj.1 this).symm
theorem has_two (s : ByteArray) (g : Nat) (hg : g + 1 < s.size) (b d : UInt8) : Lib.hasPrefix (rest s g) [b, d] = ((s[g].toNat : Int) == (b.toNat : Int) && (s[g + 1].toNat : Int) == (d.toNat : Int)) := by
  have h1 := has_one s g (by omega) b
  have h2 := has_one s (g + 1) hg d
  rw [rest_cons s g (by omega)] at h1 ⊢
  have e1 : (b == s[g] && List.isPrefixOf [] (rest s (g + 1))) = ((s[g].toNat : Int) == (b.toNat : Int)) := h1
  rw [List.isPrefixOf_nil_left, Bool.and_true] at e1
  show (b == s[g] && List.isPrefixOf [d] (rest s (g + 1))) = _
  rw [e1]
  have e2 : List.isPrefixOf [d] (rest s (g + 1)) = _ := h2
  rw [e2]

theorem punctL_none {l : List UInt8} : ∀ {T : List (List UInt8 × Int × Int)}, punctL T l = none → ∀ m ∈ T, Lib.hasPrefix l m.1 = false
  | [], _, m, hm => nomatch hm
  | a :: r, h, m, hm => by
    rw [punctL] at h
    cases ha : Lib.hasPrefix l a.1 with
    | true => rw [ha] at h; cases h
    | false =>
      rw [ha] at h
      rcases List.mem_cons.1 hm with rfl | hm
      · exact ha
      · exact punctL_none (by simpa using h) m hm
theorem beq_of_dec {a b : Int} (h : ¬ a = b) : (a == b) = false := by simpa using h

/-- The ways in which nothing stands at a place. -/
theorem tok_bad {s : ByteArray} {g : Nat} {c : Int} {f : Nat} (h : tokAt s g = .bad c f) : ∃ hg : g < s.size,
    (bDig (s[g].toNat : Int) = false ∧ ((s[g].toNat : Int) == 45) = false ∧ bWord (s[g].toNat : Int) = true ∧ 64 < runC (rest s g) ∧ c = 14 ∧ f = g) ∨
    (begB (s.extract g s.size) = true ∧ (∀ v, Lib.parseIntB 64 (s.extract g (g + 1 + runC (rest s (g + 1)))).data.toList ≠ .ok v) ∧ c = 13 ∧ f = g) ∨
    (begB (s.extract g s.size) = false ∧ (s[g].toNat : Int) = 34 ∧ textX s g = .bad c f) ∨
    (begB (s.extract g s.size) = false ∧ bWord (s[g].toNat : Int) = false ∧ ((s[g].toNat : Int) == 34) = false ∧ c = 10 ∧ f = g ∧
      (((s[g].toNat : Int) == 58) = false ∨ ∀ h1 : g + 1 < s.size, ((s[g + 1].toNat : Int) == 45) = false) ∧ (((s[g].toNat : Int) == 33) = false ∨ ∀ h1 : g + 1 < s.size, ((s[g + 1].toNat : Int) == 61) = false) ∧
      ((s[g].toNat : Int) == 40) = false ∧ ((s[g].toNat : Int) == 41) = false ∧ ((s[g].toNat : Int) == 44) = false ∧ ((s[g].toNat : Int) == 46) = false ∧ ((s[g].toNat : Int) == 61) = false ∧ ((s[g].toNat : Int) == 60) = false ∧ ((s[g].toNat : Int) == 62) = false) := by
  unfold tokAt at h
  by_cases hg : g < s.size
  · rw [dif_pos hg] at h
    refine ⟨hg, ?_⟩
    cases hw : bLow (s[g].toNat : Int) || (bUp (s[g].toNat : Int) || (s[g].toNat : Int) == 95) with
    | true =>
      rw [hw, if_pos rfl] at h
      have hw2 : bDig (s[g].toNat : Int) = false ∧ ((s[g].toNat : Int) == 45) = false ∧ bWord (s[g].toNat : Int) = true := by
        unfold bWord bDig bLow bUp at *
        simp only [Bool.or_eq_true, Bool.and_eq_true, decide_eq_true_eq, beq_iff_eq, beq_eq_false_iff_ne, Bool.and_eq_false_imp, decide_eq_false_iff_not, ne_eq] at hw ⊢
        omega
      unfold wordX at h
      by_cases h64 : 64 < runC (rest s g)
      · simp only [if_pos h64] at h
        injection h with e1 e2
        exact .inl ⟨hw2.1, hw2.2.1, hw2.2.2, h64, e1.symm, e2.symm⟩
      · simp only [if_neg h64] at h
        repeat' split at h
        all_goals cases h
    | false =>
      rw [hw, if_neg (by simp)] at h
      cases hb : begB (s.extract g s.size) with
      | true =>
        rw [hb, if_pos rfl] at h
        unfold intX at h
        split at h
        · cases h
        · next hn =>
          injection h with e1 e2
          exact .inr (.inl ⟨rfl, hn, e1.symm, e2.symm⟩)
      | false =>
        rw [hb, if_neg (by simp)] at h
        by_cases h34 : (s[g].toNat : Int) = 34
        · rw [if_pos h34] at h
          exact .inr (.inr (.inl ⟨rfl, h34, h⟩))
        · rw [if_neg h34] at h
          have hd : bDig (s[g].toNat : Int) = false := by
            rw [beg_rest, rest_cons s g hg] at hb
            unfold begL at hb
            simp only [List.getElem?_cons_zero, Option.getD_some, Bool.or_eq_false_iff] at hb
            exact hb.1
          have hwo : bWord (s[g].toNat : Int) = false := by
            simp only [Bool.or_eq_false_iff] at hw
            unfold bWord
            rw [hw.1, hw.2.1, hd, hw.2.2]; rfl
          unfold punctX at h
          cases hp : punctL marksT (rest s g) with
          | some x => rw [hp] at h; obtain ⟨n, k, op⟩ := x; cases h
          | none =>
            rw [hp] at h
            injection h with e1 e2
            have hq := punctL_none hp
            have n1 := hq ([58, 45], 9, 0) (by simp [marksT])
            have n2 := hq ([33, 61], 11, 2) (by simp [marksT])
            have n5 := hq ([60], 11, 3) (by simp [marksT])
            have n6 := hq ([62], 11, 5) (by simp [marksT])
            have n7 := hq ([61], 11, 1) (by simp [marksT])
            have n8 := hq ([40], 5, 0) (by simp [marksT])
            have n9 := hq ([41], 6, 0) (by simp [marksT])
            have n10 := hq ([44], 7, 0) (by simp [marksT])
            have n11 := hq ([46], 8, 0) (by simp [marksT])
            clear hq hp
            dsimp only at n1 n2 n5 n6 n7 n8 n9 n10 n11
            rw [has_one s g hg] at n5 n6 n7 n8 n9 n10 n11
            refine .inr (.inr (.inr ⟨rfl, hwo, beq_of_dec h34, e1.symm, e2.symm, ?_, ?_, n8, n9, n10, n11, n7, n5, n6⟩))
            · by_cases h1 : g + 1 < s.size
              · rw [has_two s g h1, Bool.and_eq_false_iff] at n1
                rcases n1 with h | h
                · exact .inl h
                · exact .inr fun _ => h
              · exact .inr fun h2 => absurd h2 h1
            · by_cases h1 : g + 1 < s.size
              · rw [has_two s g h1, Bool.and_eq_false_iff] at n2
                rcases n2 with h | h
                · exact .inl h
                · exact .inr fun _ => h
              · exact .inr fun h2 => absurd h2 h1
  · rw [dif_neg hg] at h
    cases h
end Go.Proofs.YtplldgkdjainlaaDoor
