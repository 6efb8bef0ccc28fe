/- A text's token spells its bytes: no program in sight. -/
import Derived.Test.YtplldgkdjainlaaDoorTopQuo
import Derived.Test.YtplldgkdjainlaaDoorLexEachPure
namespace Go.Proofs.YtplldgkdjainlaaDoor
set_option linter.unusedSimpArgs false
set_option linter.unusedVariables false
open Go.RowKit

theorem hexX_end (S : ByteArray) (i : Nat) (h : ¬ i + 3 < S.size) : hexX (S.extract i S.size) = (0, 0) := by
  unfold hexX
  rw [if_pos (by rw [ByteArray.size_extract]; omega)]
theorem escX_end (S : ByteArray) (i : Nat) (h : ¬ i + 1 < S.size) : escX (S.extract i S.size) = (0, 0) := dif_neg (by rw [ByteArray.size_extract]; omega)
theorem escX_sameT (S T : ByteArray) (i j : Nat) (hs : ∀ k (h : i + k < S.size) (h' : j + k < T.size), S[i + k] = T[j + k]) {n : Nat} {b : Int} (he : escX (S.extract i S.size) = (b, (n : Int))) (h0 : 0 < n) (hT : j + n ≤ T.size) : escX (T.extract j T.size) = (b, (n : Int)) := by
  by_cases h1 : i + 1 < S.size
  · rw [escX_at S i h1] at he
    have two : 2 ≤ n → j + 1 < T.size ∧ escX (T.extract j T.size) = escOf (T.extract j T.size) (S[i + 1].toNat : Int) := fun h => by
      have h2 : j + 1 < T.size := by omega
      exact ⟨h2, by rw [escX_at T j h2, hs 1 h1 h2]⟩
    unfold escOf at he
    by_cases h34 : (S[i + 1].toNat : Int) = 34
    · rw [if_pos h34] at he
      injection he with e1 e2
      rw [(two (by omega)).2]; unfold escOf; rw [if_pos h34, e1, e2]
    rw [if_neg h34] at he
    by_cases h92 : (S[i + 1].toNat : Int) = 92
    · rw [if_pos h92] at he
      injection he with e1 e2
      rw [(two (by omega)).2]; unfold escOf; rw [if_neg h34, if_pos h92, e1, e2]
    rw [if_neg h92] at he
    by_cases h110 : (S[i + 1].toNat : Int) = 110
    · rw [if_pos h110] at he
      injection he with e1 e2
      rw [(two (by omega)).2]; unfold escOf; rw [if_neg h34, if_neg h92, if_pos h110, e1, e2]
    rw [if_neg h110] at he
    by_cases h116 : (S[i + 1].toNat : Int) = 116
    · rw [if_pos h116] at he
      injection he with e1 e2
      rw [(two (by omega)).2]; unfold escOf; rw [if_neg h34, if_neg h92, if_neg h110, if_pos h116, e1, e2]
    rw [if_neg h116] at he
    by_cases h114 : (S[i + 1].toNat : Int) = 114
    · rw [if_pos h114] at he
      injection he with e1 e2
      rw [(two (by omega)).2]; unfold escOf; rw [if_neg h34, if_neg h92, if_neg h110, if_neg h116, if_pos h114, e1, e2]
    rw [if_neg h114] at he
    by_cases h120 : (S[i + 1].toNat : Int) = 120
    · rw [if_pos h120] at he
      by_cases h3 : i + 3 < S.size
      · rw [hexX_at S i h3] at he
        have hn4 : n = 4 := by
          revert he
          cases hexD S[i + 2].toNat with
          | none => intro he; injection he with _ e2; omega
          | some a =>
            cases hexD S[i + 3].toNat with
            | none => intro he; injection he with _ e2; omega
            | some c => intro he; injection he with _ e2; omega
        have t3 : j + 3 < T.size := by omega
        rw [(two (by omega)).2]; unfold escOf; rw [if_neg h34, if_neg h92, if_neg h110, if_neg h116, if_neg h114, if_pos h120, hexX_at T j t3, ← hs 2 (by omega) (by omega), ← hs 3 h3 t3]
        exact he
      · rw [hexX_end S i h3] at he
        injection he with _ e2
        omega
    · rw [if_neg h120] at he
      injection he with _ e2
      omega
  · rw [escX_end S i h1] at he
    injection he with _ e2
    omega
theorem extract_get (s : ByteArray) (o e k : Nat) (h : o + k < e) (he : e ≤ s.size) : ∃ h1 : k < (s.extract o e).size, (s.extract o e)[k] = s[o + k] := by
  have hz : (s.extract o e).size = e - o := by rw [ByteArray.size_extract]; omega
  have hk : k < (s.extract o e).size := by omega
  refine ⟨hk, ?_⟩
  have g1 : (s.extract o e).data.toList[k]? = some (s.extract o e)[k] := by
    rw [Array.getElem?_toList]
    exact Array.getElem?_eq_getElem hk
  rw [ByteArray.data_extract, Array.toList_extract, List.extract_eq_take_drop, List.getElem?_take_of_lt (by omega), List.getElem?_drop, Array.getElem?_toList, Array.getElem?_eq_getElem (by show o + k < s.size; omega)] at g1
  exact (Option.some.inj g1).symm
theorem textF_qsp (s : ByteArray) (o : Nat) : ∀ (n i : Nat) (vs : List Int) (t : Tok), s.size - i = n → o < i → vs.length ≤ 255 → textF s o i vs = .tok t →
    ∃ V, t = ⟨4, strOf (vs ++ V), 0, 0, o, t.en⟩ ∧ i + 1 ≤ t.en ∧ (∃ h : t.en - 1 < s.size, (s[t.en - 1].toNat : Int) = 34) ∧ (vs ++ V).length ≤ 255 ∧ (∀ b ∈ V, 0 ≤ b ∧ b ≤ 255) ∧ QSp (s.extract o (t.en - 1)) (i - o) V := by
  intro n
  induction n using Nat.strongRecOn with
  | ind n ih =>
    intro i vs t hn hi hvl h
    rw [textF] at h
    split at h
    · next hlt =>
      split at h
      · cases h
      · next h32 =>
        split at h
        · next h34 =>
          injection h with h
          subst h
          refine ⟨[], by simp, Nat.le_refl _, ⟨by show i + 1 - 1 < s.size; omega, ?_⟩, by simpa using hvl, by simp, ?_⟩
          · exact h34
          · have hz : (s.extract o i).size = i - o := by rw [ByteArray.size_extract]; omega
            have := QSp.done (T := s.extract o i)
            rw [hz] at this
            exact this
        · next h34 =>
          split at h
          · next h92 =>
            split at h
            · cases h
            · next hn0 =>
              split at h
              · cases h
              · next h255 =>
                obtain ⟨V, e1, e2, e3, e4, e5, e6⟩ := ih _ (by omega) _ _ t rfl (by omega) (by rw [List.length_append]; simp only [List.length_cons, List.length_nil]; omega) h
                have hb := escX_bounds (s.extract i s.size)
                have hnn : ((escX (s.extract i s.size)).2.toNat : Int) = (escX (s.extract i s.size)).2 := by omega
                obtain ⟨hen, h34'⟩ := e3
                refine ⟨(escX (s.extract i s.size)).1 :: V, ?_, by omega, ⟨hen, h34'⟩, ?_, ?_, ?_⟩
                · rw [List.append_assoc] at e1; exact e1
                · rw [List.append_assoc] at e4; exact e4
                · intro x hx
                  rcases List.mem_cons.1 hx with rfl | hx
                  · exact hb.2
                  · exact e5 x hx
                · have hz : (s.extract o (t.en - 1)).size = t.en - 1 - o := by rw [ByteArray.size_extract]; omega
                  have hio : o + (i - o) = i := by omega
                  obtain ⟨g1, g2⟩ := extract_get s o (t.en - 1) (i - o) (by omega) (by omega)
                  have hS : ∀ k (h : i + k < s.size) (h' : (i - o) + k < (s.extract o (t.en - 1)).size), s[i + k] = (s.extract o (t.en - 1))[(i - o) + k] := fun k h h' => by
                    obtain ⟨_, g4⟩ := extract_get s o (t.en - 1) (i - o + k) (by omega) (by omega)
                    rw [g4]
                    congr 1
                    omega
                  refine .esc (i - o) (escX (s.extract i s.size)).2.toNat _ g1 V ?_ (escX_sameT s _ i (i - o) hS (Prod.ext rfl (by rw [hnn])) (by omega) (by omega)) (by omega) (by omega) ?_
                  · rw [g2]
                    simp only [hio]
                    exact h92
                  · rw [show i + (escX (s.extract i s.size)).2.toNat - o = i - o + (escX (s.extract i s.size)).2.toNat by omega] at e6
                    exact e6
          · next h92 =>
            split at h
            · cases h
            · next h255 =>
              obtain ⟨V, e1, e2, e3, e4, e5, e6⟩ := ih _ (by omega) _ _ t rfl (by omega) (by rw [List.length_append]; simp only [List.length_cons, List.length_nil]; omega) h
              obtain ⟨hen, h34'⟩ := e3
              have hlt8 := s[i].toNat_lt
              refine ⟨(s[i].toNat : Int) :: V, ?_, by omega, ⟨hen, h34'⟩, ?_, ?_, ?_⟩
              · rw [List.append_assoc] at e1; exact e1
              · rw [List.append_assoc] at e4; exact e4
              · intro x hx
                rcases List.mem_cons.1 hx with rfl | hx
                · omega
                · exact e5 x hx
              · have hz : (s.extract o (t.en - 1)).size = t.en - 1 - o := by rw [ByteArray.size_extract]; omega
                have hio : o + (i - o) = i := by omega
                obtain ⟨g1, g2⟩ := extract_get s o (t.en - 1) (i - o) (by omega) (by omega)
                simp only [hio] at g2
                have hP := QSp.plain (T := s.extract o (t.en - 1)) (i - o) g1 V (by rw [g2]; exact h34) (by rw [g2]; omega) (by rw [g2]; exact h92) (by rw [show i - o + 1 = i + 1 - o by omega]; exact e6)
                rw [g2] at hP
                exact hP
    · cases h
end Go.Proofs.YtplldgkdjainlaaDoor
