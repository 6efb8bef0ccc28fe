/- Chains of tokens: what stands where, how it ends: no program in sight. -/
import Derived.Test.YtplldgkdjainlaaDoorLexRow
namespace Go.Proofs.YtplldgkdjainlaaDoor
set_option linter.unusedSimpArgs false
set_option linter.unusedVariables false
open Go.RowKit

theorem endOf_snoc (t : Tok) : ∀ (l : List Tok) (o : Nat), endOf o (l ++ [t]) = t.en
  | [], _ => rfl
  | x :: r, _ => endOf_snoc t r x.en

theorem toks_at {s : ByteArray} {o : Nat} {L : List Tok} {c : Int} {f : Nat} (h : Toks s o L c f) : ∀ i t, L[i]? = some t → nextX s (endOf o (L.take i)) = .tok t ∧ endOf o (L.take i) ≤ s.size := by
  induction h with
  | bad _ _ => intro i t h; simp at h
  | last h1 h2 h3 =>
    intro i t h
    rcases i with _ | i
    · obtain rfl := Option.some.inj h; exact ⟨h2, h1⟩
    · simp at h
  | more h1 h2 h3 h4 ih =>
    intro i t h
    rcases i with _ | i
    · obtain rfl := Option.some.inj h; exact ⟨h2, h1⟩
    · exact ih i t h

theorem next_end {s : ByteArray} {o : Nat} {t : Tok} (ho : o ≤ s.size) (h : nextX s o = .tok t) (hk : t.k = 0) : t = endTok s.size := by
  have hg := gapW_le s o ho
  unfold nextX at h
  split at h
  · obtain ⟨_, h2⟩ := tokAt_en hg.2 h
    rcases h2 with ⟨_, h3, _⟩ | ⟨h3, _⟩
    · rw [h3] at h
      unfold tokAt at h
      rw [dif_neg (by omega)] at h
      injection h with h
      exact h.symm
    · omega
  · cases h

theorem toks_zero {s : ByteArray} {o : Nat} {L : List Tok} {c : Int} {f : Nat} (h : Toks s o L c f) (hc : c = 0) : f = 0 ∧ 0 < L.length ∧ L[L.length - 1]? = some (endTok s.size) ∧ ∀ i t, L[i]? = some t → i + 1 < L.length → t.k ≠ 0 := by
  induction h with
  | bad h1 h2 => have := next_bad h2; omega
  | last h1 h2 h3 =>
    refine ⟨rfl, by simp, by rw [← next_end h1 h2 h3]; rfl, ?_⟩
    intro i t h hi
    simp at hi
  | more h1 h2 h3 h4 ih =>
    obtain ⟨a, b, d, e⟩ := ih hc
    refine ⟨a, by simp, ?_, ?_⟩
    · rw [← d, List.length_cons, show ∀ n, 0 < n → n + 1 - 1 = (n - 1) + 1 from fun n hn => by omega]
      · rfl
      · exact b
    · intro i t h hi
      rcases i with _ | i
      · obtain rfl := Option.some.inj h; exact h3
      · exact e i t h (by simpa using hi)

theorem toks_bad {s : ByteArray} {o : Nat} {L : List Tok} {c : Int} {f : Nat} (h : Toks s o L c f) (hc : c ≠ 0) : nextX s (endOf o L) = .bad c f ∧ endOf o L ≤ s.size ∧ ∀ t ∈ L, t.k ≠ 0 := by
  induction h with
  | bad h1 h2 => exact ⟨h2, h1, by simp⟩
  | last h1 h2 h3 => exact absurd rfl hc
  | more h1 h2 h3 h4 ih =>
    obtain ⟨a, b, d⟩ := ih hc
    refine ⟨a, b, ?_⟩
    intro t ht
    rcases List.mem_cons.1 ht with rfl | ht
    · exact h3
    · exact d t ht

theorem toks_len {s : ByteArray} {o : Nat} {L : List Tok} {c : Int} {f : Nat} (h : Toks s o L c f) : L.length + o ≤ s.size + 1 := by
  induction h with
  | bad h1 h2 => simp; omega
  | last h1 h2 h3 => simp; omega
  | more h1 h2 h3 h4 ih =>
    obtain ⟨-, -, a, b⟩ := next_tok h1 h2
    obtain ⟨_, b1, b2⟩ := b.resolve_left (fun h => h3 h.1)
    simp
    omega

end Go.Proofs.YtplldgkdjainlaaDoor
