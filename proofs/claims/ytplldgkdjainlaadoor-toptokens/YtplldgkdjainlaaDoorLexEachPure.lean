/- The tokens of a text, one behind the other: no program in sight. -/
import Derived.Test.YtplldgkdjainlaaDoorLexNext
namespace Go.Proofs.YtplldgkdjainlaaDoor
set_option linter.unusedSimpArgs false
set_option linter.unusedVariables false
open Go.RowKit

theorem wordX_en {s : ByteArray} {o : Nat} {t : Tok} (ho : o < s.size) (hw : bWord (s[o].toNat : Int) = true) (h : wordX s o = .tok t) : t.off = o ∧ o < t.en ∧ t.en ≤ s.size ∧ 1 ≤ t.k := by
  have hm1 : 1 ≤ runC (rest s o) := by rw [rest_cons s o ho]; unfold runC; rw [if_pos hw]; omega
  have hm2 := runC_le (rest s o)
  rw [rest_len] at hm2
  unfold wordX at h
  simp only at h
  repeat' split at h
  all_goals first | (injection h with h; subst h; refine ⟨rfl, ?_, ?_, ?_⟩ <;> (try dsimp only) <;> omega) | cases h

theorem intX_en {s : ByteArray} {o : Nat} {t : Tok} (ho : o < s.size) (h : intX s o = .tok t) : t.off = o ∧ o < t.en ∧ t.en ≤ s.size ∧ 1 ≤ t.k := by
  have hm2 := runC_le (rest s (o + 1))
  rw [rest_len] at hm2
  unfold intX at h
  split at h
  · injection h with h; subst h; refine ⟨rfl, ?_, ?_, ?_⟩ <;> (try dsimp only) <;> omega
  · cases h

theorem textF_en (s : ByteArray) (o : Nat) : ∀ (n i : Nat) (vs : List Int) (t : Tok), s.size - i = n → o < i → textF s o i vs = .tok t → t.off = o ∧ o < t.en ∧ t.en ≤ s.size ∧ 1 ≤ t.k := by
  intro n
  induction n using Nat.strongRecOn with
  | ind n ih =>
    intro i vs t hn hi h
    rw [textF] at h
    split at h
    · next hlt =>
      split at h
      · cases h
      · split at h
        · injection h with h; subst h; refine ⟨rfl, ?_, ?_, ?_⟩ <;> (try dsimp only) <;> omega
        · split at h
          · split at h
            · cases h
            · split at h
              · cases h
              · exact ih _ (by omega) _ _ t rfl (by omega) h
          · split at h
            · cases h
            · exact ih _ (by omega) _ _ t rfl (by omega) h
    · cases h

theorem punctL_len {l : List UInt8} {n : Nat} {k op : Int} : ∀ {ms : List (List UInt8 × Int × Int)}, (∀ m ∈ ms, 1 ≤ m.1.length ∧ 1 ≤ m.2.1) → punctL ms l = some (n, k, op) → 1 ≤ n ∧ n ≤ l.length ∧ 1 ≤ k
  | [], _, h => by cases h
  | m :: r, hm, h => by
    unfold punctL at h
    split at h
    · next hp =>
      injection h with h
      injection h with h1 h2
      injection h2 with h2 h3
      subst h1 h2
      have := (List.isPrefixOf_iff_prefix.1 hp).length_le
      exact ⟨(hm m (List.mem_cons_self ..)).1, this, (hm m (List.mem_cons_self ..)).2⟩
    · exact punctL_len (fun x hx => hm x (List.mem_cons_of_mem _ hx)) h

theorem punctX_en {s : ByteArray} {o : Nat} {t : Tok} (ho : o < s.size) (h : punctX s o = .tok t) : t.off = o ∧ o < t.en ∧ t.en ≤ s.size ∧ 1 ≤ t.k := by
  unfold punctX at h
  cases hp : punctL marksT (rest s o) with
  | none => rw [hp] at h; cases h
  | some x =>
    obtain ⟨n, k, op⟩ := x
    rw [hp] at h
    have hn := punctL_len (by decide) hp
    rw [rest_len] at hn
    unfold punctOf at h
    injection h with h
    subst h
    refine ⟨rfl, ?_, ?_, hn.2.2⟩ <;> (try dsimp only) <;> omega

theorem tokAt_en {s : ByteArray} {g : Nat} {t : Tok} (hg : g ≤ s.size) (h : tokAt s g = .tok t) : t.off = g ∧ ((t.k = 0 ∧ g = s.size ∧ t.en = g) ∨ (1 ≤ t.k ∧ g < t.en ∧ t.en ≤ s.size)) := by
  unfold tokAt at h
  split at h
  · next hlt =>
    split at h
    · next hw =>
      have hb : bWord (s[g].toNat : Int) = true := by
        unfold bWord
        revert hw
        cases bLow (s[g].toNat : Int) <;> cases bUp (s[g].toNat : Int) <;> cases ((s[g].toNat : Int) == 95) <;> simp
      have := wordX_en hlt hb h
      exact ⟨this.1, .inr ⟨this.2.2.2, this.2.1, this.2.2.1⟩⟩
    · split at h
      · have := intX_en hlt h
        exact ⟨this.1, .inr ⟨this.2.2.2, this.2.1, this.2.2.1⟩⟩
      · split at h
        · have := textF_en s g _ (g + 1) [] t rfl (by omega) h
          exact ⟨this.1, .inr ⟨this.2.2.2, this.2.1, this.2.2.1⟩⟩
        · have := punctX_en hlt h
          exact ⟨this.1, .inr ⟨this.2.2.2, this.2.1, this.2.2.1⟩⟩
  · injection h with h
    subst h
    exact ⟨rfl, .inl ⟨rfl, by omega, rfl⟩⟩

theorem next_tok {s : ByteArray} {o : Nat} {t : Tok} (ho : o ≤ s.size) (h : nextX s o = .tok t) :
    (gapW s o).2 = true ∧ t.off = (gapW s o).1 ∧ o ≤ t.off ∧ ((t.k = 0 ∧ t.off = s.size ∧ t.en = s.size) ∨ (1 ≤ t.k ∧ t.off < t.en ∧ t.en ≤ s.size)) := by
  have hg := gapW_le s o ho
  unfold nextX at h
  split at h
  · next hc =>
    obtain ⟨h1, h2⟩ := tokAt_en hg.2 h
    refine ⟨hc, h1, by omega, ?_⟩
    rcases h2 with ⟨a, b, c⟩ | ⟨a, b, c⟩
    · exact .inl ⟨a, by omega, by omega⟩
    · exact .inr ⟨a, by omega, c⟩
  · cases h

theorem textF_bad (s : ByteArray) (o : Nat) : ∀ (n i : Nat) (vs : List Int) (c : Int) (f : Nat), s.size - i = n → o < i → textF s o i vs = .bad c f → (c = 11 ∧ f = o) ∨ (c = 15 ∧ f = o) ∨ (c = 12 ∧ o ≤ f ∧ f < s.size) := by
  intro n
  induction n using Nat.strongRecOn with
  | ind n ih =>
    intro i vs c f hn hi h
    rw [textF] at h
    split at h
    · next hlt =>
      split at h
      · injection h with h1 h2; exact .inl ⟨h1.symm, h2.symm⟩
      · split at h
        · cases h
        · split at h
          · split at h
            · injection h with h1 h2; exact .inr (.inr ⟨h1.symm, by omega, by omega⟩)
            · split at h
              · injection h with h1 h2; exact .inr (.inl ⟨h1.symm, h2.symm⟩)
              · exact ih _ (by omega) _ _ c f rfl (by omega) h
          · split at h
            · injection h with h1 h2; exact .inr (.inl ⟨h1.symm, h2.symm⟩)
            · exact ih _ (by omega) _ _ c f rfl (by omega) h
    · injection h with h1 h2; exact .inl ⟨h1.symm, h2.symm⟩

theorem tokAt_bad {s : ByteArray} {g : Nat} {c : Int} {f : Nat} (h : tokAt s g = .bad c f) : g < s.size ∧ 10 ≤ c ∧ c ≤ 15 ∧ g ≤ f ∧ f < s.size ∧ (c ≠ 12 → f = g) := by
  unfold tokAt at h
  split at h
  · next hlt =>
    refine ⟨hlt, ?_⟩
    split at h
    · unfold wordX at h
      simp only at h
      repeat' split at h
      all_goals first | (injection h with h1 h2; subst h1 h2; exact ⟨by decide, by decide, Nat.le_refl _, hlt, fun _ => rfl⟩) | cases h
    · split at h
      · unfold intX at h
        split at h
        · cases h
        · injection h with h1 h2; subst h1 h2; exact ⟨by decide, by decide, Nat.le_refl _, hlt, fun _ => rfl⟩
      · split at h
        · rcases textF_bad s g _ (g + 1) [] c f rfl (by omega) h with ⟨rfl, rfl⟩ | ⟨rfl, rfl⟩ | ⟨rfl, h1, h2⟩
          · exact ⟨by decide, by decide, Nat.le_refl _, hlt, fun _ => rfl⟩
          · exact ⟨by decide, by decide, Nat.le_refl _, hlt, fun _ => rfl⟩
          · exact ⟨by decide, by decide, h1, h2, fun h => absurd rfl h⟩
        · unfold punctX at h
          cases hp : punctL marksT (rest s g) with
          | none =>
            rw [hp] at h
            injection h with h1 h2
            subst h1 h2
            exact ⟨by decide, by decide, Nat.le_refl _, hlt, fun _ => rfl⟩
          | some x => obtain ⟨n, k, op⟩ := x; rw [hp] at h; cases h
  · cases h

theorem next_bad {s : ByteArray} {o : Nat} {c : Int} {f : Nat} (h : nextX s o = .bad c f) : ((gapW s o).2 = false ∧ c = 16 ∧ f = (gapW s o).1) ∨ ((gapW s o).2 = true ∧ 10 ≤ c ∧ c ≤ 15 ∧ (gapW s o).1 ≤ f ∧ f < s.size ∧ (c ≠ 12 → f = (gapW s o).1)) := by
  unfold nextX at h
  split at h
  · next hc => exact .inr ⟨hc, (tokAt_bad h).2⟩
  · next hc => injection h with h1 h2; exact .inl ⟨by simpa using hc, h1.symm, h2.symm⟩

/-- All tokens from o on, those of L having come: the list, the fault's code and its offset; 'ans n' is what is answered at token n. -/
def eachF (ans : Nat → Bool) (s : ByteArray) (o : Nat) (L : List Tok) : List Tok × Int × Nat :=
  match nextX s o with
  | .bad c f => (L, c, f)
  | .tok t => if ans L.length = false ∨ t.k = 0 then (L ++ [t], 0, 0) else if h : o < t.en ∧ t.en ≤ s.size then eachF ans s t.en (L ++ [t]) else (L ++ [t], 0, 0)
termination_by s.size - o
decreasing_by omega

def eachX (ans : Nat → Bool) (s : ByteArray) : List Tok × Int × Nat := if 65536 < s.size then ([], 1, 0) else eachF ans s 0 []

theorem eachF_bad {ans : Nat → Bool} {s : ByteArray} {o : Nat} {L : List Tok} {c : Int} {f : Nat} (h : nextX s o = .bad c f) : eachF ans s o L = (L, c, f) := by rw [eachF, h]
theorem eachF_stop {ans : Nat → Bool} {s : ByteArray} {o : Nat} {L : List Tok} {t : Tok} (h : nextX s o = .tok t) (h' : ans L.length = false ∨ t.k = 0) : eachF ans s o L = (L ++ [t], 0, 0) := by
  rw [eachF, h]; exact if_pos h'
theorem eachF_go {ans : Nat → Bool} {s : ByteArray} {o : Nat} {L : List Tok} {t : Tok} (h : nextX s o = .tok t) (h' : ¬ (ans L.length = false ∨ t.k = 0)) (h1 : o < t.en) (h2 : t.en ≤ s.size) : eachF ans s o L = eachF ans s t.en (L ++ [t]) := by
  rw [eachF, h]
  simp only
  rw [if_neg h', dif_pos ⟨h1, h2⟩]

end Go.Proofs.YtplldgkdjainlaaDoor
