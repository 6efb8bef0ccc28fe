/- A token is as long as it can be; the end stands last: no program in sight. -/
import Derived.Test.YtplldgkdjainlaaDoorLexLocal
import Derived.Test.YtplldgkdjainlaaDoorLexChain2
namespace Go.Proofs.YtplldgkdjainlaaDoor
set_option linter.unusedSimpArgs false
set_option linter.unusedVariables false
open Go.RowKit

theorem runC_stop (s : ByteArray) (g : Nat) (h : g + runC (rest s g) < s.size) : bWord (s[g + runC (rest s g)].toNat : Int) = false := by
  refine ((runC_iff (rest s g) _).1 rfl).2.2 _ ?_
  unfold rest
  rw [List.getElem?_drop, Array.getElem?_toList]
  exact Array.getElem?_eq_getElem h
set_option maxHeartbeats 4000000 in
theorem tok_max {s : ByteArray} {g : Nat} {t : Tok} (hg : g ≤ s.size) (h : tokAt s g = .tok t) (hk : t.k ≠ 0) (he : t.en < s.size) : ((t.k ≤ 3 ∨ t.k = 10) → bWord (s[t.en].toNat : Int) = false) ∧ (t.k = 11 → (t.op = 3 ∨ t.op = 5) → (s[t.en].toNat : Int) ≠ 61) := by
  unfold tokAt at h
  split at h
  · next hlt =>
    split at h
    · have hb := runC_stop s g
      unfold wordX at h
      simp only at h
      repeat' split at h
      all_goals first | cases h | skip
      all_goals
        simp only at he hk
        exact ⟨fun _ => hb he, fun h1 => absurd h1 (by first | (show ¬ (10 : Int) = 11; decide) | (show ¬ (1 : Int) = 11; decide) | (show ¬ (2 : Int) = 11; decide))⟩
    · split at h
      · have hb := runC_stop s (g + 1)
        unfold intX at h
        split at h
        · injection h with h
          subst h
          exact ⟨fun _ => hb he, fun h1 => absurd h1 (by show ¬ (3 : Int) = 11; decide)⟩
        · cases h
      · split at h
        · obtain ⟨h1, h2, h3, h4⟩ := textF_en s g _ (g + 1) [] t rfl (by omega) h
          have hk4 : t.k = 4 := by
            have key : ∀ (n i : Nat) (vs : List Int) (t : Tok), s.size - i = n → textF s g i vs = .tok t → t.k = 4 := by
              intro n
              induction n using Nat.strongRecOn with
              | ind n ih =>
                intro i vs t hn h
                rw [textF] at h
                split at h
                · split at h
                  · cases h
                  · split at h
                    · injection h with h; subst h; rfl
                    · split at h
                      · split at h
                        · cases h
                        · split at h
                          · cases h
                          · exact ih _ (by omega) _ _ t rfl h
                      · split at h
                        · cases h
                        · exact ih _ (by omega) _ _ t rfl h
                · cases h
            exact key _ _ _ t rfl h
          exact ⟨fun h5 => by omega, fun h5 => by omega⟩
        · unfold punctX at h
          have hr : rest s g = s[g] :: rest s (g + 1) := rest_cons s g hlt
          cases hp : punctL marksT (rest s g) with
          | none => rw [hp] at h; cases h
          | some x =>
            obtain ⟨n, k, op⟩ := x
            rw [hp] at h
            unfold punctOf at h
            injection h with h
            subst h
            simp only at he hk ⊢
            unfold marksT at hp
            simp only [punctL] at hp
            have two : ∀ b : UInt8, ¬ Lib.hasPrefix (rest s g) [b, 61] = true → Lib.hasPrefix (rest s g) [b] = true → ∀ h : g + 1 < s.size, (s[g + 1].toNat : Int) ≠ 61 := fun b h1 h2 h3 h4 => by
              apply h1
              rw [hr, rest_cons s (g + 1) h3] at h2 ⊢
              rw [pre_one] at h2
              rw [pre_two, h2]
              have h5 : (61 : UInt8).toNat = 61 := rfl
              have : s[g + 1] = 61 := UInt8.toNat_inj.1 (by omega)
              show (true && ((some s[g + 1] : Option UInt8) == some 61)) = true
              rw [this]
              rfl
            repeat' split at hp
            all_goals first | (cases hp; done) | cases hp
            all_goals refine ⟨fun h1 => by omega, fun h1 h2 => ?_⟩
            all_goals first
              | (exfalso; omega)
              | (refine two _ ?_ (by assumption) he; assumption)
  · injection h with h
    subst h
    exact absurd rfl hk
theorem toks_k0 {s : ByteArray} {o : Nat} {L : List Tok} {c : Int} {f : Nat} (h : Toks s o L c f) : ∀ i t, L[i]? = some t → t.k = 0 → i + 1 = L.length := by
  induction h with
  | bad _ _ => intro i t h; simp at h
  | last h1 h2 h3 =>
    intro i t h _
    rcases i with _ | i
    · rfl
    · simp at h
  | more h1 h2 h3 h4 ih =>
    intro i t h h0
    rcases i with _ | i
    · obtain rfl := Option.some.inj h; exact absurd h0 h3
    · have := ih i t (by simpa using h) h0
      simp only [List.length_cons]
      omega
end Go.Proofs.YtplldgkdjainlaaDoor
