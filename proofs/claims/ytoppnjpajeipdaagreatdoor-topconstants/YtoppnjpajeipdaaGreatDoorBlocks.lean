/- Plain lists: blocks of a width that are each in order; what merging two neighbours does. -/
import Derived.Test.YtoppnjpajeipdaaGreatDoorMergePure
namespace Go.Proofs.YtoppnjpajeipdaaGreatDoor
set_option linter.unusedSimpArgs false
set_option linter.unusedVariables false

def Srt (l : List Con) : Prop := l.Pairwise (fun a b => leC a b = true)
def Blk (w : Nat) (l : List Con) : Prop := ∀ k, Srt ((l.drop (k * w)).take w)

theorem leC_trans (a b c : Con) (h : leC a b = true) (k : leC b c = true) : leC a c = true := by
  unfold leC at *
  simp only [decide_eq_true_eq] at *
  exact cmpC_trans a b c h k
theorem leC_total (a b : Con) : (leC a b || leC b a) = true := by
  unfold leC
  have h1 := cmpC_anti a b
  simp only [Bool.or_eq_true, decide_eq_true_eq]
  omega

theorem merge_srt {xs ys : List Con} (hx : Srt xs) (hy : Srt ys) : Srt (List.merge xs ys leC) := List.pairwise_merge leC_trans leC_total xs ys hx hy
theorem merge_perm (xs ys : List Con) : (List.merge xs ys leC).Perm (xs ++ ys) := List.merge_perm_append leC

theorem blk_one (l : List Con) : Blk 1 l := by
  intro k
  unfold Srt
  have hl : ((l.drop (k * 1)).take 1).length ≤ 1 := List.length_take_le _ _
  match h : (l.drop (k * 1)).take 1 with
  | [] => simp
  | [a] => simp
  | a :: b :: r => rw [h] at hl; simp at hl

theorem blk_whole {w : Nat} {l : List Con} (h : Blk w l) (hw : l.length ≤ w) : Srt l := by
  have := h 0
  rw [Nat.zero_mul, List.drop_zero, List.take_of_length_le hw] at this
  exact this

/-- One more block of twice the width. -/
theorem blk_step {w t : Nat} {l m : List Con} (hl : Blk w l) (hm : Blk (2 * w) m) (hlen : m.length = t * (2 * w)) :
    Blk (2 * w) (m ++ List.merge ((l.drop (t * (2 * w))).take w) ((l.drop (t * (2 * w) + w)).take w) leC) := by
  have e1 : t * (2 * w) = (2 * t) * w := by rw [Nat.mul_left_comm, Nat.mul_assoc]
  have e2 : t * (2 * w) + w = (2 * t + 1) * w := by rw [e1, Nat.add_mul (2 * t) 1 w, Nat.one_mul]
  have s1 := hl (2 * t)
  have s2 := hl (2 * t + 1)
  rw [← e1] at s1
  rw [← e2] at s2
  have sm := merge_srt s1 s2
  have hml : (List.merge ((l.drop (t * (2 * w))).take w) ((l.drop (t * (2 * w) + w)).take w) leC).length ≤ 2 * w := by
    rw [(merge_perm _ _).length_eq, List.length_append]
    have := List.length_take_le w (l.drop (t * (2 * w)))
    have := List.length_take_le w (l.drop (t * (2 * w) + w))
    omega
  generalize List.merge ((l.drop (t * (2 * w))).take w) ((l.drop (t * (2 * w) + w)).take w) leC = mm at *
  intro k
  rcases Nat.lt_or_ge k t with hk | hk
  · have hh : k * (2 * w) + 2 * w ≤ t * (2 * w) := by
      have : (k + 1) * (2 * w) ≤ t * (2 * w) := Nat.mul_le_mul_right _ hk
      rw [Nat.succ_mul] at this; exact this
    rw [List.drop_append_of_le_length (by omega), List.take_append_of_le_length (by rw [List.length_drop]; omega)]
    exact hm k
  · rcases Nat.eq_or_lt_of_le hk with rfl | hk
    · rw [List.drop_append, hlen, Nat.sub_self, List.drop_zero, List.drop_of_length_le (by omega), List.nil_append, List.take_of_length_le hml]
      exact sm
    · have hh : t * (2 * w) + 2 * w ≤ k * (2 * w) := by
        have : (t + 1) * (2 * w) ≤ k * (2 * w) := Nat.mul_le_mul_right _ hk
        rw [Nat.succ_mul] at this; exact this
      rw [List.drop_of_length_le (by rw [List.length_append]; omega)]
      simp [Srt]

theorem perm_step {w i : Nat} {l m : List Con} (hm : m.Perm (l.take i)) :
    (m ++ List.merge ((l.drop i).take w) ((l.drop (i + w)).take w) leC).Perm (l.take (i + 2 * w)) := by
  have e1 : l.take (i + 2 * w) = l.take i ++ ((l.drop i).take w ++ (l.drop (i + w)).take w) := by
    rw [show i + 2 * w = i + (w + w) from by omega, List.take_add, List.take_add, List.drop_drop]
  rw [e1]
  exact List.Perm.append hm (merge_perm _ _)

theorem sorted_unique {l₁ l₂ : List Con} (hp : l₁.Perm l₂) (h1 : Srt l₁) (h2 : Srt l₂) : l₁ = l₂ := by
  refine List.Perm.eq_of_pairwise (le := fun a b => leC a b = true) ?_ h1 h2 hp
  intro a b _ _ hab hba
  unfold leC at hab hba
  simp only [decide_eq_true_eq] at hab hba
  have ha := cmpC_anti a b
  have h0 : cmpC a b = 0 := by omega
  obtain ⟨k1, k2, k3⟩ := (cmpC_zero a b).1 h0
  cases a; cases b
  simp only at k1 k2 k3
  rw [k1, k2, toList_inj k3]
end Go.Proofs.YtoppnjpajeipdaaGreatDoor
