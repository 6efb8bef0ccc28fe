/- LexSpelled's own spelling: all its ways as one. -/
import Derived.Test.YtaemcbabegjfnaaDoorProg
import Derived.Test.YtaemcbabegjfnaaDoorPartSpell2
namespace Go.Proofs.YtaemcbabegjfnaaDoor
set_option linter.unusedSimpArgs false
set_option linter.unusedVariables false
open Go.RowKit

theorem spelling_any (p : Prt) (w : World) (hn : I64 p.n) (hs : p.w.size ≤ 10000000) (ht : TabLaidL w) : ∃ (s : ByteArray) (x : Tok) (b : Bool), spellP p = (if b = true then some (s.data.toList, x) else none) ∧ ∀ W, Below w.heap.size w W → SpOk p s x b W := by
  obtain ⟨pk, pw, pn, pop, pg, pst⟩ := p
  simp only at hn hs
  by_cases k1 : pk = 1
  · subst k1; exact ⟨_, _, _, by simp [spellP], fun W _ => spell1 pw pn pop pg pst W hs⟩
  by_cases k2 : pk = 2
  · subst k2; exact ⟨_, _, _, by simp [spellP], fun W _ => spell2 pw pn pop pg pst W hs⟩
  by_cases k3 : pk = 3
  · subst k3; exact ⟨_, _, _, by simp [spellP], fun W hW => spell3 pw pn pop pg pst W hn (ht.kept hW)⟩
  by_cases k4 : pk = 4
  · subst k4; exact ⟨_, _, _, by simp [spellP], fun W _ => spell4 pw pn pop pg pst W hs⟩
  by_cases k5 : pk = 5
  · subst k5; exact ⟨_, _, _, by simp [spellP], fun W _ => spell5 pw pn pop pg pst W⟩
  by_cases k6 : pk = 6
  · subst k6; exact ⟨_, _, _, by simp [spellP], fun W _ => spell6 pw pn pop pg pst W⟩
  by_cases k7 : pk = 7
  · subst k7; exact ⟨_, _, _, by simp [spellP], fun W _ => spell7 pw pn pop pg pst W⟩
  by_cases k8 : pk = 8
  · subst k8; exact ⟨_, _, _, by simp [spellP], fun W _ => spell8 pw pn pop pg pst W⟩
  by_cases k9 : pk = 9
  · subst k9; exact ⟨_, _, _, by simp [spellP], fun W _ => spell9 pw pn pop pg pst W⟩
  by_cases k10 : pk = 10
  · subst k10; exact ⟨_, _, _, by simp [spellP], fun W _ => spell10 pw pn pop pg pst W⟩
  by_cases k11 : pk = 11
  · subst k11
    by_cases o1 : pop = 1
    · subst o1; exact ⟨_, _, _, by simp [spellP, opS], fun W _ => spellO1 pw pn pg pst W⟩
    by_cases o2 : pop = 2
    · subst o2; exact ⟨_, _, _, by simp [spellP, opS], fun W _ => spellO2 pw pn pg pst W⟩
    by_cases o3 : pop = 3
    · subst o3; exact ⟨_, _, _, by simp [spellP, opS], fun W _ => spellO3 pw pn pg pst W⟩
    by_cases o4 : pop = 4
    · subst o4; exact ⟨_, _, _, by simp [spellP, opS], fun W _ => spellO4 pw pn pg pst W⟩
    by_cases o5 : pop = 5
    · subst o5; exact ⟨_, _, _, by simp [spellP, opS], fun W _ => spellO5 pw pn pg pst W⟩
    by_cases o6 : pop = 6
    · subst o6; exact ⟨_, _, _, by simp [spellP, opS], fun W _ => spellO6 pw pn pg pst W⟩
    have ho : ¬ (1 ≤ pop ∧ pop ≤ 6) := by omega
    refine ⟨_, _, _, ?_, fun W _ => spellOx pw pn pop pg pst W (beq_eq_false_iff_ne.2 o1) (beq_eq_false_iff_ne.2 o2) (beq_eq_false_iff_ne.2 o3) (beq_eq_false_iff_ne.2 o4) (beq_eq_false_iff_ne.2 o5) (beq_eq_false_iff_ne.2 o6)⟩
    unfold spellP
    simp only
    rw [if_neg ho]
    rfl
  refine ⟨_, _, _, ?_, fun W _ => spellX pk pw pn pop pg pst W (beq_eq_false_iff_ne.2 k1) (beq_eq_false_iff_ne.2 k2) (beq_eq_false_iff_ne.2 k3) (beq_eq_false_iff_ne.2 k4) (beq_eq_false_iff_ne.2 k5) (beq_eq_false_iff_ne.2 k6) (beq_eq_false_iff_ne.2 k7) (beq_eq_false_iff_ne.2 k8) (beq_eq_false_iff_ne.2 k9) (beq_eq_false_iff_ne.2 k10) (beq_eq_false_iff_ne.2 k11)⟩
  simp [spellP, k1, k2, k3, k4, k5, k6, k7, k8, k9, k10, k11]
end Go.Proofs.YtaemcbabegjfnaaDoor
