/- NewIds of constants without keys; New, a table with no constant; key, the constant of a number. -/
import Derived.Test.YtoppnjpajeipdaaGreatDoorIdsCon
namespace Go.Proofs.YtoppnjpajeipdaaGreatDoor
set_option linter.unusedSimpArgs false
set_option linter.unusedVariables false
open Go.RowKit Go.Maps

theorem newCon_none (w : World) {base : Nat} (hb : base ≤ w.heap.size) :
    Calls Tryz.prog 19 #[.slice none 0 0] w fun e w' => e = .returned (.pointer (some ⟨w.heap.size + 1, 0, none⟩)) ∧ ConIds base w' (w.heap.size + 1) w.heap.size 0 none 0 [] ∧ Below w.heap.size w w' := by
  have hmm := @run_makeMap Tryz.prog
  go_enter Tryz.func19, Tryz.ntmps19
  go_wp2
  refine wp_loop_rounds 1 ?_
  rw [rounds_succ]
  go_wp2
  go_ret
  exact ⟨rfl, IdsAt.made _ _ _ _ _ _ _ _ w hb, ((Below.refl _ _).alloc (Nat.le_refl _) _).alloc (by simp) _⟩

end Go.Proofs.YtoppnjpajeipdaaGreatDoor
