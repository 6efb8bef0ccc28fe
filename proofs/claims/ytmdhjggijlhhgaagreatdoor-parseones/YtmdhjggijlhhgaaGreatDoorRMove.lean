/- The document's moves from state to state. -/
import Derived.Test.YtmdhjggijlhhgaaGreatDoorProg
import Derived.Test.YtmdhjggijlhhgaaGreatDoorRTabPure
import Derived.Test.YtmdhjggijlhhgaaGreatDoorOver
namespace Go.Proofs.YtmdhjggijlhhgaaGreatDoor
set_option linter.unusedSimpArgs false
set_option linter.unusedVariables false
open Go.RowKit

theorem isTerm_any (k : Int) (w : World) : Calls Tryz.prog 41 #[.int .i64 k] w fun e w' => e = .returned (.bool (isTermB k)) ∧ w' = w := by
  go_enter Tryz.func41, Tryz.ntmps41
  go_wp2
  all_goals (go_ret; simp_all [isTermB])
theorem isValue_any (k : Int) (w : World) : Calls Tryz.prog 79 #[.int .i64 k] w fun e w' => e = .returned (.bool (isValueB k)) ∧ w' = w := by
  go_enter Tryz.func79, Tryz.ntmps79
  go_wp2
  all_goals (go_ret; simp_all [isValueB])
set_option maxRecDepth 100000 in
set_option maxHeartbeats 4000000 in
theorem moveHead_any (s k : Int) (w : World) : Calls Tryz.prog 61 #[.int .i64 s, .int .i64 k] w fun e w' => e = .returned (.int .i64 (moveHeadP s k)) ∧ w' = w := by
  have HT := hide (fun W => isTerm_any k W)
  unfold moveHeadP
  cases hT : isTermB k <;> rw [hT] at HT
  all_goals (go_enter Tryz.func61, Tryz.ntmps61)
  all_goals (go_wp2_with (go_at_call 41; refine (HT.out _).mono ?_; rintro e w' ⟨rfl, hw'⟩; have hw' := hw'.symm; subst hw'))
  all_goals (go_ret; simp_all)
set_option maxRecDepth 100000 in
set_option maxHeartbeats 4000000 in
theorem moveFact_any (s k : Int) (w : World) : Calls Tryz.prog 62 #[.int .i64 s, .int .i64 k] w fun e w' => e = .returned (.int .i64 (moveFactP s k)) ∧ w' = w := by
  have HT := hide (fun W => isValue_any k W)
  unfold moveFactP
  cases hT : isValueB k <;> rw [hT] at HT
  all_goals (go_enter Tryz.func62, Tryz.ntmps62)
  all_goals (go_wp2_with (go_at_call 79; refine (HT.out _).mono ?_; rintro e w' ⟨rfl, hw'⟩; have hw' := hw'.symm; subst hw'))
  all_goals (go_ret; simp_all)
set_option maxRecDepth 100000 in
set_option maxHeartbeats 4000000 in
theorem moveBody_any (s k b : Int) (w : World) : Calls Tryz.prog 63 #[.int .i64 s, .int .i64 k, .int .i64 b] w fun e w' => e = .returned (.int .i64 (moveBodyP s k b)) ∧ w' = w := by
  have HT := hide (fun W => isTerm_any k W)
  unfold moveBodyP
  cases hT : isTermB k <;> rw [hT] at HT
  all_goals (go_enter Tryz.func63, Tryz.ntmps63)
  all_goals (go_wp2_with (go_at_call 41; refine (HT.out _).mono ?_; rintro e w' ⟨rfl, hw'⟩; have hw' := hw'.symm; subst hw'))
  all_goals (go_ret; simp_all)
set_option maxRecDepth 100000 in
set_option maxHeartbeats 4000000 in
theorem move_any (f s k : Int) (w : World) : Calls Tryz.prog 38 #[.int .i64 f, .int .i64 s, .int .i64 k] w fun e w' => e = .returned (.int .i64 (moveP f s k)) ∧ w' = w := by
  have H1 := hide (fun W => moveHead_any s k W)
  have H2 := hide (fun W => moveFact_any s k W)
  have H3 := hide (fun b W => moveBody_any s k b W)
  unfold moveP bhP
  go_enter Tryz.func38, Tryz.ntmps38
  go_wp2_with (first
    | (go_at_call 61; refine (H1.out _).mono ?_; rintro e w' ⟨rfl, hw'⟩; have hw' := hw'.symm; subst hw')
    | (go_at_call 62; refine (H2.out _).mono ?_; rintro e w' ⟨rfl, hw'⟩; have hw' := hw'.symm; subst hw')
    | (go_at_call 63; refine (H3.out _ _).mono ?_; rintro e w' ⟨rfl, hw'⟩; have hw' := hw'.symm; subst hw'))
  all_goals (clear H1 H2 H3; go_ret; simp_all)
end Go.Proofs.YtmdhjggijlhhgaaGreatDoor
