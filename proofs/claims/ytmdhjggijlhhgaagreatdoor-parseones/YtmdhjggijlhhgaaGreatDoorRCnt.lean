/- The document's take and over. -/
import Derived.Test.YtmdhjggijlhhgaaGreatDoorProg
import Derived.Test.YtmdhjggijlhhgaaGreatDoorRTok
namespace Go.Proofs.YtmdhjggijlhhgaaGreatDoor
set_option linter.unusedSimpArgs false
set_option linter.unusedVariables false
open Go.RowKit

set_option maxRecDepth 100000 in
set_option maxHeartbeats 4000000 in
theorem rtake_any (c : Cnt) (s k : Int) (w : World) (h : c.small 100000) :
    Calls Tryz.prog 39 #[.agg #[.int .i64 c.c, .int .i64 c.l, .int .i64 c.t], .int .i64 s, .int .i64 k] w fun e w' => e = .returned (.agg #[.int .i64 (takeC c s k).c, .int .i64 (takeC c s k).l, .int .i64 (takeC c s k).t]) ∧ Below w.heap.size w w' := by
  obtain ⟨⟨a0, a1⟩, ⟨b0, b1⟩, c0, c1⟩ := h
  obtain ⟨x, y, z⟩ := c
  simp only at a0 a1 b0 b1 c0 c1
  have HB := hide (fun a b => belowt2 (belowA w a) (belowA (w.alloc a) b))
  simp only
  go_enter Tryz.func39, Tryz.ntmps39
  go_wp2
  all_goals (refine bodyPost_ret (v := .agg #[.int .i64 (takeC ⟨x, y, z⟩ s k).c, .int .i64 (takeC ⟨x, y, z⟩ s k).l, .int .i64 (takeC ⟨x, y, z⟩ s k).t]) ?_ rfl ⟨rfl, HB.out _ _⟩; clear HB; simp_all [results, Tryz.results39, go_sem, takeC])
set_option maxRecDepth 100000 in
set_option maxHeartbeats 4000000 in
theorem rover_any (c : Cnt) (f : Int) (w : World) :
    Calls Tryz.prog 40 #[.agg #[.int .i64 c.c, .int .i64 c.l, .int .i64 c.t], .int .i64 f] w fun e w' => e = .returned (.int .i64 (overC f c)) ∧ Below w.heap.size w w' := by
  obtain ⟨x, y, z⟩ := c
  have HB := hide (fun a => belowA w a)
  simp only
  go_enter Tryz.func40, Tryz.ntmps40
  go_wp2
  all_goals (go_ret; refine ⟨?_, HB.out _⟩; clear HB; simp_all [overC] <;> ((repeat' split) <;> omega))
end Go.Proofs.YtmdhjggijlhhgaaGreatDoor
