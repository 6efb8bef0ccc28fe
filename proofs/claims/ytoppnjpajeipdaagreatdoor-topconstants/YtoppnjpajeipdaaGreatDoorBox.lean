/- A constant laid in a new block of its own (a parameter by value). -/
import Derived.Test.YtoppnjpajeipdaaGreatDoorOpen
namespace Go.Proofs.YtoppnjpajeipdaaGreatDoor
set_option linter.unusedSimpArgs false
set_option linter.unusedVariables false
open Go.RowKit

theorem conAt_kept {w w' : World} {b off : Nat} {c : Con} (h : conAt w b off c) (hb : Below w.heap.size w w') : conAt w' b off c :=
  ⟨kept_cell hb h.1, kept_cell hb h.2.1, kept_cell hb h.2.2⟩

def boxOf (c : Con) (t : TypeId) : Obj := .cells #[.int .i64 c.k, .int .i64 c.n, .string c.s] t

theorem conAt_new (w : World) (c : Con) (t : TypeId) : conAt (w.alloc (boxOf c t)) w.heap.size 0 c := by
  unfold conAt boxOf
  refine ⟨?_, ?_, ?_⟩ <;> go_simp

theorem conAt_alloc {w : World} {b off : Nat} {c : Con} (h : conAt w b off c) (o : Obj) : conAt (w.alloc o) b off c :=
  conAt_kept h ((Below.refl _ _).alloc (Nat.le_refl _) _)

theorem size_alloc (w : World) (o : Obj) : (w.alloc o).heap.size = w.heap.size + 1 := by simp
end Go.Proofs.YtoppnjpajeipdaaGreatDoor
