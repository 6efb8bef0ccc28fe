/- The box of a function's own answer, a constant. -/
import Derived.Test.YtoppnjpajeipdaaGreatDoorProg
import Derived.Test.YtoppnjpajeipdaaGreatDoorSymRead
import Derived.Test.YtoppnjpajeipdaaGreatDoorConEq
namespace Go.Proofs.YtoppnjpajeipdaaGreatDoor
set_option linter.unusedSimpArgs false
set_option linter.unusedVariables false
open Go.RowKit

/-- A box that holds the constant c. -/
def conBox (b : Nat) (W : World) (k n : Int) (s : ByteArray) : Prop := W.heap[b]? = some (.cells #[.int .i64 k, .int .i64 n, .string s] 26 (0, 0))
theorem conBox.kept {b : Nat} {W W' : World} {k n : Int} {s : ByteArray} (h : conBox b W k n s) (hb : Below W.heap.size W W') : conBox b W' k n s := by
  unfold conBox at h ⊢
  rw [hb.block b (Array.getElem?_eq_some_iff.1 h).1]; exact h
theorem conBox.cells {b : Nat} {W : World} {k n : Int} {s : ByteArray} (h : conBox b W k n s) : W.cell? ⟨b, 0, none⟩ = some (.int .i64 k) ∧ W.cell? ⟨b, 1, none⟩ = some (.int .i64 n) ∧ W.cell? ⟨b, 2, none⟩ = some (.string s) ∧
    W.frozen? ⟨b, 0, none⟩ = false ∧ W.frozen? ⟨b, 1, none⟩ = false ∧ W.frozen? ⟨b, 2, none⟩ = false ∧ b < W.heap.size := by
  unfold conBox at h
  refine ⟨?_, ?_, ?_, ?_, ?_, ?_, (Array.getElem?_eq_some_iff.1 h).1⟩
  all_goals first | (simp only [World.cell?, h]; simp only [Option.isSome_none, Bool.false_eq_true, if_false]; rfl) | simp [World.frozen?, h]
theorem conBox.put {b : Nat} {X : World} {k n : Int} {s : ByteArray} (h : conBox b X k n s) (k' n' : Int) (s' : ByteArray) : conBox b (((X.setCell ⟨b, 0, none⟩ (.int .i64 k')).setCell ⟨b, 1, none⟩ (.int .i64 n')).setCell ⟨b, 2, none⟩ (.string s')) k' n' s' := by
  unfold conBox at h ⊢
  simp [World.setCell, Array.getElem?_modify, h]

theorem read_results {Z : World} {b : Nat} {k n e : Int} {s : ByteArray} (h : conBox b Z k n s) (tmps : Array Value) (ht : tmps.getD 2 undef = .pointer (some ⟨b, 0, none⟩)) (ht2 : tmps.getD 3 undef = .int .i64 e) :
    (results Tryz.f10 tmps).run Tryz.prog Z = .ok (.tuple #[.agg #[.int .i64 k, .int .i64 n, .string s], .int .i64 e]) Z := by
  obtain ⟨x0, x1, x2, _⟩ := h.cells
  have ht' : tmps[2]?.getD undef = .pointer (some ⟨b, 0, none⟩) := by rw [← ht]; simp [Array.getD_eq_getD_getElem?]
  have ht2' : tmps[3]?.getD undef = .int .i64 e := by rw [← ht2]; simp [Array.getD_eq_getD_getElem?]
  simp [results, Tryz.results10, go_sem, ht', ht2', x0, x1, x2]

end Go.Proofs.YtoppnjpajeipdaaGreatDoor
