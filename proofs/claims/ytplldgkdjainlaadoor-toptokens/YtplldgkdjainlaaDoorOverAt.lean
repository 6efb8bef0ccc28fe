/- Cells, marks and stores below the new blocks of 'over w x' are w's own. -/
import Derived.Test.YtplldgkdjainlaaDoorOver
namespace Go.Proofs.YtplldgkdjainlaaDoor
set_option linter.unusedSimpArgs false
set_option linter.unusedVariables false
open Go.RowKit

theorem over_cellAt (w x : World) (p : Addr) (h : p.block < w.heap.size) : (over w x).cell? p = w.cell? p := (over_below w x).cell h
theorem over_frozenAt (w x : World) (p : Addr) (h : p.block < w.heap.size) : (over w x).frozen? p = w.frozen? p := (over_below w x).frozen h
theorem modify_append (a t : Array Obj) (b : Nat) (f : Obj → Obj) (h : b < a.size) : (a ++ t).modify b f = a.modify b f ++ t := by
  apply Array.ext_getElem?
  intro i
  rw [Array.getElem?_modify]
  by_cases hi : i < a.size
  · rw [Array.getElem?_append_left hi, Array.getElem?_append_left (by simpa using hi), Array.getElem?_modify]
  · rw [Array.getElem?_append_right (by omega), Array.getElem?_append_right (by simp; omega), if_neg (by omega)]; simp
theorem over_setAt (w x : World) (p : Addr) (v : Value) (h : p.block < w.heap.size) : (over w x).setCell p v = over (w.setCell p v) x := by
  have hs : (w.setCell p v).heap.size = w.heap.size := by simp [World.setCell]
  unfold over
  rw [hs]
  unfold World.setCell
  rw [modify_append _ _ _ _ h]
theorem over_of {w w' : World} (h : Below w.heap.size w w') : ∃ x, w' = over w x := ⟨_, over_eq h⟩

theorem over_new {w w' x : World} (h : w'.heap.size = w.heap.size) {g : Nat} (hg : w.heap.size ≤ g) : (over w' x).heap[g]? = (over w x).heap[g]? := by
  simp only [over, h]
  rw [Array.getElem?_append_right (by omega), Array.getElem?_append_right (by omega), h]

theorem own_over {w w' x : World} {size n : Nat} {e : TypeId} {v : Value} {xs : List Value} (h : w'.heap.size = w.heap.size) {base : Nat} (hb : w.heap.size ≤ base) (ho : (over w x).ownsRow base e size v n xs) : (over w' x).ownsRow base e size v n xs := by
  refine ⟨ho.1, ?_⟩
  rcases ho.2 with h0 | ⟨g, cap, cur, hv, hbase, hblk, rest⟩
  · exact .inl h0
  · exact .inr ⟨g, cap, cur, hv, hbase, by rw [over_new h (Nat.le_trans hb hbase)]; exact hblk, rest⟩

theorem over_bel {w W x : World} {B : Nat} (h : Below B w W) (hB : B ≤ W.heap.size) : Below B w (over W x) := h.trans ((over_below W x).mono hB)
end Go.Proofs.YtplldgkdjainlaaDoor
