/- A shape in a variable, whose cells grow by append. -/
import Derived.Test.YtgligipgjakecaaDoorPush
import Derived.Test.YtgligipgjakecaaDoorWellBase
import Derived.Test.YtgligipgjakecaaDoorPatPure
import Derived.Test.YtgligipgjakecaaDoorProg
namespace Go.Proofs.YtgligipgjakecaaDoor
set_option linter.unusedSimpArgs false
set_option linter.unusedVariables false
open Go.RowKit


/-- Block qb is a shape whose cells L lie at base and behind; what lies below qb is as in W. -/
structure ShpAt (W w : World) (qb base : Nat) (Q : Int) (v : Value) (L : List Int) : Prop where
  box : w.heap[qb]? = some (.cells #[.int .i64 Q, v] 25 (0, 0))
  row : Grow elInt 3 base w v L
  low : Below qb W w
  lt : qb < base
  sz : base ≤ w.heap.size

section
variable {W w w' : World} {qb base : Nat} {Q : Int} {v : Value} {L : List Int}
theorem ShpAt.kept (h : ShpAt W w qb base Q v L) (hb : Below w.heap.size w w') : ShpAt W w' qb base Q v L :=
  ⟨by rw [hb.block _ (Array.getElem?_eq_some_iff.1 h.box).1]; exact h.box, h.row.kept hb, h.low.trans (hb.mono (by have := h.lt; have := h.sz; omega)), h.lt, Nat.le_trans h.sz hb.size⟩
theorem ShpAt.c0 (h : ShpAt W w qb base Q v L) : w.cell? ⟨qb, 0, none⟩ = some (.int .i64 Q) := by simp [World.cell?, h.box]
theorem ShpAt.c1 (h : ShpAt W w qb base Q v L) : w.cell? ⟨qb, 1, none⟩ = some v := by simp [World.cell?, h.box]
theorem ShpAt.f1 (h : ShpAt W w qb base Q v L) : w.frozen? ⟨qb, 1, none⟩ = false := by simp [World.frozen?, h.box]
/-- Behind an append, told of the pattern's own list; then the list is stored. -/
theorem ShpAt.grown (h : ShpAt W w qb base Q v L) {u : Value} {L' : List Int} (hg : Grow elInt 3 base w' u L') (hb : Below base w w') :
    w'.cell? ⟨qb, 0, none⟩ = some (.int .i64 Q) ∧ w'.cell? ⟨qb, 1, none⟩ = some v ∧ w'.frozen? ⟨qb, 1, none⟩ = false ∧ ShpAt W (w'.setCell ⟨qb, 1, none⟩ u) qb base Q u L' := by
  have hbx : w'.heap[qb]? = some (.cells #[.int .i64 Q, v] 25 (0, 0)) := by rw [hb.block _ h.lt]; exact h.box
  refine ⟨by simp [World.cell?, hbx], by simp [World.cell?, hbx], by simp [World.frozen?, hbx], ?_, ?_, ?_, h.lt, ?_⟩
  · simp [World.setCell, Array.getElem?_modify, hbx]
  · refine hg.above fun b hbb _ => Below.heap_setCell _ _ _ _ ?_
    have := h.lt
    show b ≠ qb
    omega
  · exact (h.low.trans (hb.mono (Nat.le_of_lt h.lt))).setCell (Nat.le_refl _) _
  · have h1 := hb.size
    have h2 := h.sz
    simp only [World.setCell, Array.size_modify]
    omega
end

end Go.Proofs.YtgligipgjakecaaDoor
