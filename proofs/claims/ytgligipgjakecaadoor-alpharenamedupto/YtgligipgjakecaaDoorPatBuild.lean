/- A pattern in a variable, whose slots grow by append. -/
import Derived.Test.YtgligipgjakecaaDoorPush
import Derived.Test.YtgligipgjakecaaDoorWellBase
import Derived.Test.YtgligipgjakecaaDoorPatPure
import Derived.Test.YtgligipgjakecaaDoorProg
namespace Go.Proofs.YtgligipgjakecaaDoor
set_option linter.unusedSimpArgs false
set_option linter.unusedVariables false
open Go.RowKit

theorem Tryd.infoSlo : (Tryd.prog.info? 37).map (fun i => (i.zero, i.size, i.bytes)) = some (some (.agg #[.bool false, .int .i64 0]), 2, 16) := by kernel_rfl

/-- Block qb is a pattern whose slots L lie at base and behind; what lies below qb is as in W. -/
structure PatAt (W w : World) (qb base : Nat) (Q : Int) (v : Value) (L : List Slo) : Prop where
  box : w.heap[qb]? = some (.cells #[.int .i64 Q, v] 29 (0, 0))
  row : Grow elSlo 37 base w v L
  low : Below qb W w
  lt : qb < base
  sz : base ≤ w.heap.size

section
variable {W w w' : World} {qb base : Nat} {Q : Int} {v : Value} {L : List Slo}
theorem PatAt.kept (h : PatAt W w qb base Q v L) (hb : Below w.heap.size w w') : PatAt W w' qb base Q v L :=
  ⟨by rw [hb.block _ (Array.getElem?_eq_some_iff.1 h.box).1]; exact h.box, h.row.kept hb, h.low.trans (hb.mono (by have := h.lt; have := h.sz; omega)), h.lt, Nat.le_trans h.sz hb.size⟩
theorem PatAt.c0 (h : PatAt W w qb base Q v L) : w.cell? ⟨qb, 0, none⟩ = some (.int .i64 Q) := by simp [World.cell?, h.box]
theorem PatAt.c1 (h : PatAt W w qb base Q v L) : w.cell? ⟨qb, 1, none⟩ = some v := by simp [World.cell?, h.box]
theorem PatAt.f1 (h : PatAt W w qb base Q v L) : w.frozen? ⟨qb, 1, none⟩ = false := by simp [World.frozen?, h.box]
/-- Behind an append, told of the pattern's own list; then the list is stored. -/
theorem PatAt.grown (h : PatAt W w qb base Q v L) {u : Value} {L' : List Slo} (hg : Grow elSlo 37 base w' u L') (hb : Below base w w') :
    w'.cell? ⟨qb, 0, none⟩ = some (.int .i64 Q) ∧ w'.cell? ⟨qb, 1, none⟩ = some v ∧ w'.frozen? ⟨qb, 1, none⟩ = false ∧ PatAt W (w'.setCell ⟨qb, 1, none⟩ u) qb base Q u L' := by
  have hbx : w'.heap[qb]? = some (.cells #[.int .i64 Q, v] 29 (0, 0)) := by rw [hb.block _ h.lt]; exact h.box
  refine ⟨by simp [World.cell?, hbx], by simp [World.cell?, hbx], by simp [World.frozen?, hbx], ?_, ?_, ?_, h.lt, ?_⟩
  · simp [World.setCell, Array.getElem?_modify, hbx]
  · refine hg.above fun b hbb _ => Below.heap_setCell _ _ _ _ ?_
    have := h.lt
    show b ≠ qb
    omega
  · exact (h.low.trans (hb.mono (Nat.le_of_lt h.lt))).setCell (Nat.le_refl _) _
  · have h1 := hb.size
    have h2 := h.sz
    simp only [World.setCell, Array.size_modify]
    omega
end

/-- A slot in a box of its own, behind a pattern that grows. -/
theorem slot_new {V : World} {s : Slo} {t : TypeId} : ∀ (j : Nat) (u : Value), (elSlo.cells s)[j]? = some u → (V.alloc (.cells #[.bool s.v, .int .i64 s.n] t)).cell? ⟨V.heap.size, j, none⟩ = some u := fun j u hu => new_cells (cs := #[.bool s.v, .int .i64 s.n]) j u hu
end Go.Proofs.YtgligipgjakecaaDoor
