/- What an argument holds that is a case: a number, edges, levels, a walk. -/
import Derived.Test.YtakdkdckhldjiaaOpenEdge
namespace Go.Proofs.Ytakdkdckhldjiaa
set_option linter.unusedSimpArgs false
set_option linter.unusedVariables false
open Go.RowKit Go.Deep Go.ChangeShapes Go.WideShapes Go.ChangeAt Go.Joins

section
variable {H : Type} {enc : TypeId × Value → H} {w : World}
theorem cCase : Try.prog.cellsOf 25 = 4 := by kernel_rfl
theorem cEdges : Try.prog.cellsOf 22 = 1 := by kernel_rfl
theorem cInts : Try.prog.cellsOf 23 = 1 := by kernel_rfl
set_option maxRecDepth 100000
theorem open_case {r : Reach} {b0 : Nat} {v : Value} {d : DataW H} {ps : List MemPlace}
    (hv : Value.okWide Try.prog w r b0 25 v) (h : DataW.Trod enc Try.prog w 0 (fun _ => true) true 25 v d ps) (hk : Rows.uptoBulk d ≤ 1048576) :
    ∃ n v1 l1 v2 l2 v3 l3, v = .agg #[.int .i64 n, v1, v2, v3] ∧ Has elEdg w v1 l1 ∧ Has elInt w v2 l2 ∧ Has elInt w v3 l3 := by
  obtain ⟨cs, rfl, hs⟩ := okWide_struct Try.underlying25 hv
  rw [cCase] at hs
  obtain ⟨l⟩ := cs
  match l, hs with
  | [v0, v1, v2, v3], _ =>
    obtain ⟨fuel, hf⟩ := h
    obtain ⟨y0, y1, y2, y3, n, hx, _, t0, t1, t2, t3⟩ := trod_struct4 Try.underlying25 hf
    rw [(Prod.mk.inj hx).1] at hk
    simp only [Rows.uptoBulk, Rows.uptoBulkAll] at hk
    simp only [cInt, cEdges, cInts, Value.cells, List.drop_zero, List.drop_succ_cons, List.take_succ_cons, List.take_zero] at t0 t1 t2 t3
    obtain ⟨a, e0, -⟩ := int_el _ _ _ t0 (by omega) rfl
    simp only [elInt, List.cons.injEq, and_true] at e0
    subst e0
    obtain ⟨l1, k1, _⟩ := lst_val elEdg Try.underlying22 cEdge t1 (by omega) edge_el
    obtain ⟨l2, k2, _⟩ := lst_val elInt Try.underlying23 cInt t2 (by omega) int_el
    obtain ⟨l3, k3, _⟩ := lst_val elInt Try.underlying23 cInt t3 (by omega) int_el
    exact ⟨a, v1, l1, v2, l2, v3, l3, rfl, k1, k2, k3⟩
end
end Go.Proofs.Ytakdkdckhldjiaa
