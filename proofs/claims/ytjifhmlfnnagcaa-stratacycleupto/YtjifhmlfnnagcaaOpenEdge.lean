/- What arguments hold that are lists of edges, of numbers, by the bulk of what is read. -/
import Derived.Test.YtjifhmlfnnagcaaProg
import Derived.Test.YtjifhmlfnnagcaaBulk
import Derived.Test.YtjifhmlfnnagcaaEdgeMem
namespace Go.Proofs.Ytjifhmlfnnagcaa
set_option linter.unusedSimpArgs false
set_option linter.unusedVariables false
open Go.RowKit Go.Deep Go.ChangeShapes Go.WideShapes Go.ChangeAt Go.Joins

section
variable {H : Type} {enc : TypeId × Value → H} {w : World}
theorem cInt : Try.prog.cellsOf 3 = 1 := by kernel_rfl
theorem cBool : Try.prog.cellsOf 4 = 1 := by kernel_rfl
theorem cEdge : Try.prog.cellsOf 25 = 4 := by kernel_rfl

theorem int_el (cs : List Value) (fuel : Nat) (y : DataW H × List MemPlace) (hd : DataW.trod enc Try.prog w 0 (fun _ => true) true fuel 3 cs = some y) (hk : Rows.uptoBulk y.1 ≤ 1048576) (hl : cs.length = 1) : ∃ z, cs = elInt.cells z ∧ elInt.ok w (fun _ => True) z := by
  obtain ⟨a, e, _, h⟩ := DataW.trod_int Try.underlying3 hd
  exact ⟨a, e, bounds_i64 h⟩
set_option maxRecDepth 100000
theorem edge_el (cs : List Value) (fuel : Nat) (y : DataW H × List MemPlace) (hd : DataW.trod enc Try.prog w 0 (fun _ => true) true fuel 25 cs = some y) (hk : Rows.uptoBulk y.1 ≤ 1048576) (hl : cs.length = 4) : ∃ z, cs = elEdg.cells z ∧ elEdg.ok w (fun _ => True) z := by
  obtain ⟨y0, y1, y2, y3, n, hx, _, t0, t1, t2, t3⟩ := trod_struct4 Try.underlying25 hd
  rw [(Prod.mk.inj hx).1] at hk
  simp only [Rows.uptoBulk, Rows.uptoBulkAll] at hk
  match cs, hl with
  | [v0, v1, v2, v3], _ =>
    simp only [cInt, cBool, List.drop_zero, List.drop_succ_cons, List.take_succ_cons, List.take_zero] at t0 t1 t2 t3
    obtain ⟨a, e0, ha⟩ := int_el _ _ _ t0 (by omega) rfl
    obtain ⟨b, e1, hb⟩ := int_el _ _ _ t1 (by omega) rfl
    obtain ⟨c, e2, _⟩ := DataW.trod_bool Try.underlying4 t2
    obtain ⟨d, e3, hd3⟩ := int_el _ _ _ t3 (by omega) rfl
    simp only [elInt, List.cons.injEq, and_true] at e0 e1 e2 e3
    subst e0 e1 e2 e3
    exact ⟨⟨a, b, c, d⟩, rfl, ha, hb, hd3⟩

theorem open_edges {r : Reach} {b0 : Nat} {v : Value} {d : DataW H} {ps : List MemPlace}
    (hv : Value.okWide Try.prog w r b0 22 v) (h : DataW.Trod enc Try.prog w 0 (fun _ => true) true 22 v d ps) (hk : Rows.uptoBulk d ≤ 1048576) :
    ∃ l, Has elEdg w v l ∧ l.length ≤ 1048576 := by
  obtain ⟨ao, len, cap, rfl⟩ := okWide_slice Try.underlying22 hv
  obtain ⟨fuel, hf⟩ := h
  obtain ⟨l, hl, hn⟩ := lst_val elEdg Try.underlying22 cEdge (x := (d, ps)) hf hk edge_el
  exact ⟨l, hl, Nat.le_trans hn hk⟩
theorem open_intl {r : Reach} {b0 : Nat} {v : Value} {d : DataW H} {ps : List MemPlace}
    (hv : Value.okWide Try.prog w r b0 33 v) (h : DataW.Trod enc Try.prog w 0 (fun _ => true) true 33 v d ps) (hk : Rows.uptoBulk d ≤ 1048576) :
    ∃ l, Has elInt w v l ∧ l.length ≤ 1048576 := by
  obtain ⟨ao, len, cap, rfl⟩ := okWide_slice Try.underlying33 hv
  obtain ⟨fuel, hf⟩ := h
  obtain ⟨l, hl, hn⟩ := lst_val elInt Try.underlying33 cInt (x := (d, ps)) hf hk int_el
  exact ⟨l, hl, Nat.le_trans hn hk⟩
theorem open_edge {r : Reach} {b0 : Nat} {v : Value} {d : DataW H} {ps : List MemPlace}
    (hv : Value.okWide Try.prog w r b0 25 v) (h : DataW.Trod enc Try.prog w 0 (fun _ => true) true 25 v d ps) (hk : Rows.uptoBulk d ≤ 1048576) :
    ∃ m : Edg, v = .agg #[.int .i64 m.f, .int .i64 m.t, .bool m.neg, .int .i64 m.r] ∧ elEdg.ok w (fun _ => True) m := by
  obtain ⟨cs, rfl, hs⟩ := okWide_struct Try.underlying25 hv
  rw [cEdge] at hs
  obtain ⟨fuel, hf⟩ := h
  obtain ⟨l⟩ := cs
  obtain ⟨z, e, ho⟩ := edge_el l fuel (d, ps) hf hk hs
  subst e
  exact ⟨z, rfl, ho⟩
end
end Go.Proofs.Ytjifhmlfnnagcaa
