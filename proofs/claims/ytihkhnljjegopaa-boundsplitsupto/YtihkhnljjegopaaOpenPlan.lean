/- What arguments hold that are a plan by value, or a list of nodes, by the bulk of what is read. -/
import Derived.Test.YtihkhnljjegopaaOpenRules
import Derived.Test.YtihkhnljjegopaaNodeMem
namespace Go.Proofs.Ytihkhnljjegopaa
set_option linter.unusedSimpArgs false
set_option linter.unusedVariables false
open Go.RowKit Go.Deep Go.ChangeShapes Go.WideShapes Go.ChangeAt Go.Joins

section
variable {H : Type} {enc : TypeId × Value → H} {w : World}
theorem trodStruct7 {P : Program} {t : TypeId} {f0 f1 f2 f3 f4 f5 f6 : Field} {fuel : Nat} {cs : List Value} {x : DataW H × List MemPlace} (ht : P.underlying t = some (.struct #[f0, f1, f2, f3, f4, f5, f6])) (h : DataW.trod enc P w 0 (fun _ => true) true fuel t cs = some x) :
    ∃ y0 y1 y2 y3 y4 y5 y6 n, x.1 = .agg [y0.1, y1.1, y2.1, y3.1, y4.1, y5.1, y6.1] ∧ cs.length = P.cellsOf t ∧ DataW.trod enc P w 0 (fun _ => true) true n f0.type ((cs.drop f0.offset).take (P.cellsOf f0.type)) = some y0 ∧ DataW.trod enc P w 0 (fun _ => true) true n f1.type ((cs.drop f1.offset).take (P.cellsOf f1.type)) = some y1 ∧ DataW.trod enc P w 0 (fun _ => true) true n f2.type ((cs.drop f2.offset).take (P.cellsOf f2.type)) = some y2 ∧ DataW.trod enc P w 0 (fun _ => true) true n f3.type ((cs.drop f3.offset).take (P.cellsOf f3.type)) = some y3 ∧ DataW.trod enc P w 0 (fun _ => true) true n f4.type ((cs.drop f4.offset).take (P.cellsOf f4.type)) = some y4 ∧ DataW.trod enc P w 0 (fun _ => true) true n f5.type ((cs.drop f5.offset).take (P.cellsOf f5.type)) = some y5 ∧ DataW.trod enc P w 0 (fun _ => true) true n f6.type ((cs.drop f6.offset).take (P.cellsOf f6.type)) = some y6 := by
  obtain ⟨xs, n, _, rfl, hl, hlen, hf⟩ := DataW.trod_struct ht h
  match xs, hlen with
  | [y0, y1, y2, y3, y4, y5, y6], _ => exact ⟨y0, y1, y2, y3, y4, y5, y6, n, by simp, hl, by simpa using hf 0 f0 rfl, by simpa using hf 1 f1 rfl, by simpa using hf 2 f2 rfl, by simpa using hf 3 f3 rfl, by simpa using hf 4 f4 rfl, by simpa using hf 5 f5 rfl, by simpa using hf 6 f6 rfl⟩
theorem trodStruct3 {P : Program} {t : TypeId} {f0 f1 f2 : Field} {fuel : Nat} {cs : List Value} {x : DataW H × List MemPlace} (ht : P.underlying t = some (.struct #[f0, f1, f2])) (h : DataW.trod enc P w 0 (fun _ => true) true fuel t cs = some x) :
    ∃ y0 y1 y2 n, x.1 = .agg [y0.1, y1.1, y2.1] ∧ cs.length = P.cellsOf t ∧ DataW.trod enc P w 0 (fun _ => true) true n f0.type ((cs.drop f0.offset).take (P.cellsOf f0.type)) = some y0 ∧ DataW.trod enc P w 0 (fun _ => true) true n f1.type ((cs.drop f1.offset).take (P.cellsOf f1.type)) = some y1 ∧ DataW.trod enc P w 0 (fun _ => true) true n f2.type ((cs.drop f2.offset).take (P.cellsOf f2.type)) = some y2 := by
  obtain ⟨xs, n, _, rfl, hl, hlen, hf⟩ := DataW.trod_struct ht h
  match xs, hlen with
  | [y0, y1, y2], _ => exact ⟨y0, y1, y2, n, by simp, hl, by simpa using hf 0 f0 rfl, by simpa using hf 1 f1 rfl, by simpa using hf 2 f2 rfl⟩

theorem cLink : Try.prog.cellsOf 85 = 2 := by kernel_rfl
theorem cLinks : Try.prog.cellsOf 45 = 1 := by kernel_rfl
theorem cIntsN : Try.prog.cellsOf 32 = 1 := by kernel_rfl
theorem cNode : Try.prog.cellsOf 51 = 11 := by kernel_rfl
theorem cNodes : Try.prog.cellsOf 23 = 1 := by kernel_rfl
theorem cShapes : Try.prog.cellsOf 31 = 1 := by kernel_rfl
theorem cPlan : Try.prog.cellsOf 34 = 3 := by kernel_rfl
set_option maxRecDepth 100000
theorem link_el (cs : List Value) (fuel : Nat) (y : DataW H × List MemPlace) (hd : DataW.trod enc Try.prog w 0 (fun _ => true) true fuel 85 cs = some y) (hk : Rows.uptoBulk y.1 ≤ 1048576) (hl : cs.length = 2) : ∃ z, cs = elLnk.cells z ∧ elLnk.ok w (fun _ => True) z := by
  obtain ⟨y0, y1, n, hy, hlen, t0, t1⟩ := trod_struct2 Try.underlying85 hd
  rw [hy] at hk
  simp only [Rows.uptoBulk, Rows.uptoBulkAll] at hk
  match cs, hl with
  | [v0, v1], _ =>
    simp only [cInt, List.drop_zero, List.drop_succ_cons, List.take_succ_cons, List.take_zero] at t0 t1
    obtain ⟨a, e0, ha⟩ := int_el _ _ _ t0 (by omega) rfl
    obtain ⟨b, e1, hb⟩ := int_el _ _ _ t1 (by omega) rfl
    simp only [elInt, List.cons.injEq, and_true] at e0 e1
    subst e0 e1
    exact ⟨⟨a, b⟩, rfl, ha, hb⟩
theorem node_el (cs : List Value) (fuel : Nat) (y : DataW H × List MemPlace) (hd : DataW.trod enc Try.prog w 0 (fun _ => true) true fuel 51 cs = some y) (hk : Rows.uptoBulk y.1 ≤ 1048576) (hl : cs.length = 11) : ∃ z, cs = elNod.cells z ∧ elNod.ok w (fun _ => True) z := by
  obtain ⟨y0, y1, y2, y3, y4, y5, y6, n, hy, hlen, t0, t1, t2, t3, t4, t5, t6⟩ := trodStruct7 Try.underlying51 hd
  rw [hy] at hk
  simp only [Rows.uptoBulk, Rows.uptoBulkAll] at hk
  match cs, hl with
  | [v0, v1, v2, v3, v4, v5, v6, v7, v8, v9, v10], _ =>
    simp only [cInt, cLinks, cIntsN, cTest, List.drop_zero, List.drop_succ_cons, List.take_succ_cons, List.take_zero] at t0 t1 t2 t3 t4 t5 t6
    obtain ⟨a, e0, ha⟩ := int_el _ _ _ t0 (by omega) rfl
    obtain ⟨b, e1, hb⟩ := int_el _ _ _ t1 (by omega) rfl
    obtain ⟨c, e2, hc⟩ := int_el _ _ _ t2 (by omega) rfl
    obtain ⟨l3, k3, _⟩ := lst_val elLnk Try.underlying45 cLink t3 (by omega) link_el
    obtain ⟨l4, k4, _⟩ := lst_val elInt Try.underlying32 cInt t4 (by omega) int_el
    obtain ⟨q, e5, hq⟩ := test_el _ _ _ t5 (by omega) rfl
    obtain ⟨g, e6, hg⟩ := int_el _ _ _ t6 (by omega) rfl
    simp only [elInt, elTes, List.cons.injEq, and_true] at e0 e1 e2 e5 e6
    obtain ⟨rfl, rfl, rfl, rfl, rfl⟩ := e5
    subst e0 e1 e2 e6
    exact ⟨⟨a, b, c, v3, l3, v4, l4, q, g⟩, rfl, ha, hb, hc, k3, k4, hq, hg⟩

theorem open_plan {r : Reach} {b0 : Nat} {v : Value} {d : DataW H} {ps : List MemPlace}
    (hv : Value.okWide Try.prog w r b0 34 v) (h : DataW.Trod enc Try.prog w 0 (fun _ => true) true 34 v d ps) (hk : Rows.uptoBulk d ≤ 1048576) :
    ∃ v0 v1 v2 l, v = .agg #[v0, v1, v2] ∧ Has elNod w v1 l ∧ l.length ≤ 1048576 := by
  obtain ⟨cs, rfl, hs⟩ := okWide_struct Try.underlying34 hv
  rw [cPlan] at hs
  obtain ⟨l⟩ := cs
  match l, hs with
  | [v0, v1, v2], _ =>
    obtain ⟨fuel, hf⟩ := h
    obtain ⟨y0, y1, y2, n, hx, _, t0, t1, t2⟩ := trodStruct3 Try.underlying34 hf
    dsimp only at hx
    rw [hx] at hk
    simp only [Rows.uptoBulk, Rows.uptoBulkAll] at hk
    simp only [cNodes, Value.cells, List.drop_zero, List.drop_succ_cons, List.take_succ_cons, List.take_zero] at t1
    obtain ⟨l1, k1, hn⟩ := lst_val elNod Try.underlying23 cNode t1 (by omega) node_el
    exact ⟨v0, v1, v2, l1, rfl, k1, by omega⟩

theorem open_cut {r : Reach} {b0 : Nat} {v : Value} {d : DataW H} {ps : List MemPlace}
    (hv : Value.okWide Try.prog w r b0 25 v) (h : DataW.Trod enc Try.prog w 0 (fun _ => true) true 25 v d ps) (hk : Rows.uptoBulk d ≤ 1048576) :
    ∃ a v1 v2 z l1 l2, v = .agg #[.int .i64 a, v1, v2, .int .i64 z] ∧ I64 a ∧ I64 z ∧ Has elRul w v1 l1 ∧ Has elNod w v2 l2 ∧ l1.length ≤ 1048576 ∧ l2.length ≤ 1048576 := by
  obtain ⟨cs, rfl, hs⟩ := okWide_struct Try.underlying25 hv
  rw [show Try.prog.cellsOf 25 = 4 by kernel_rfl] at hs
  obtain ⟨l⟩ := cs
  match l, hs with
  | [v0, v1, v2, v3], _ =>
    obtain ⟨fuel, hf⟩ := h
    obtain ⟨y0, y1, y2, y3, n, hx, _, t0, t1, t2, t3⟩ := trod_struct4 Try.underlying25 hf
    rw [(Prod.mk.inj hx).1] at hk
    simp only [Rows.uptoBulk, Rows.uptoBulkAll] at hk
    simp only [cInt, cNodes, cRules, Value.cells, List.drop_zero, List.drop_succ_cons, List.take_succ_cons, List.take_zero] at t0 t1 t2 t3
    obtain ⟨a, e0, ha⟩ := int_el _ _ _ t0 (by omega) rfl
    obtain ⟨l1, k1, hn1⟩ := lst_val elRul Try.underlying22 cRule t1 (by omega) rule_el
    obtain ⟨l2, k2, hn2⟩ := lst_val elNod Try.underlying23 cNode t2 (by omega) node_el
    obtain ⟨z, e3, hz⟩ := int_el _ _ _ t3 (by omega) rfl
    simp only [elInt, List.cons.injEq, and_true] at e0 e3
    subst e0 e3
    exact ⟨a, v1, v2, z, l1, l2, rfl, ha, hz, k1, k2, by omega, by omega⟩
end
end Go.Proofs.Ytihkhnljjegopaa
