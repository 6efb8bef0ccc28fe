/- What an argument holds that is a list of rules, by the bulk of what is read. -/
import Derived.Test.YtfnepibafldlhaaProg
import Derived.Test.YtfnepibafldlhaaBulk
namespace Go.Proofs.Ytfnepibafldlhaa
set_option linter.unusedSimpArgs false
set_option linter.unusedVariables false
open Go.RowKit Go.Deep Go.ChangeShapes Go.WideShapes Go.ChangeAt Go.Joins

section
variable {H : Type} {enc : TypeId × Value → H} {w : World}
theorem trodStruct6 {P : Program} {t : TypeId} {f0 f1 f2 f3 f4 f5 : Field} {fuel : Nat} {cs : List Value} {x : DataW H × List MemPlace} (ht : P.underlying t = some (.struct #[f0, f1, f2, f3, f4, f5])) (h : DataW.trod enc P w 0 (fun _ => true) true fuel t cs = some x) :
    ∃ y0 y1 y2 y3 y4 y5 n, x.1 = .agg [y0.1, y1.1, y2.1, y3.1, y4.1, y5.1] ∧ cs.length = P.cellsOf t ∧ DataW.trod enc P w 0 (fun _ => true) true n f0.type ((cs.drop f0.offset).take (P.cellsOf f0.type)) = some y0 ∧
      DataW.trod enc P w 0 (fun _ => true) true n f1.type ((cs.drop f1.offset).take (P.cellsOf f1.type)) = some y1 ∧ DataW.trod enc P w 0 (fun _ => true) true n f2.type ((cs.drop f2.offset).take (P.cellsOf f2.type)) = some y2 ∧
      DataW.trod enc P w 0 (fun _ => true) true n f3.type ((cs.drop f3.offset).take (P.cellsOf f3.type)) = some y3 ∧ DataW.trod enc P w 0 (fun _ => true) true n f4.type ((cs.drop f4.offset).take (P.cellsOf f4.type)) = some y4 ∧
      DataW.trod enc P w 0 (fun _ => true) true n f5.type ((cs.drop f5.offset).take (P.cellsOf f5.type)) = some y5 := by
  obtain ⟨xs, n, _, rfl, hl, hlen, hf⟩ := DataW.trod_struct ht h
  match xs, hlen with
  | [y0, y1, y2, y3, y4, y5], _ => exact ⟨y0, y1, y2, y3, y4, y5, n, by simp, hl, by simpa using hf 0 f0 rfl, by simpa using hf 1 f1 rfl, by simpa using hf 2 f2 rfl, by simpa using hf 3 f3 rfl, by simpa using hf 4 f4 rfl, by simpa using hf 5 f5 rfl⟩

theorem cInt : Try.prog.cellsOf 3 = 1 := by kernel_rfl
theorem cStr : Try.prog.cellsOf 9 = 1 := by kernel_rfl
theorem cBool : Try.prog.cellsOf 4 = 1 := by kernel_rfl
theorem cSlot : Try.prog.cellsOf 113 = 2 := by kernel_rfl
theorem cSlots : Try.prog.cellsOf 26 = 1 := by kernel_rfl
theorem cPat : Try.prog.cellsOf 28 = 2 := by kernel_rfl
theorem cPats : Try.prog.cellsOf 29 = 1 := by kernel_rfl
theorem cTest : Try.prog.cellsOf 115 = 5 := by kernel_rfl
theorem cTests : Try.prog.cellsOf 30 = 1 := by kernel_rfl
theorem cStrs : Try.prog.cellsOf 31 = 1 := by kernel_rfl
theorem cRule : Try.prog.cellsOf 33 = 7 := by kernel_rfl
theorem cRules : Try.prog.cellsOf 22 = 1 := by kernel_rfl
theorem int_el (cs : List Value) (fuel : Nat) (y : DataW H × List MemPlace) (hd : DataW.trod enc Try.prog w 0 (fun _ => true) true fuel 3 cs = some y) (hk : Rows.uptoBulk y.1 ≤ 1048576) (hl : cs.length = 1) : ∃ z, cs = elInt.cells z ∧ elInt.ok w (fun _ => True) z := by
  obtain ⟨a, e, _, h⟩ := DataW.trod_int Try.underlying3 hd
  exact ⟨a, e, bounds_i64 h⟩
theorem str_el (cs : List Value) (fuel : Nat) (y : DataW H × List MemPlace) (hd : DataW.trod enc Try.prog w 0 (fun _ => true) true fuel 9 cs = some y) (hk : Rows.uptoBulk y.1 ≤ 1048576) (hl : cs.length = 1) : ∃ z, cs = elStr.cells z ∧ elStr.ok w (fun _ => True) z := by
  obtain ⟨s, e, x, h⟩ := DataW.trod_string Try.underlying9 hd
  refine ⟨s, e, ?_⟩
  rw [x] at hk
  simp only [Rows.uptoBulk] at hk
  show s.size ≤ _
  have : s.data.toList.length = s.size := rfl
  omega
set_option maxRecDepth 100000
theorem slot_el (cs : List Value) (fuel : Nat) (y : DataW H × List MemPlace) (hd : DataW.trod enc Try.prog w 0 (fun _ => true) true fuel 113 cs = some y) (hk : Rows.uptoBulk y.1 ≤ 1048576) (hl : cs.length = 2) : ∃ z, cs = elSlo.cells z ∧ elSlo.ok w (fun _ => True) z := by
  obtain ⟨y0, y1, n, hy, hlen, t0, t1⟩ := trod_struct2 Try.underlying113 hd
  rw [hy] at hk
  simp only [Rows.uptoBulk, Rows.uptoBulkAll] at hk
  match cs, hl with
  | [v0, v1], _ =>
    simp only [cInt, cBool, List.drop_zero, List.drop_succ_cons, List.take_succ_cons, List.take_zero] at t0 t1
    obtain ⟨a, e0, _⟩ := DataW.trod_bool Try.underlying4 t0
    obtain ⟨b, e1, hb⟩ := int_el _ _ _ t1 (by omega) rfl
    simp only [elInt, List.cons.injEq, and_true] at e0 e1
    subst e0 e1
    exact ⟨⟨a, b⟩, rfl, hb⟩
theorem test_el (cs : List Value) (fuel : Nat) (y : DataW H × List MemPlace) (hd : DataW.trod enc Try.prog w 0 (fun _ => true) true fuel 115 cs = some y) (hk : Rows.uptoBulk y.1 ≤ 1048576) (hl : cs.length = 5) : ∃ z, cs = elTes.cells z ∧ elTes.ok w (fun _ => True) z := by
  obtain ⟨y0, y1, y2, n, hy, hlen, t0, t1, t2⟩ := trod_struct3 Try.underlying115 hd
  rw [hy] at hk
  simp only [Rows.uptoBulk, Rows.uptoBulkAll] at hk
  match cs, hl with
  | [v0, v1, v2, v3, v4], _ =>
    simp only [cInt, cSlot, List.drop_zero, List.drop_succ_cons, List.take_succ_cons, List.take_zero] at t0 t1 t2
    obtain ⟨a, e0, ha⟩ := int_el _ _ _ t0 (by omega) rfl
    obtain ⟨b, e1, hb⟩ := slot_el _ _ _ t1 (by omega) rfl
    obtain ⟨c, e2, hc⟩ := slot_el _ _ _ t2 (by omega) rfl
    simp only [elSlo, elInt, List.cons.injEq, and_true] at e0 e1 e2
    obtain ⟨rfl, rfl⟩ := e1
    obtain ⟨rfl, rfl⟩ := e2
    subst e0
    exact ⟨⟨a, b, c⟩, rfl, ha, hb, hc⟩
theorem pat_el (cs : List Value) (fuel : Nat) (y : DataW H × List MemPlace) (hd : DataW.trod enc Try.prog w 0 (fun _ => true) true fuel 28 cs = some y) (hk : Rows.uptoBulk y.1 ≤ 1048576) (hl : cs.length = 2) : ∃ z, cs = elPat.cells z ∧ elPat.ok w (fun _ => True) z := by
  obtain ⟨y0, y1, n, hy, hlen, t0, t1⟩ := trod_struct2 Try.underlying28 hd
  rw [hy] at hk
  simp only [Rows.uptoBulk, Rows.uptoBulkAll] at hk
  match cs, hl with
  | [v0, v1], _ =>
    simp only [cInt, cSlots, List.drop_zero, List.drop_succ_cons, List.take_succ_cons, List.take_zero] at t0 t1
    obtain ⟨a, e0, ha⟩ := int_el _ _ _ t0 (by omega) rfl
    obtain ⟨l, hl, _⟩ := lst_val elSlo Try.underlying26 cSlot t1 (by omega) slot_el
    simp only [elInt, List.cons.injEq, and_true] at e0
    subst e0
    exact ⟨⟨a, v1, l⟩, rfl, ha, hl⟩
theorem rule_el (cs : List Value) (fuel : Nat) (y : DataW H × List MemPlace) (hd : DataW.trod enc Try.prog w 0 (fun _ => true) true fuel 33 cs = some y) (hk : Rows.uptoBulk y.1 ≤ 1048576) (hl : cs.length = 7) : ∃ z, cs = elRul.cells z ∧ elRul.ok w (fun _ => True) z := by
  obtain ⟨y0, y1, y2, y3, y4, y5, n, hy, hlen, t0, t1, t2, t3, t4, t5⟩ := trodStruct6 Try.underlying33 hd
  rw [hy] at hk
  simp only [Rows.uptoBulk, Rows.uptoBulkAll] at hk
  match cs, hl with
  | [v0, v1, v2, v3, v4, v5, v6], _ =>
    simp only [cInt, cPat, cPats, cTests, cStrs, List.drop_zero, List.drop_succ_cons, List.take_succ_cons, List.take_zero] at t0 t1 t2 t3 t4 t5
    obtain ⟨a, e0, ha⟩ := pat_el _ _ _ t0 (by omega) rfl
    obtain ⟨l1, k1, _⟩ := lst_val elPat Try.underlying29 cPat t1 (by omega) pat_el
    obtain ⟨l2, k2, _⟩ := lst_val elTes Try.underlying30 cTest t2 (by omega) test_el
    obtain ⟨l3, k3, _⟩ := lst_val elPat Try.underlying29 cPat t3 (by omega) pat_el
    obtain ⟨l4, k4, _⟩ := lst_val elStr Try.underlying31 cStr t4 (by omega) str_el
    obtain ⟨b, e5, hb⟩ := int_el _ _ _ t5 (by omega) rfl
    simp only [elPat, elInt, List.cons.injEq, and_true] at e0 e5
    obtain ⟨rfl, rfl⟩ := e0
    subst e5
    exact ⟨⟨a, v2, l1, v3, l2, v4, l3, v5, l4, b⟩, rfl, ha, k1, k2, k3, k4, hb⟩

/-- A core by value. -/

theorem open_rules {r : Reach} {b0 : Nat} {v : Value} {d : DataW H} {ps : List MemPlace}
    (hv : Value.okWide Try.prog w r b0 22 v) (h : DataW.Trod enc Try.prog w 0 (fun _ => true) true 22 v d ps) (hk : Rows.uptoBulk d ≤ 1048576) :
    ∃ l, Has elRul w v l ∧ l.length ≤ 1048576 := by
  obtain ⟨ao, len, cap, rfl⟩ := okWide_slice Try.underlying22 hv
  obtain ⟨fuel, hf⟩ := h
  obtain ⟨l, hl, hn⟩ := lst_val elRul Try.underlying22 cRule (x := (d, ps)) hf hk rule_el
  exact ⟨l, hl, Nat.le_trans hn hk⟩
end
end Go.Proofs.Ytfnepibafldlhaa
