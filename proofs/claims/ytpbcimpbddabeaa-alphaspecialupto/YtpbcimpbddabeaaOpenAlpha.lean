/- What arguments hold that are lists of shapes or of rows, patterns, rows or three numbers by value, by the bulk of what is read. -/
import Derived.Test.YtpbcimpbddabeaaProg
import Derived.Test.YtpbcimpbddabeaaBulk
namespace Go.Proofs.Ytpbcimpbddabeaa
set_option linter.unusedSimpArgs false
set_option linter.unusedVariables false
open Go.RowKit Go.Deep Go.ChangeShapes Go.WideShapes Go.ChangeAt Go.Joins

section
variable {H : Type} {enc : TypeId × Value → H} {w : World}
theorem cInt : Try.prog.cellsOf 3 = 1 := by kernel_rfl
theorem cBool : Try.prog.cellsOf 4 = 1 := by kernel_rfl
theorem cInts : Try.prog.cellsOf 25 = 1 := by kernel_rfl
theorem cSlot : Try.prog.cellsOf 50 = 2 := by kernel_rfl
theorem cSlots : Try.prog.cellsOf 22 = 1 := by kernel_rfl
theorem cPat : Try.prog.cellsOf 24 = 2 := by kernel_rfl
theorem cShp : Try.prog.cellsOf 32 = 2 := by kernel_rfl
theorem cRow : Try.prog.cellsOf 27 = 2 := by kernel_rfl
theorem int_el (cs : List Value) (fuel : Nat) (y : DataW H × List MemPlace) (hd : DataW.trod enc Try.prog w 0 (fun _ => true) true fuel 3 cs = some y) (hk : Rows.uptoBulk y.1 ≤ 1048576) (hl : cs.length = 1) : ∃ z, cs = elInt.cells z ∧ elInt.ok w (fun _ => True) z := by
  obtain ⟨a, e, _, h⟩ := DataW.trod_int Try.underlying3 hd
  exact ⟨a, e, bounds_i64 h⟩
set_option maxRecDepth 100000
theorem slot_el (cs : List Value) (fuel : Nat) (y : DataW H × List MemPlace) (hd : DataW.trod enc Try.prog w 0 (fun _ => true) true fuel 50 cs = some y) (hk : Rows.uptoBulk y.1 ≤ 1048576) (hl : cs.length = 2) : ∃ z, cs = elSlo.cells z ∧ elSlo.ok w (fun _ => True) z := by
  obtain ⟨y0, y1, n, hy, hlen, t0, t1⟩ := trod_struct2 Try.underlying50 hd
  rw [hy] at hk
  simp only [Rows.uptoBulk, Rows.uptoBulkAll] at hk
  match cs, hl with
  | [v0, v1], _ =>
    simp only [cInt, cBool, List.drop_zero, List.drop_succ_cons, List.take_succ_cons, List.take_zero] at t0 t1
    obtain ⟨a, e0, _⟩ := DataW.trod_bool Try.underlying4 t0
    obtain ⟨b, e1, hb⟩ := int_el _ _ _ t1 (by omega) rfl
    simp only [elInt, List.cons.injEq, and_true] at e0 e1
    subst e0 e1
    exact ⟨⟨a, b⟩, rfl, hb⟩
theorem shape_el (cs : List Value) (fuel : Nat) (y : DataW H × List MemPlace) (hd : DataW.trod enc Try.prog w 0 (fun _ => true) true fuel 32 cs = some y) (hk : Rows.uptoBulk y.1 ≤ 1048576) (hl : cs.length = 2) : ∃ z, cs = elRoe.cells z ∧ elRoe.ok w (fun _ => True) z := by
  obtain ⟨y0, y1, n, hy, hlen, t0, t1⟩ := trod_struct2 Try.underlying32 hd
  rw [hy] at hk
  simp only [Rows.uptoBulk, Rows.uptoBulkAll] at hk
  match cs, hl with
  | [v0, v1], _ =>
    simp only [cInt, cInts, List.drop_zero, List.drop_succ_cons, List.take_succ_cons, List.take_zero] at t0 t1
    obtain ⟨a, e0, ha⟩ := int_el _ _ _ t0 (by omega) rfl
    obtain ⟨l, hl, _⟩ := lst_val elInt Try.underlying25 cInt t1 (by omega) int_el
    simp only [elInt, List.cons.injEq, and_true] at e0
    subst e0
    exact ⟨⟨a, v1, l⟩, rfl, ha, hl⟩
theorem row_el (cs : List Value) (fuel : Nat) (y : DataW H × List MemPlace) (hd : DataW.trod enc Try.prog w 0 (fun _ => true) true fuel 27 cs = some y) (hk : Rows.uptoBulk y.1 ≤ 1048576) (hl : cs.length = 2) : ∃ z, cs = elRoe.cells z ∧ elRoe.ok w (fun _ => True) z := by
  obtain ⟨y0, y1, n, hy, hlen, t0, t1⟩ := trod_struct2 Try.underlying27 hd
  rw [hy] at hk
  simp only [Rows.uptoBulk, Rows.uptoBulkAll] at hk
  match cs, hl with
  | [v0, v1], _ =>
    simp only [cInt, cInts, List.drop_zero, List.drop_succ_cons, List.take_succ_cons, List.take_zero] at t0 t1
    obtain ⟨a, e0, ha⟩ := int_el _ _ _ t0 (by omega) rfl
    obtain ⟨l, hl, _⟩ := lst_val elInt Try.underlying25 cInt t1 (by omega) int_el
    simp only [elInt, List.cons.injEq, and_true] at e0
    subst e0
    exact ⟨⟨a, v1, l⟩, rfl, ha, hl⟩

theorem open_shps {r : Reach} {b0 : Nat} {v : Value} {d : DataW H} {ps : List MemPlace}
    (hv : Value.okWide Try.prog w r b0 39 v) (h : DataW.Trod enc Try.prog w 0 (fun _ => true) true 39 v d ps) (hk : Rows.uptoBulk d ≤ 1048576) :
    ∃ l, Has elRoe w v l ∧ l.length ≤ 1048576 := by
  obtain ⟨ao, len, cap, rfl⟩ := okWide_slice Try.underlying39 hv
  obtain ⟨fuel, hf⟩ := h
  obtain ⟨l, hl, hn⟩ := lst_val elRoe Try.underlying39 cShp (x := (d, ps)) hf hk shape_el
  exact ⟨l, hl, Nat.le_trans hn hk⟩
theorem open_rows10 {r : Reach} {b0 : Nat} {v : Value} {d : DataW H} {ps : List MemPlace}
    (hv : Value.okWide Try.prog w r b0 40 v) (h : DataW.Trod enc Try.prog w 0 (fun _ => true) true 40 v d ps) (hk : Rows.uptoBulk d ≤ 1048576) :
    ∃ l, Has elRoe w v l ∧ l.length ≤ 1048576 := by
  obtain ⟨ao, len, cap, rfl⟩ := okWide_slice Try.underlying40 hv
  obtain ⟨fuel, hf⟩ := h
  obtain ⟨l, hl, hn⟩ := lst_val elRoe Try.underlying40 cRow (x := (d, ps)) hf hk row_el
  exact ⟨l, hl, Nat.le_trans hn hk⟩
theorem open_pat10 {r : Reach} {b0 : Nat} {v : Value} {d : DataW H} {ps : List MemPlace}
    (hv : Value.okWide Try.prog w r b0 24 v) (h : DataW.Trod enc Try.prog w 0 (fun _ => true) true 24 v d ps) (hk : Rows.uptoBulk d ≤ 1048576) :
    ∃ q u ss, v = .agg #[.int .i64 q, u] ∧ I64 q ∧ Has elSlo w u ss ∧ ss.length ≤ 1048576 := by
  obtain ⟨cs, rfl, hs⟩ := okWide_struct Try.underlying24 hv
  rw [cPat] at hs
  obtain ⟨l⟩ := cs
  match l, hs with
  | [v0, v1], _ =>
    obtain ⟨fuel, hf⟩ := h
    obtain ⟨y0, y1, n, hx, _, t0, t1⟩ := trod_struct2 Try.underlying24 hf
    rw [(Prod.mk.inj hx).1] at hk
    simp only [Rows.uptoBulk, Rows.uptoBulkAll] at hk
    simp only [cInt, cSlots, Value.cells, List.drop_zero, List.drop_succ_cons, List.take_succ_cons, List.take_zero] at t0 t1
    obtain ⟨a, e0, ha⟩ := int_el _ _ _ t0 (by omega) rfl
    obtain ⟨l1, k1, hn1⟩ := lst_val elSlo Try.underlying22 cSlot t1 (by omega) slot_el
    simp only [elInt, List.cons.injEq, and_true] at e0
    subst e0
    exact ⟨a, v1, l1, rfl, ha, k1, by omega⟩
theorem open_row10 {r : Reach} {b0 : Nat} {v : Value} {d : DataW H} {ps : List MemPlace}
    (hv : Value.okWide Try.prog w r b0 27 v) (h : DataW.Trod enc Try.prog w 0 (fun _ => true) true 27 v d ps) (hk : Rows.uptoBulk d ≤ 1048576) :
    ∃ q u l, v = .agg #[.int .i64 q, u] ∧ I64 q ∧ Has elInt w u l ∧ l.length ≤ 1048576 := by
  obtain ⟨cs, rfl, hs⟩ := okWide_struct Try.underlying27 hv
  rw [cRow] at hs
  obtain ⟨l⟩ := cs
  match l, hs with
  | [v0, v1], _ =>
    obtain ⟨fuel, hf⟩ := h
    obtain ⟨y0, y1, n, hx, _, t0, t1⟩ := trod_struct2 Try.underlying27 hf
    rw [(Prod.mk.inj hx).1] at hk
    simp only [Rows.uptoBulk, Rows.uptoBulkAll] at hk
    simp only [cInt, cInts, Value.cells, List.drop_zero, List.drop_succ_cons, List.take_succ_cons, List.take_zero] at t0 t1
    obtain ⟨a, e0, ha⟩ := int_el _ _ _ t0 (by omega) rfl
    obtain ⟨l1, k1, hn1⟩ := lst_val elInt Try.underlying25 cInt t1 (by omega) int_el
    simp only [elInt, List.cons.injEq, and_true] at e0
    subst e0
    exact ⟨a, v1, l1, rfl, ha, k1, by omega⟩
theorem open_turn {r : Reach} {b0 : Nat} {v : Value} {d : DataW H} {ps : List MemPlace}
    (hv : Value.okWide Try.prog w r b0 29 v) (h : DataW.Trod enc Try.prog w 0 (fun _ => true) true 29 v d ps) (hk : Rows.uptoBulk d ≤ 1048576) :
    ∃ a b c, v = .agg #[.int .i64 a, .int .i64 b, .int .i64 c] ∧ I64 a ∧ I64 b ∧ I64 c := by
  obtain ⟨cs, rfl, hs⟩ := okWide_struct Try.underlying29 hv
  rw [show Try.prog.cellsOf 29 = 3 by kernel_rfl] at hs
  obtain ⟨l⟩ := cs
  match l, hs with
  | [v0, v1, v2], _ =>
    obtain ⟨fuel, hf⟩ := h
    obtain ⟨y0, y1, y2, n, hx, _, t0, t1, t2⟩ := trod_struct3 Try.underlying29 hf
    rw [(Prod.mk.inj hx).1] at hk
    simp only [Rows.uptoBulk, Rows.uptoBulkAll] at hk
    simp only [cInt, Value.cells, List.drop_zero, List.drop_succ_cons, List.take_succ_cons, List.take_zero] at t0 t1 t2
    obtain ⟨a, e0, ha⟩ := int_el _ _ _ t0 (by omega) rfl
    obtain ⟨b, e1, hb⟩ := int_el _ _ _ t1 (by omega) rfl
    obtain ⟨c, e2, hc⟩ := int_el _ _ _ t2 (by omega) rfl
    simp only [elInt, List.cons.injEq, and_true] at e0 e1 e2
    subst e0 e1 e2
    exact ⟨a, b, c, rfl, ha, hb, hc⟩
end
end Go.Proofs.Ytpbcimpbddabeaa
