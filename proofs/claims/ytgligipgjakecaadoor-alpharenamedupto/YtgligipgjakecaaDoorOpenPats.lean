/- What arguments hold that are patterns, by value or in a list, by the bulk of what is read. -/
import Derived.Test.YtgligipgjakecaaDoorProg
import Derived.Test.YtgligipgjakecaaDoorBulk
namespace Go.Proofs.YtgligipgjakecaaDoor
set_option linter.unusedSimpArgs false
set_option linter.unusedVariables false
open Go.RowKit Go.Deep Go.ChangeShapes Go.WideShapes Go.ChangeAt Go.Joins

section
variable {H : Type} {enc : TypeId × Value → H} {w : World}
theorem cInt : Tryd.prog.cellsOf 3 = 1 := by kernel_rfl
theorem cBool : Tryd.prog.cellsOf 4 = 1 := by kernel_rfl
theorem cSlot : Tryd.prog.cellsOf 37 = 2 := by kernel_rfl
theorem cSlots : Tryd.prog.cellsOf 27 = 1 := by kernel_rfl
theorem cPat : Tryd.prog.cellsOf 29 = 2 := by kernel_rfl
theorem int_el (cs : List Value) (fuel : Nat) (y : DataW H × List MemPlace) (hd : DataW.trod enc Tryd.prog w 0 (fun _ => true) true fuel 3 cs = some y) (hk : Rows.uptoBulk y.1 ≤ 1048576) (hl : cs.length = 1) : ∃ z, cs = elInt.cells z ∧ elInt.ok w (fun _ => True) z := by
  obtain ⟨a, e, _, h⟩ := DataW.trod_int Tryd.underlying3 hd
  exact ⟨a, e, bounds_i64 h⟩
set_option maxRecDepth 100000
theorem slot_el (cs : List Value) (fuel : Nat) (y : DataW H × List MemPlace) (hd : DataW.trod enc Tryd.prog w 0 (fun _ => true) true fuel 37 cs = some y) (hk : Rows.uptoBulk y.1 ≤ 1048576) (hl : cs.length = 2) : ∃ z, cs = elSlo.cells z ∧ elSlo.ok w (fun _ => True) z := by
  obtain ⟨y0, y1, n, hy, hlen, t0, t1⟩ := trod_struct2 Tryd.underlying37 hd
  rw [hy] at hk
  simp only [Rows.uptoBulk, Rows.uptoBulkAll] at hk
  match cs, hl with
  | [v0, v1], _ =>
    simp only [cInt, cBool, List.drop_zero, List.drop_succ_cons, List.take_succ_cons, List.take_zero] at t0 t1
    obtain ⟨a, e0, _⟩ := DataW.trod_bool Tryd.underlying4 t0
    obtain ⟨b, e1, hb⟩ := int_el _ _ _ t1 (by omega) rfl
    simp only [elInt, List.cons.injEq, and_true] at e0 e1
    subst e0 e1
    exact ⟨⟨a, b⟩, rfl, hb⟩
theorem pat_el (cs : List Value) (fuel : Nat) (y : DataW H × List MemPlace) (hd : DataW.trod enc Tryd.prog w 0 (fun _ => true) true fuel 29 cs = some y) (hk : Rows.uptoBulk y.1 ≤ 1048576) (hl : cs.length = 2) : ∃ z, cs = elPat.cells z ∧ elPat.ok w (fun _ => True) z := by
  obtain ⟨y0, y1, n, hy, hlen, t0, t1⟩ := trod_struct2 Tryd.underlying29 hd
  rw [hy] at hk
  simp only [Rows.uptoBulk, Rows.uptoBulkAll] at hk
  match cs, hl with
  | [v0, v1], _ =>
    simp only [cInt, cSlots, List.drop_zero, List.drop_succ_cons, List.take_succ_cons, List.take_zero] at t0 t1
    obtain ⟨a, e0, ha⟩ := int_el _ _ _ t0 (by omega) rfl
    obtain ⟨l, hl, _⟩ := lst_val elSlo Tryd.underlying27 cSlot t1 (by omega) slot_el
    simp only [elInt, List.cons.injEq, and_true] at e0
    subst e0
    exact ⟨⟨a, v1, l⟩, rfl, ha, hl⟩
theorem open_pats10 {r : Reach} {b0 : Nat} {v : Value} {d : DataW H} {ps : List MemPlace}
    (hv : Value.okWide Tryd.prog w r b0 22 v) (h : DataW.Trod enc Tryd.prog w 0 (fun _ => true) true 22 v d ps) (hk : Rows.uptoBulk d ≤ 1048576) :
    ∃ l, Has elPat w v l ∧ l.length ≤ 1048576 := by
  obtain ⟨ao, len, cap, rfl⟩ := okWide_slice Tryd.underlying22 hv
  obtain ⟨fuel, hf⟩ := h
  obtain ⟨l, hl, hn⟩ := lst_val elPat Tryd.underlying22 cPat (x := (d, ps)) hf hk pat_el
  exact ⟨l, hl, Nat.le_trans hn hk⟩
theorem open_pat10 {r : Reach} {b0 : Nat} {v : Value} {d : DataW H} {ps : List MemPlace}
    (hv : Value.okWide Tryd.prog w r b0 29 v) (h : DataW.Trod enc Tryd.prog w 0 (fun _ => true) true 29 v d ps) (hk : Rows.uptoBulk d ≤ 1048576) :
    ∃ q u ss, v = .agg #[.int .i64 q, u] ∧ I64 q ∧ Has elSlo w u ss ∧ ss.length ≤ 1048576 := by
  obtain ⟨cs, rfl, hs⟩ := okWide_struct Tryd.underlying29 hv
  rw [cPat] at hs
  obtain ⟨l⟩ := cs
  match l, hs with
  | [v0, v1], _ =>
    obtain ⟨fuel, hf⟩ := h
    obtain ⟨y0, y1, n, hx, _, t0, t1⟩ := trod_struct2 Tryd.underlying29 hf
    rw [(Prod.mk.inj hx).1] at hk
    simp only [Rows.uptoBulk, Rows.uptoBulkAll] at hk
    simp only [cInt, cSlots, Value.cells, List.drop_zero, List.drop_succ_cons, List.take_succ_cons, List.take_zero] at t0 t1
    obtain ⟨a, e0, ha⟩ := int_el _ _ _ t0 (by omega) rfl
    obtain ⟨l1, k1, hn1⟩ := lst_val elSlo Tryd.underlying27 cSlot t1 (by omega) slot_el
    simp only [elInt, List.cons.injEq, and_true] at e0
    subst e0
    exact ⟨a, v1, l1, rfl, ha, k1, by omega⟩
end
end Go.Proofs.YtgligipgjakecaaDoor
