/- What arguments hold that are lists of findings, by the bulk of what is read. -/
import Derived.Test.YtfopnijgkhpoiaaDoorProg
import Derived.Test.YtfopnijgkhpoiaaDoorBulk
import Derived.Test.YtfopnijgkhpoiaaDoorFindMem
namespace Go.Proofs.YtfopnijgkhpoiaaDoor
set_option linter.unusedSimpArgs false
set_option linter.unusedVariables false
open Go.RowKit Go.Deep Go.ChangeShapes Go.WideShapes Go.ChangeAt Go.Joins

section
variable {H : Type} {enc : TypeId × Value → H} {P : Program} {w : World}
theorem trod_struct5 {t : TypeId} {f0 f1 f2 f3 f4 : Field} {fuel : Nat} {cs : List Value} {x : DataW H × List MemPlace} (ht : P.underlying t = some (.struct #[f0, f1, f2, f3, f4])) (h : DataW.trod enc P w 0 (fun _ => true) true fuel t cs = some x) :
    ∃ y0 y1 y2 y3 y4 n, x.1 = .agg [y0.1, y1.1, y2.1, y3.1, y4.1] ∧ cs.length = P.cellsOf t ∧ DataW.trod enc P w 0 (fun _ => true) true n f0.type ((cs.drop f0.offset).take (P.cellsOf f0.type)) = some y0 ∧
      DataW.trod enc P w 0 (fun _ => true) true n f1.type ((cs.drop f1.offset).take (P.cellsOf f1.type)) = some y1 ∧ DataW.trod enc P w 0 (fun _ => true) true n f2.type ((cs.drop f2.offset).take (P.cellsOf f2.type)) = some y2 ∧
      DataW.trod enc P w 0 (fun _ => true) true n f3.type ((cs.drop f3.offset).take (P.cellsOf f3.type)) = some y3 ∧ DataW.trod enc P w 0 (fun _ => true) true n f4.type ((cs.drop f4.offset).take (P.cellsOf f4.type)) = some y4 := by
  obtain ⟨xs, n, _, rfl, hl, hlen, hf⟩ := DataW.trod_struct ht h
  match xs, hlen with
  | [y0, y1, y2, y3, y4], _ => exact ⟨y0, y1, y2, y3, y4, n, by simp, hl, by simpa using hf 0 f0 rfl, by simpa using hf 1 f1 rfl, by simpa using hf 2 f2 rfl, by simpa using hf 3 f3 rfl, by simpa using hf 4 f4 rfl⟩
end

section
variable {H : Type} {enc : TypeId × Value → H} {w : World}
theorem cIntF : Tryd.prog.cellsOf 3 = 1 := by kernel_rfl
theorem cStrF : Tryd.prog.cellsOf 9 = 1 := by kernel_rfl
theorem cFnd : Tryd.prog.cellsOf 27 = 5 := by kernel_rfl

set_option maxRecDepth 100000
theorem fnd_el (cs : List Value) (fuel : Nat) (y : DataW H × List MemPlace) (hd : DataW.trod enc Tryd.prog w 0 (fun _ => true) true fuel 27 cs = some y) (hk : Rows.uptoBulk y.1 ≤ 1048576) (hl : cs.length = 5) : ∃ z, cs = elFnd.cells z ∧ elFnd.ok w (fun _ => True) z := by
  obtain ⟨y0, y1, y2, y3, y4, n, hx, _, t0, t1, t2, t3, t4⟩ := trod_struct5 Tryd.underlying27 hd
  rw [hx] at hk
  simp only [Rows.uptoBulk, Rows.uptoBulkAll] at hk
  match cs, hl with
  | [v0, v1, v2, v3, v4], _ =>
    simp only [cIntF, cStrF, List.drop_zero, List.drop_succ_cons, List.take_succ_cons, List.take_zero] at t0 t1 t2 t3 t4
    obtain ⟨a0, e0, _, b0⟩ := DataW.trod_int Tryd.underlying3 t0
    obtain ⟨a1, e1, _, b1⟩ := DataW.trod_int Tryd.underlying3 t1
    obtain ⟨a2, e2, _, b2⟩ := DataW.trod_int Tryd.underlying3 t2
    obtain ⟨a3, e3, _, b3⟩ := DataW.trod_int Tryd.underlying3 t3
    obtain ⟨s, e4, f4, _⟩ := DataW.trod_string Tryd.underlying9 t4
    simp only [List.cons.injEq, and_true] at e0 e1 e2 e3 e4
    subst e0 e1 e2 e3 e4
    rw [f4] at hk
    simp only [Rows.uptoBulk] at hk
    have hh : s.data.toList.length = s.size := rfl
    have h3 : s.data.size = s.size := rfl
    have h4 : s.toList.length = s.size := by rw [ByteArray.toList_eq]; rfl
    exact ⟨⟨a0, a1, a2, a3, s⟩, rfl, bounds_i64 b1, bounds_i64 b2, bounds_i64 b3, by show s.size ≤ 1048576; omega⟩

theorem open_fnds {r : Reach} {b0 : Nat} {v : Value} {d : DataW H} {ps : List MemPlace}
    (hv : Value.okWide Tryd.prog w r b0 22 v) (h : DataW.Trod enc Tryd.prog w 0 (fun _ => true) true 22 v d ps) (hk : Rows.uptoBulk d ≤ 1048576) :
    ∃ l, Has elFnd w v l ∧ l.length ≤ 1048576 := by
  obtain ⟨ao, len, cap, rfl⟩ := okWide_slice Tryd.underlying22 hv
  obtain ⟨fuel, hf⟩ := h
  obtain ⟨l, hl, hn⟩ := lst_val elFnd Tryd.underlying22 cFnd (x := (d, ps)) hf hk fnd_el
  exact ⟨l, hl, Nat.le_trans hn hk⟩
theorem str_bulk {s : ByteArray} (hk : Rows.uptoBulk (.lit (.string s.data.toList) : DataW H) ≤ 1048576) : s.size ≤ 2000000 := by
  simp only [Rows.uptoBulk] at hk
  have hh : s.data.toList.length = s.size := rfl
  omega
end
end Go.Proofs.YtfopnijgkhpoiaaDoor
