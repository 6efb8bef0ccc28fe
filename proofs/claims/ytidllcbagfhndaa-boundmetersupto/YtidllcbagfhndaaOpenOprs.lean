/- What an argument holds that is a script over meters, by the bulk of what is read. -/
import Derived.Test.YtidllcbagfhndaaOpenBig
import Derived.Test.YtidllcbagfhndaaLawMeters
namespace Go.Proofs.Ytidllcbagfhndaa
set_option linter.unusedSimpArgs false
set_option linter.unusedVariables false
open Go.RowKit Go.Deep Go.ChangeShapes Go.WideShapes Go.ChangeAt Go.Joins

section
variable {H : Type} {enc : TypeId × Value → H} {w : World}
theorem cIntO : Try.prog.cellsOf 3 = 1 := by kernel_rfl
theorem cOpr : Try.prog.cellsOf 36 = 3 := by kernel_rfl
set_option maxRecDepth 100000
theorem opr_el (cs : List Value) (fuel : Nat) (y : DataW H × List MemPlace) (hd : DataW.trod enc Try.prog w 0 (fun _ => true) true fuel 36 cs = some y) (hk : Rows.uptoBulk y.1 ≤ 1048576) (hl : cs.length = 3) : ∃ z, cs = elOpr.cells z ∧ elOpr.ok w (fun _ => True) z := by
  obtain ⟨y0, y1, y2, n, hy, hlen, t0, t1, t2⟩ := trod_struct3 Try.underlying36 hd
  rw [hy] at hk
  simp only [Rows.uptoBulk, Rows.uptoBulkAll] at hk
  match cs, hl with
  | [v0, v1, v2], _ =>
    simp only [cIntO, cU64, List.drop_zero, List.drop_succ_cons, List.take_succ_cons, List.take_zero] at t0 t1 t2
    obtain ⟨a, e0, _, ha⟩ := DataW.trod_int Try.underlying3 t0
    obtain ⟨b, e1, _, hb⟩ := DataW.trod_int Try.underlying3 t1
    obtain ⟨c, e2, hc⟩ := u64_el _ _ _ t2 (by omega) rfl
    simp only [elU, List.cons.injEq, and_true] at e0 e1 e2
    subst e0 e1 e2
    exact ⟨⟨a, b, c⟩, rfl, bounds_i64 ha, bounds_i64 hb, hc⟩
theorem open_oprs {r : Reach} {b0 : Nat} {v : Value} {d : DataW H} {ps : List MemPlace}
    (hv : Value.okWide Try.prog w r b0 30 v) (h : DataW.Trod enc Try.prog w 0 (fun _ => true) true 30 v d ps) (hk : Rows.uptoBulk d ≤ 1048576) :
    ∃ l, Has elOpr w v l ∧ l.length ≤ 1048576 := by
  obtain ⟨ao, len, cap, rfl⟩ := okWide_slice Try.underlying30 hv
  obtain ⟨fuel, hf⟩ := h
  obtain ⟨l, hl, hn⟩ := lst_val elOpr Try.underlying30 cOpr (x := (d, ps)) hf hk opr_el
  exact ⟨l, hl, Nat.le_trans hn hk⟩
end
end Go.Proofs.Ytidllcbagfhndaa
