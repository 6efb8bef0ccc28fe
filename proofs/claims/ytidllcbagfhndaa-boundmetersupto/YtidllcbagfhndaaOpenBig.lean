/- What arguments hold that are lists of uint64, by the bulk of what is read. -/
import Derived.Test.YtidllcbagfhndaaProg
import Derived.Test.YtidllcbagfhndaaBulk
import Derived.Test.YtidllcbagfhndaaBigMem
namespace Go.Proofs.Ytidllcbagfhndaa
set_option linter.unusedSimpArgs false
set_option linter.unusedVariables false
open Go.RowKit Go.Deep Go.ChangeShapes Go.WideShapes Go.ChangeAt Go.Joins

section
variable {H : Type} {enc : TypeId × Value → H} {w : World}
theorem cU64 : Try.prog.cellsOf 22 = 1 := by kernel_rfl

theorem u64_el (cs : List Value) (fuel : Nat) (y : DataW H × List MemPlace) (hd : DataW.trod enc Try.prog w 0 (fun _ => true) true fuel 22 cs = some y) (hk : Rows.uptoBulk y.1 ≤ 1048576) (hl : cs.length = 1) : ∃ z, cs = elU.cells z ∧ elU.ok w (fun _ => True) z := by
  obtain ⟨a, e, _, h⟩ := DataW.trod_int Try.underlying22 hd
  have y : 0 ≤ a ∧ a ≤ 18446744073709551615 := by simp [Lit.wf, IntKind.min, IntKind.max, IntKind.signed, IntKind.bits] at h; exact h
  obtain ⟨m, rfl⟩ := Int.eq_ofNat_of_zero_le y.1
  exact ⟨m, e, by show m < _; omega⟩

theorem open_u64l {r : Reach} {b0 : Nat} {v : Value} {d : DataW H} {ps : List MemPlace}
    (hv : Value.okWide Try.prog w r b0 23 v) (h : DataW.Trod enc Try.prog w 0 (fun _ => true) true 23 v d ps) (hk : Rows.uptoBulk d ≤ 1048576) :
    ∃ l, Has elU w v l ∧ l.length ≤ 1048576 := by
  obtain ⟨ao, len, cap, rfl⟩ := okWide_slice Try.underlying23 hv
  obtain ⟨fuel, hf⟩ := h
  obtain ⟨l, hl, hn⟩ := lst_val elU Try.underlying23 cU64 (x := (d, ps)) hf hk u64_el
  exact ⟨l, hl, Nat.le_trans hn hk⟩
end
end Go.Proofs.Ytidllcbagfhndaa
