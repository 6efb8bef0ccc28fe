/- edicttop.TopNames returns true: the numbers of package api are the document's. -/
import Derived.Test.YtieedndmjconoaaDoorProg
import Derived.Test.YtieedndmjconoaaDoorSymRead
import Derived.Test.YtieedndmjconoaaDoorConEq
namespace Go.Proofs.YtieedndmjconoaaDoor
set_option linter.unusedSimpArgs false
set_option linter.unusedVariables false
open Go.RowKit

/-- A box that holds the constant c. -/
def conBox (b : Nat) (W : World) (k n : Int) (s : ByteArray) : Prop := W.heap[b]? = some (.cells #[.int .i64 k, .int .i64 n, .string s] 25 (0, 0))
theorem conBox.kept {b : Nat} {W W' : World} {k n : Int} {s : ByteArray} (h : conBox b W k n s) (hb : Below W.heap.size W W') : conBox b W' k n s := by
  unfold conBox at h ⊢
  rw [hb.block b (Array.getElem?_eq_some_iff.1 h).1]; exact h
theorem conBox.cells {b : Nat} {W : World} {k n : Int} {s : ByteArray} (h : conBox b W k n s) : W.cell? ⟨b, 0, none⟩ = some (.int .i64 k) ∧ W.cell? ⟨b, 1, none⟩ = some (.int .i64 n) ∧ W.cell? ⟨b, 2, none⟩ = some (.string s) ∧
    W.frozen? ⟨b, 0, none⟩ = false ∧ W.frozen? ⟨b, 1, none⟩ = false ∧ W.frozen? ⟨b, 2, none⟩ = false ∧ b < W.heap.size := by
  unfold conBox at h
  refine ⟨?_, ?_, ?_, ?_, ?_, ?_, (Array.getElem?_eq_some_iff.1 h).1⟩
  all_goals first | (simp only [World.cell?, h]; simp only [Option.isSome_none, Bool.false_eq_true, if_false]; rfl) | simp [World.frozen?, h]
theorem conBox.put {b : Nat} {X : World} {k n : Int} {s : ByteArray} (h : conBox b X k n s) (k' n' : Int) (s' : ByteArray) : conBox b (((X.setCell ⟨b, 0, none⟩ (.int .i64 k')).setCell ⟨b, 1, none⟩ (.int .i64 n')).setCell ⟨b, 2, none⟩ (.string s')) k' n' s' := by
  unfold conBox at h ⊢
  simp [World.setCell, Array.getElem?_modify, h]

theorem read_results {Z : World} {b : Nat} {k n e : Int} {s : ByteArray} (h : conBox b Z k n s) (tmps : Array Value) (ht : tmps.getD 2 undef = .pointer (some ⟨b, 0, none⟩)) (ht2 : tmps.getD 3 undef = .int .i64 e) :
    (results Tryd.f16 tmps).run Tryd.prog Z = .ok (.tuple #[.agg #[.int .i64 k, .int .i64 n, .string s], .int .i64 e]) Z := by
  obtain ⟨x0, x1, x2, _⟩ := h.cells
  have ht' : tmps[2]?.getD undef = .pointer (some ⟨b, 0, none⟩) := by rw [← ht]; simp [Array.getD_eq_getD_getElem?]
  have ht2' : tmps[3]?.getD undef = .int .i64 e := by rw [← ht2]; simp [Array.getD_eq_getD_getElem?]
  simp [results, Tryd.results16, go_sem, ht', ht2', x0, x1, x2]

set_option maxHeartbeats 1000000 in
theorem read_not (w : World) : Calls Tryd.prog 16 #[.string ⟨#[110, 111, 116]⟩] w fun e w' => e = .returned (.tuple #[.agg #[.int .i64 0, .int .i64 0, .string ⟨#[]⟩], .int .i64 5]) ∧ Below w.heap.size w w' := by
  obtain ⟨b, hb⟩ : ∃ b, b = w.heap.size := ⟨_, rfl⟩
  have hbx : conBox b (w.alloc (.cells #[.int .i64 0, .int .i64 0, .string ⟨#[]⟩] 25)) 0 0 ⟨#[]⟩ := by rw [hb]; exact heap_alloc_new w _
  go_enter Tryd.func16, Tryd.ntmps16
  go_wp2_with fail
  rw [← hb]
  have HBx := hide hbx
  have HBb := hide hb
  have HB0 := hide (below1 w (.cells #[.int .i64 0, .int .i64 0, .string ⟨#[]⟩] 25))
  clear hbx hb
  generalize w.alloc (.cells #[.int .i64 0, .int .i64 0, .string ⟨#[]⟩] 25) = W0 at *
  refine (loose_not _).mono ?_
  rintro e w1 ⟨rfl, hb1⟩
  have HX1 := hide (HBx.out.kept hb1)
  have HB1 := hide hb1
  clear hb1 HBx
  go_wp2_with fail
  have HC2 : Hid (conBox w1.heap.size (w1.alloc (.cells #[.int .i64 2, .int .i64 0, .string ⟨#[110, 111, 116]⟩] 25)) 2 0 ⟨#[110, 111, 116]⟩) := heap_alloc_new w1 _
  have HX2 := hide (HX1.out.kept (below1 w1 (.cells #[.int .i64 2, .int .i64 0, .string ⟨#[110, 111, 116]⟩] 25)))
  have HB2 := hide (below1 w1 (.cells #[.int .i64 2, .int .i64 0, .string ⟨#[110, 111, 116]⟩] 25))
  generalize w1.alloc (.cells #[.int .i64 2, .int .i64 0, .string ⟨#[110, 111, 116]⟩] 25) = W2 at *
  refine (text_not _).mono ?_
  rintro e w3 ⟨rfl, hb3⟩
  have HX3 := hide (HX2.out.kept hb3)
  obtain ⟨x0, x1, x2, z0, z1, z2, xlt⟩ := HX3.out.cells
  have hBw : Below w.heap.size w w3 := by
    have h1 := HB0.out.trans (HB1.out.mono HB0.out.size)
    have h2 := h1.trans (HB2.out.mono h1.size)
    exact h2.trans (hb3.mono h2.size)
  have HBw := hide hBw
  clear hb3 hBw HX1 HX2
  go_wp2
  refine bodyPost_ret (read_results (HX3.out.put 0 0 ⟨#[]⟩) _ rfl rfl) rfl ⟨rfl, ?_⟩
  have hle : w.heap.size ≤ b := Nat.le_of_eq HBb.out.symm
  exact ((HBw.out.setCell (p := ⟨b, 0, none⟩) hle _).setCell (p := ⟨b, 1, none⟩) hle _).setCell (p := ⟨b, 2, none⟩) hle _

set_option maxHeartbeats 1000000 in
theorem read_seven (w : World) (ht : TabLaid w) : Calls Tryd.prog 16 #[.string ⟨#[45, 55]⟩] w fun e w' => e = .returned (.tuple #[.agg #[.int .i64 1, .int .i64 (-7), .string ⟨#[]⟩], .int .i64 0]) ∧ Below w.heap.size w w' := by
  have HT := hide ht
  clear ht
  obtain ⟨b, hb⟩ : ∃ b, b = w.heap.size := ⟨_, rfl⟩
  have hbx : conBox b (w.alloc (.cells #[.int .i64 0, .int .i64 0, .string ⟨#[]⟩] 25)) 0 0 ⟨#[]⟩ := by rw [hb]; exact heap_alloc_new w _
  go_enter Tryd.func16, Tryd.ntmps16
  go_wp2_with fail
  rw [← hb]
  have HBx := hide hbx
  have HBb := hide hb
  have HB0 := hide (below1 w (.cells #[.int .i64 0, .int .i64 0, .string ⟨#[]⟩] 25))
  clear hbx hb
  generalize w.alloc (.cells #[.int .i64 0, .int .i64 0, .string ⟨#[]⟩] 25) = W0 at *
  refine (loose_seven _).mono ?_
  rintro e w1 ⟨rfl, hb1⟩
  have HX1 := hide (HBx.out.kept hb1)
  have HB1 := hide hb1
  clear hb1 HBx
  go_wp2_with fail
  have HC2 : Hid (conBox w1.heap.size (w1.alloc (.cells #[.int .i64 1, .int .i64 (-7), .string ⟨#[]⟩] 25)) 1 (-7) ⟨#[]⟩) := heap_alloc_new w1 _
  have HX2 := hide (HX1.out.kept (below1 w1 (.cells #[.int .i64 1, .int .i64 (-7), .string ⟨#[]⟩] 25)))
  have HB2 := hide (below1 w1 (.cells #[.int .i64 1, .int .i64 (-7), .string ⟨#[]⟩] 25))
  generalize w1.alloc (.cells #[.int .i64 1, .int .i64 (-7), .string ⟨#[]⟩] 25) = W2 at *
  have HTW : Hid (TabLaid W2) := by
    have h1 := HB0.out.trans (HB1.out.mono HB0.out.size)
    have h2 := h1.trans (HB2.out.mono h1.size)
    exact HT.out.kept h2
  refine (text_seven _ HTW.out).mono ?_
  rintro e w3 ⟨rfl, hb3⟩
  have HX3 := hide (HX2.out.kept hb3)
  obtain ⟨y0, y1, y2, _⟩ := (HC2.out.kept hb3).cells
  obtain ⟨x0, x1, x2, z0, z1, z2, xlt⟩ := HX3.out.cells
  have hBw : Below w.heap.size w w3 := by
    have h1 := HB0.out.trans (HB1.out.mono HB0.out.size)
    have h2 := h1.trans (HB2.out.mono h1.size)
    exact h2.trans (hb3.mono h2.size)
  have HBw := hide hBw
  have hne : ¬ w1.heap.size = b := by have := HX1.out.cells.2.2.2.2.2.2; omega
  clear hb3 hBw HX1 HX2
  go_wp2
  refine bodyPost_ret (read_results (HX3.out.put 1 (-7) ⟨#[]⟩) _ rfl rfl) rfl ⟨rfl, ?_⟩
  have hle : w.heap.size ≤ b := Nat.le_of_eq HBb.out.symm
  exact ((HBw.out.setCell (p := ⟨b, 0, none⟩) hle _).setCell (p := ⟨b, 1, none⟩) hle _).setCell (p := ⟨b, 2, none⟩) hle _

theorem errno_any (e : Int) (w : World) (h : 0 ≤ e ∧ e ≤ 100) : Calls Tryd.prog 21 #[.int .i64 e] w fun r w' => r = .returned (.int .i64 e) ∧ w' = w := by
  go_enter Tryd.func21, Tryd.ntmps21
  go_wp2
  go_ret
  exact ⟨rfl, rfl⟩

theorem eqSeven (w : World) : (binOp .eql 25 (.agg #[.int .i64 1, .int .i64 (-7), .string ⟨#[]⟩]) (.agg #[.int .i64 1, .int .i64 (-7), .string ⟨#[]⟩])).run Tryd.prog w = .ok (.bool true) w := by
  have := eqCon sevenC sevenC w
  rw [conEq_refl] at this
  exact this

set_option maxHeartbeats 1000000 in
theorem topNames_walk (w : World) (ht : TabLaid w) : Calls Tryd.prog 7 #[] w fun e w' => e = .returned (.bool true) ∧ Below w.heap.size w w' := by
  have HT := hide ht
  have hq := eqSeven
  clear ht
  go_enter Tryd.func7, Tryd.ntmps7
  go_wp2_with fail
  refine (read_not _).mono ?_
  rintro e w1 ⟨rfl, hb1⟩
  have HB1 := hide hb1
  clear hb1
  go_wp2_with fail
  have HB2 := hide (HB1.out.trans ((below1 w1 (.cells #[.int .i64 0, .int .i64 0, .string ⟨#[]⟩] 25)).mono HB1.out.size))
  generalize w1.alloc (.cells #[.int .i64 0, .int .i64 0, .string ⟨#[]⟩] 25) = W2 at *
  refine (read_seven _ (HT.out.kept HB2.out)).mono ?_
  rintro e w3 ⟨rfl, hb3⟩
  have HB3 := hide (HB2.out.trans (hb3.mono HB2.out.size))
  clear hb3
  go_wp2_with (go_at_call 21; refine (errno_any _ _ (by decide)).mono ?_; rintro e w' ⟨rfl, hw'⟩; have hw' := hw'.symm; subst hw')
  go_ret
  exact ⟨rfl, HB3.out.trans ((below1 w3 _).mono HB3.out.size)⟩

end Go.Proofs.YtieedndmjconoaaDoor
