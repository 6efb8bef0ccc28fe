/- The law of the token bound: its walk. -/
import Derived.Test.YtihkhnljjegopaaRefToks
namespace Go.Proofs.Ytihkhnljjegopaa
set_option linter.unusedSimpArgs false
set_option linter.unusedVariables false
open Go.RowKit

set_option maxHeartbeats 1000000 in
theorem boundTokens_walk (d : Int) (av nv ev : Value) (l : List Nod) (w : World) (hd : I64 d) (h : Has elNod w nv l) (hl : l.length ≤ 1048576) :
    Calls Try.prog 6 #[.int .i64 d, .agg #[av, nv, ev]] w fun e w' => e = .returned (.bool true) ∧ Below w.heap.size w w' := by
  obtain ⟨W, hW⟩ : ∃ W, w.alloc (.cells #[av, nv, ev] 34) = W := ⟨_, rfl⟩
  have C0 : Hid (W.cell? ⟨w.heap.size, 0, none⟩ = some av) := by rw [← hW]; exact new_cells 0 _ rfl
  have C1 : Hid (W.cell? ⟨w.heap.size, 1, none⟩ = some nv) := by rw [← hW]; exact new_cells 1 _ rfl
  have C2 : Hid (W.cell? ⟨w.heap.size, 2, none⟩ = some ev) := by rw [← hW]; exact new_cells 2 _ rfl
  have BW : Hid (Below w.heap.size w W) := by rw [← hW]; exact belo1 _ _
  have HL := hide (h.kept BW.out)
  have HD := hide hd
  have H1 := hide (rtokens_any (av := av) (ev := ev) HL.out hl hd)
  obtain ⟨z, hz⟩ : ∃ z, cutN (toks d l) = z := ⟨_, rfl⟩
  have HZ := hide hz
  rw [hz] at H1
  have HW := hide hW
  clear h hd hz hW
  go_enter Try.func6, Try.ntmps6
  go_wp2_with (first
    | (go_at_call 14; rw [HW.out]; refine H1.out.mono ?_; rintro e w1 ⟨rfl, hb⟩; have B1 := hide hb; have H2 := hide (tokens_any (av := av) (ev := ev) (HL.out.kept hb) HD.out); rw [HZ.out] at H2; have c0 := kept_cell hb C0.out; have c1 := kept_cell hb C1.out; have c2 := kept_cell hb C2.out; clear hb H1)
    | (go_at_call 10; refine H2.out.mono ?_; rintro e w2 ⟨rfl, hb⟩; have B2 := hide (B1.out.trans (hb.mono B1.out.size)); have H3 := hide (rtokens_any (av := av) (ev := ev) (HL.out.kept B2.out) hl HD.out); rw [HZ.out] at H3; have d0 := kept_cell B2.out C0.out; have d1 := kept_cell B2.out C1.out; have d2 := kept_cell B2.out C2.out; clear hb)
    | (go_at_call 14; refine H3.out.mono ?_; rintro e w3 ⟨rfl, hb⟩; have B3 := hide (B2.out.trans (hb.mono B2.out.size)); clear hb))
  go_ret
  exact ⟨rfl, BW.out.trans (B3.out.mono BW.out.size)⟩
end Go.Proofs.Ytihkhnljjegopaa
