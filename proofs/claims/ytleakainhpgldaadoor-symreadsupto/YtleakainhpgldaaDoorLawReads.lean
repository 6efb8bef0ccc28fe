/- edictlaw01.SymReads returns true at every list of texts. -/
import Derived.Test.YtleakainhpgldaaDoorProg
import Derived.Test.YtleakainhpgldaaDoorRefRead
namespace Go.Proofs.YtleakainhpgldaaDoor
set_option linter.unusedSimpArgs false
set_option linter.unusedVariables false
open Go.RowKit

set_option maxHeartbeats 4000000 in
set_option maxRecDepth 100000 in
theorem same_self (c : Con) (w : World) : Calls Tryd.prog 12 #[.agg #[.int .i64 c.k, .int .i64 c.n, .string c.s], .agg #[.int .i64 c.k, .int .i64 c.n, .string c.s]] w fun e w' => e = .returned (.bool true) ∧ Below w.heap.size w w' := by
  obtain ⟨k, n, s⟩ := c
  have h : (s.toList == s.toList) = true := by simp
  go_enter Tryd.func12, Tryd.ntmps12
  go_wp2
  go_ret
  exact ⟨rfl, ((Below.refl _ _).alloc (Nat.le_refl _) _).alloc (by simp) _⟩

set_option maxHeartbeats 8000000 in
set_option maxRecDepth 100000 in
theorem symReads_walk (ao : Option Addr) (n cap : Nat) (ss : List ByteArray) (w : World) (h : IsStrs w ao n ss) (hb : ∀ s ∈ ss, s.size ≤ 1048576) (hl : RdLaid w) :
    Calls Tryd.prog 5 #[.slice ao n cap] w fun e w' => e = .returned (.bool true) ∧ Below w.heap.size w w' := by
  have H1 := hide h
  have HL := hide hl
  have HS := hide hb
  have hn : n ≤ 140737488351232 := by have := h.2.1; omega
  clear h hl hb
  go_enter Tryd.func5, Tryd.ntmps5
  go_wp2
  go_loopw [3] (fun i wr => ∃ k : Nat, k ≤ n ∧ i = .int .i64 k ∧ Hid (Below w.heap.size w wr)) (fun i _ => n - (intOf i).toNat)
  case atStart => exact ⟨0, Nat.zero_le _, rfl, Below.refl _ _⟩
  case round =>
    obtain ⟨k, hk, rfl, HB⟩ := hrel
    by_cases hlt : k < n
    · have hi : (k : Int) < (n : Int) := by omega
      obtain ⟨hlen, -, -, hrow⟩ := H1.out
      obtain ⟨bb, off, rfl, hr⟩ := hrow (by omega)
      obtain ⟨s, hs⟩ : ∃ s, ss[k]? = some s := ⟨_, List.getElem?_eq_getElem (by omega)⟩
      have hsz := HS.out s (List.mem_of_getElem? hs)
      have hcw := hr k s hs
      have hc0 := kept_cell HB.out hcw
      clear hlen hrow hr hs
      go_wp2_with fail
      refine (read_any s _ (by omega) (HL.out.kept HB.out)).mono ?_
      rintro e w1 ⟨⟨c, er, rfl, hr1⟩, hb1⟩
      have HB1 := hide (HB.out.trans (hb1.mono HB.out.size))
      have HR1 := hide hr1
      have hc1 := kept_cell HB1.out hcw
      have hc2 := kept_cell (HB1.out.trans ((below1 w1 (.cells #[.int .i64 c.k, .int .i64 c.n, .string c.s] 23)).mono HB1.out.size)) hcw
      clear hb1 hr1 hc0 HB
      go_wp2_with fail
      obtain ⟨bC, hbC⟩ : ∃ b, b = w1.heap.size := ⟨_, rfl⟩
      have HXC : Hid (conBox bC (w1.alloc (.cells #[.int .i64 c.k, .int .i64 c.n, .string c.s] 23)) c.k c.n c.s) := by rw [hbC]; exact heap_alloc_new w1 _
      have HB2 := hide (HB1.out.trans ((below1 w1 (.cells #[.int .i64 c.k, .int .i64 c.n, .string c.s] 23)).mono HB1.out.size))
      rw [← hbC]
      clear hbC HB1 hc1 hc2
      generalize w1.alloc (.cells #[.int .i64 c.k, .int .i64 c.n, .string c.s] 23) = W2 at *
      refine (rread_any s _ (by omega)).mono ?_
      rintro e w3 ⟨⟨d, fr, rfl, hr2⟩, hb3⟩
      obtain ⟨rfl, rfl⟩ := readR_uniq HR1.out hr2
      have HB3 := hide (HB2.out.trans (hb3.mono HB2.out.size))
      have HXC3 := hide (HXC.out.kept hb3)
      obtain ⟨x0, x1, x2, _, _, _, xlt⟩ := HXC3.out.cells
      have HSm := hide (fun W => same_self c W)
      clear hb3 hr2 HR1 HB2 HXC
      go_wp2_with fail
      refine (HSm.out _).mono ?_
      rintro e w4 ⟨rfl, hb4⟩
      have HB4 := hide (HB3.out.trans (((below1 w3 (.cells #[.int .i64 c.k, .int .i64 c.n, .string c.s] 23)).trans (hb4.mono (by simp))).mono HB3.out.size))
      clear hb4 HB3 HXC3 HSm x0 x1 x2 xlt
      go_wp2
      go_roundw
      case rel => exact ⟨k + 1, by omega, by go_num, HB4⟩
      case measure => simp [intOf]; omega
    · have hi : ¬ (k : Int) < (n : Int) := by omega
      go_wp2
      go_ret
      exact ⟨rfl, HB.out⟩
end Go.Proofs.YtleakainhpgldaaDoor
