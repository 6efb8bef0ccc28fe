/- The law of the firing bound: its walk. -/
import Derived.Test.YtihkhnljjegopaaRefFire
namespace Go.Proofs.Ytihkhnljjegopaa
set_option linter.unusedSimpArgs false
set_option linter.unusedVariables false
open Go.RowKit

set_option maxHeartbeats 1000000 in
theorem boundFirings_walk (d : Int) (v : Value) (l : List Rul) (w : World) (hd : I64 d) (h : Has elRul w v l) (hl : l.length ≤ 1048576) :
    Calls Try.prog 5 #[.int .i64 d, v] w fun e w' => e = .returned (.bool true) ∧ Below w.heap.size w w' := by
  obtain ⟨va, vc, rfl, -, -, hlen⟩ := h.shape
  have HL := hide h
  have HD := hide hd
  have H1 := hide (rfirings_any h hl hd)
  obtain ⟨z, hz⟩ : ∃ z, cutN (fires d l) = z := ⟨_, rfl⟩
  have HZ := hide hz
  rw [hz] at H1
  clear h hd hz
  go_enter Try.func5, Try.ntmps5
  go_wp2_with (first
    | (go_at_call 13; refine H1.out.mono ?_; rintro e w1 ⟨rfl, hb⟩; have B1 := hide hb; have H2 := hide (firings_any (HL.out.kept hb) HD.out); rw [HZ.out] at H2; clear hb H1)
    | (go_at_call 8; refine H2.out.mono ?_; rintro e w2 ⟨rfl, hb⟩; have B2 := hide (B1.out.trans (hb.mono B1.out.size)); have H3 := hide (rfirings_any (HL.out.kept B2.out) hl HD.out); rw [HZ.out] at H3; clear hb)
    | (go_at_call 13; refine H3.out.mono ?_; rintro e w3 ⟨rfl, hb⟩; have B3 := hide (B2.out.trans (hb.mono B2.out.size)); clear hb))
  go_ret
  exact ⟨rfl, B3.out⟩
end Go.Proofs.Ytihkhnljjegopaa
