/- The law of Cyclic: its walk. -/
import Derived.Test.YtckmdedopokbfaaEdgeSCyc
import Derived.Test.YtckmdedopokbfaaEdgeLaw
namespace Go.Proofs.Ytckmdedopokbfaa
set_option linter.unusedSimpArgs false
set_option linter.unusedVariables false
open Go.RowKit

set_option maxRecDepth 100000 in
set_option maxHeartbeats 2000000 in
theorem strataCyclic_walk (n : Int) (v : Value) (es : List Edg) (u : Value) (ls : List Int) (w : World) (hn : I64 n) (h : Has elEdg w v es) (_ : es.length ≤ 1048576) (hu : Has elInt w u ls) (_ : ls.length ≤ 1048576) :
    Calls Try.prog 5 #[.int .i64 n, v, u] w fun e w' => e = .returned (.bool true) ∧ Below w.heap.size w w' := by
  obtain ⟨va, vc, rfl, -, -, hlen⟩ := h.shape
  obtain ⟨ua, uc, rfl, -, -, hlen2⟩ := hu.shape
  have HL := hide h
  have HU := hide hu
  clear h hu hn
  go_enter Try.func5, Try.ntmps5
  go_wp2_with (go_at_call 12; refine (edges_any HL.out).mono ?_)
  rintro e w1 ⟨g1, rfl, hg1, b1⟩
  obtain ⟨ga, gc, rfl, -, -⟩ := hg1.shape
  have HG1 := hide (hg1.list hlen)
  have HB1 := hide b1
  clear hg1 b1
  go_wp2_with (go_at_call 13; refine (ints_any (HU.out.kept HB1.out)).mono ?_)
  rintro e w2 ⟨g2, rfl, hg2, b2⟩
  obtain ⟨oa, oc, rfl, -, -⟩ := hg2.shape
  have HG2 := hide (hg2.list hlen2)
  have HG12 := hide (HG1.out.kept b2)
  have HB2 := hide (HB1.out.trans (b2.mono HB1.out.size))
  clear hg2 b2 HG1 HB1
  go_wp2_with (go_at_call 17; refine (rcyclic_any (HL.out.kept HB2.out) (HU.out.kept HB2.out) n).mono ?_)
  rintro e w3 ⟨rfl, b3⟩
  have HG13 := hide (HG12.out.kept b3)
  have HG23 := hide (HG2.out.kept b3)
  have HB3 := hide (HB2.out.trans (b3.mono HB2.out.size))
  clear b3 HG12 HG2 HB2
  go_wp2_with (go_at_call 18; refine (cyclic_any HG13.out HG23.out n).mono ?_)
  rintro e w4 ⟨rfl, b4⟩
  have HG14 := hide (HG13.out.kept b4)
  have HG24 := hide (HG23.out.kept b4)
  have HB4 := hide (HB3.out.trans (b4.mono HB3.out.size))
  clear b4 HG13 HG23 HB3
  obtain ⟨a, ha⟩ : ∃ a, cyclicP n es ls = a := ⟨_, rfl⟩
  rw [ha]
  clear ha
  have hq : (a == a) = true := by cases a <;> rfl
  go_wp2_with (go_at_call 9; refine (equalEdges_any HG14.out (HL.out.kept HB4.out)).mono ?_)
  rintro e w5 ⟨rfl, b5⟩
  have HG25 := hide (HG24.out.kept b5)
  have HB5 := hide (HB4.out.trans (b5.mono HB4.out.size))
  clear b5 HG14 HG24 HB4
  go_wp2_with (go_at_call 16; refine (equalInts_any HG25.out (HU.out.kept HB5.out)).mono ?_)
  rintro e w6 ⟨rfl, b6⟩
  have HB6 := hide (HB5.out.trans (b6.mono HB5.out.size))
  clear b6 HG25 HB5
  have HE := hide (has_new elEdg w6 43 [⟨0, 0, true, 0⟩] #[.int .i64 0, .int .i64 0, .bool true, .int .i64 0] rfl (F := fun _ => True) trivial (fun x hx => by simp only [List.mem_singleton] at hx; subst hx; exact ⟨⟨by decide, by decide⟩, ⟨by decide, by decide⟩, ⟨by decide, by decide⟩⟩) (by simp))
  have HN := hide (has_new elInt (w6.alloc (.cells #[.int .i64 0, .int .i64 0, .bool true, .int .i64 0] 43)) 3 [0] #[.int .i64 0] rfl (F := fun _ => True) trivial (fun x hx => by simp only [List.mem_singleton] at hx; subst hx; exact ⟨by decide, by decide⟩) (by simp))
  rw [show (w6.alloc (.cells #[.int .i64 0, .int .i64 0, .bool true, .int .i64 0] 43)).heap.size = w6.heap.size + 1 by simp] at HN
  have HE2 := hide (HE.out.kept (belo1 _ (.cells #[.int .i64 0] 3)))
  have HB7 := hide ((HB6.out.alloc HB6.out.size (.cells #[.int .i64 0, .int .i64 0, .bool true, .int .i64 0] 43)).alloc (by simp; have := HB6.out.size; omega) (.cells #[.int .i64 0] 3))
  go_wp2_with (go_at_call 18; refine (cyclic_any HE2.out HN.out 1).mono ?_)
  rintro e w8 ⟨rfl, b8⟩
  have hr : cyclicP 1 [⟨0, 0, true, 0⟩] [0] = true := by decide
  rw [hr]
  have HB8 := hide (HB7.out.trans (b8.mono HB7.out.size))
  clear b8 HB6 HB7 HN HE HE2 hr
  go_wp2
  go_ret
  exact ⟨rfl, HB8.out⟩
end Go.Proofs.Ytckmdedopokbfaa
