/- edictlaw06.MatchCompares returns true at every number and every two constants. -/
import Derived.Test.YtnahfhfnodghaaaMatchCmp
namespace Go.Proofs.Ytnahfhfnodghaaa
set_option linter.unusedSimpArgs false
set_option linter.unusedVariables false
open Go.RowKit

set_option maxRecDepth 100000 in
theorem matchCompares_walk (op : Int) (a b : Con) (w : World) (hop : I64 op) (ha : a.ok) (hb : b.ok) :
    Calls Try.prog 5 #[.int .i64 op, a.val, b.val] w fun e w' => e = .returned (.bool true) ∧ Below w.heap.size w w' := by
  have F0 := Two.start w a b 36
  have HC := hide (compare6_any op a b)
  have HR := hide (rcompare6_any op a b)
  unfold Con.val at *
  generalize cmpP op a b = r at *
  obtain ⟨x, n⟩ := r
  go_enter Try.func5, Try.ntmps5
  go_wp2_with fail
  refine (HC.out _ hop ha hb).mono ?_
  rintro e w1 ⟨rfl, h1⟩
  have F1 := F0.step h1
  clear h1 F0
  have F1' := F1
  obtain ⟨⟨a0, a1, a2⟩, ⟨b0, b1, b2⟩, -⟩ := F1'
  go_wp2_with fail
  refine (HR.out _ hop ha hb).mono ?_
  rintro e w2 ⟨rfl, h1⟩
  have F2 := F1.step h1
  clear h1 F1 a0 a1 a2 b0 b1 b2
  go_wp2
  go_ret
  exact ⟨by simp, F2.2.2⟩
end Go.Proofs.Ytnahfhfnodghaaa
