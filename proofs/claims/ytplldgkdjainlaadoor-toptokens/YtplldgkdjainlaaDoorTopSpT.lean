/- What spells of edicttop answers at a text. -/
import Derived.Test.YtplldgkdjainlaaDoorProg
import Derived.Test.YtplldgkdjainlaaDoorTopSpW
import Derived.Test.YtplldgkdjainlaaDoorTopQuo
namespace Go.Proofs.YtplldgkdjainlaaDoor
set_option linter.unusedSimpArgs false
set_option linter.unusedVariables false
open Go.RowKit

set_option maxRecDepth 100000 in
set_option maxHeartbeats 4000000 in
theorem sp_text (q T : ByteArray) (V : List Int) (o en : Int) (w : World) (hs : q.size ≤ 140737488351232) (h2 : 2 ≤ q.size) (hT : T = q.extract 0 (q.size - 1)) (h34 : (q[0].toNat : Int) = 34) (h34' : (q[q.size - 1].toNat : Int) = 34) (hV : ∀ b ∈ V, 0 ≤ b ∧ b ≤ 255) (hVl : V.length ≤ 255) (hq : QSp T 1 V) :
    Calls Tryd.prog 14 #[.string q, .agg #[.int .i64 4, .string (strOf V), .int .i64 0, .int .i64 0, .int .i64 o, .int .i64 en]] w fun e w' => e = .returned (.bool true) ∧ Below w.heap.size w w' := by
  have h0 : 0 < q.size := by omega
  have hne := str_neT h0
  have h0' : (0 : Int) < (q.size : Int) := by omega
  have HQ := hide (fun W => tquoted_any q T V W hs h2 hT h34 h34' hV (by omega) hq)
  have hvs : (strOf V).size = V.length := strOf_size V
  have hv5 : ((strOf V).size : Int) ≤ 255 := by omega
  have HBl := hide (belowA w (.cells #[.int .i64 4, .string (strOf V), .int .i64 0, .int .i64 0, .int .i64 o, .int .i64 en] 32))
  clear h34 h34' hV hq hT hvs
  generalize strOf V = v at *
  go_enter Tryd.func14, Tryd.ntmps14
  go_wp2_with (go_at_call 30; refine (HQ.out _).mono ?_; rintro e w' ⟨rfl, hb⟩; have HB := hide (HBl.out.trans (hb.mono HBl.out.size)); clear hb)
  go_ret
  exact ⟨rfl, HB.out⟩
end Go.Proofs.YtplldgkdjainlaaDoor
