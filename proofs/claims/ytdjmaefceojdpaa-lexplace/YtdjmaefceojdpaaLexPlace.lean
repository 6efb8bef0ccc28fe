/- edictlaw02.LexPlace returns true: both Places answer the same. -/
import Derived.Test.YtdjmaefceojdpaaProg
import Derived.Test.YtdjmaefceojdpaaPlace
namespace Go.Proofs.Ytdjmaefceojdpaa
set_option linter.unusedSimpArgs false
set_option linter.unusedVariables false
open Go.RowKit

theorem lexPlace_walk (s : ByteArray) (off : Int) (w : World) (hs : s.size ≤ 140737488351232) (ho : -9223372036854775808 ≤ off ∧ off ≤ 9223372036854775807) :
    Calls Try.prog 8 #[.string s, .int .i64 off] w fun e w' => e = .returned (.bool true) ∧ Below w.heap.size w w' := by
  have HA := hide (place_any s off w hs ho)
  have HB := hide (refPlace_any s off w hs ho)
  generalize placeW s off = P at *
  obtain ⟨x, y⟩ := P
  clear ho hs
  go_enter Try.func8, Try.ntmps8
  go_wp2_with (first
    | (go_at_call 27; refine HA.out.mono ?_; rintro e w' ⟨rfl, hw'⟩; have hw' := hw'.symm; subst hw')
    | (go_at_call 28; refine HB.out.mono ?_; rintro e w' ⟨rfl, hw'⟩; have hw' := hw'.symm; subst hw'))
  go_ret
  first | exact ⟨rfl, Below.refl _ _⟩ | exact ⟨ret_bool (by simp), Below.refl _ _⟩

end Go.Proofs.Ytdjmaefceojdpaa
