/- What Has answers. -/
import Derived.Test.YtcofoddjcgmmkaaProg
import Derived.Test.YtcofoddjcgmmkaaStoreNum
namespace Go.Proofs.Ytcofoddjcgmmkaa
set_option linter.unusedSimpArgs false
set_option linter.unusedVariables false
open Go.RowKit Go.Maps
variable {mk : Mk}

theorem numP_I64 (ar : List Int) (C : List (List Int)) (q : Int) (l : List Int) (h : C.length < 1099511627776) : I64 (numP ar C q l) := by
  unfold numP
  split
  · rename_i hc
    have := List.idxOf_lt_length_of_mem hc.2
    exact ⟨by omega, by omega⟩
  · exact ⟨by omega, by omega⟩

set_option maxHeartbeats 1000000 in
theorem has_any {w : World} {p : Nat} {own : Own} {ar : List Int} {C : List (List Int)} {M : Nat} (h : St mk w p own ar C M) {q : Int} (hq : I64 q) {ao : Option Addr} {len cap : Nat} {l : List Int} (hi : IsInts w ao len l) :
    Calls Try.prog 33 #[.pointer (some ⟨p, 0, none⟩), .agg #[.int .i64 q, .slice ao len cap]] w fun e w' => e = .returned (.bool (decide (0 ≤ numP ar C q l))) ∧ Below w.heap.size w w' := by
  have HB : Hid (Below w.heap.size w (w.alloc (.cells #[.int .i64 q, .slice ao len cap] 31))) := (Below.refl _ _).alloc (Nat.le_refl _) _
  have HN : Hid (∀ W, Below w.heap.size w W → Calls Try.prog 23 #[.pointer (some ⟨p, 0, none⟩), .agg #[.int .i64 q, .slice ao len cap]] W fun e w' => e = .returned (.int .i64 (numP ar C q l)) ∧ Below W.heap.size W w') := fun W hB => num_any (h.below hB) hq (hi.kept hB)
  clear h hi hq
  generalize numP ar C q l = z at *
  go_enter Try.func33, Try.ntmps33
  go_wp2_with (go_at_call 23; refine (HN.out _ HB.out).mono ?_; rintro e w2 ⟨rfl, hb2⟩; have HB2 := hide (HB.out.trans (hb2.mono HB.out.size)); clear hb2)
  go_ret
  exact ⟨rfl, HB2.out⟩
end Go.Proofs.Ytcofoddjcgmmkaa
