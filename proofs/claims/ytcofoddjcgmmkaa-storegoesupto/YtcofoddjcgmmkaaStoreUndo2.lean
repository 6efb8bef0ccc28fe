/- Undo, Copy. -/
import Derived.Test.YtcofoddjcgmmkaaStoreUndo
import Derived.Test.YtcofoddjcgmmkaaStoreRow2
namespace Go.Proofs.Ytcofoddjcgmmkaa
set_option linter.unusedSimpArgs false
set_option linter.unusedVariables false
open Go.RowKit Go.Maps

set_option maxRecDepth 100000 in
set_option maxHeartbeats 2000000 in
theorem undo_ok {w : World} {p : Nat} {own : Own} {ar : List Int} {C : List (List Int)} {M : Nat} (h : St mk0 w p own ar C M) {n : Nat} (hn : n ≤ C.length) (hM : M + 8 * C.length < 68719476736) :
    Calls Try.prog 35 #[.pointer (some ⟨p, 0, none⟩), .int .i64 (n : Int)] w fun e w' => e = .returned (.int .i64 0) ∧ St mk0 w' p own ar (C.take n) (M + 8 * C.length) ∧ Turn (fun _ => True) own own w w' := by
  have HLn := hide (len_st h)
  have HRb := hide (runBack_st h hn hM)
  clear h
  have h1 : (0 : Int) ≤ (n : Int) := by omega
  have h2 : (n : Int) ≤ (C.length : Int) := by omega
  generalize C.length = N at *
  go_enter Try.func35, Try.ntmps35
  go_wp2_with (first
    | (go_at_call 22; refine HLn.out.mono ?_; rintro e w2 ⟨rfl, hw⟩; have hw := hw.symm; subst hw)
    | (go_at_call 30; refine HRb.out.mono ?_; rintro e w3 ⟨rfl, s3, t3⟩; have HS3 := hide s3; have HT3 := hide t3; clear s3 t3))
  go_ret
  exact ⟨rfl, HS3.out, HT3.out⟩

set_option maxRecDepth 100000 in
set_option maxHeartbeats 2000000 in
theorem undo_more {w : World} {p : Nat} {own : Own} {ar : List Int} {C : List (List Int)} {M : Nat} (h : St mk0 w p own ar C M) {n : Int} (hn : (C.length : Int) < n) (h0 : 0 ≤ n) :
    Calls Try.prog 35 #[.pointer (some ⟨p, 0, none⟩), .int .i64 n] w fun e w' => e = .returned (.int .i64 2) ∧ w' = w := by
  have HLn := hide (len_st h)
  clear h
  generalize C.length = N at *
  go_enter Try.func35, Try.ntmps35
  go_wp2_with (first
    | (go_at_call 22; refine HLn.out.mono ?_; rintro e w2 ⟨rfl, hw⟩; have hw := hw.symm; subst hw))
  go_ret
  exact ⟨rfl, rfl⟩

set_option maxRecDepth 100000 in
theorem undo_neg (w : World) (p : Nat) :
    Calls Try.prog 35 #[.pointer (some ⟨p, 0, none⟩), .int .i64 (-1)] w fun e w' => e = .returned (.int .i64 2) ∧ w' = w := by
  go_enter Try.func35, Try.ntmps35
  go_wp2
  go_ret
  exact ⟨rfl, rfl⟩
end Go.Proofs.Ytcofoddjcgmmkaa
