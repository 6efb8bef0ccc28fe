/- What lex.Blank answers, at every text and all numbers. -/
import Derived.Test.YtaiehmfhhdnijaaDoorProg
import Derived.Test.YtaiehmfhhdnijaaDoorGap
namespace Go.Proofs.YtaiehmfhhdnijaaDoor
set_option linter.unusedSimpArgs false
set_option linter.unusedVariables false
open Go.RowKit

def pieceL (s : ByteArray) (a b : Nat) : List UInt8 := (s.data.toList.take b).drop a

def blankW (s : ByteArray) (a b : Int) : Bool :=
  if s.size ≤ 65536 ∧ 0 ≤ a ∧ a ≤ b ∧ b ≤ s.size then (gapN (pieceL s a.toNat b.toNat)).2 && decide (a.toNat + (gapN (pieceL s a.toNat b.toNat)).1 = b.toNat) else false

theorem rest_upto (s : ByteArray) (a b : Nat) : rest (s.extract 0 b) a = pieceL s a b := by
  unfold rest pieceL
  rw [ByteArray.data_extract, Array.toList_extract, List.extract_eq_take_drop, List.drop_zero, Nat.sub_zero]
theorem ret_boolP {a b : Bool} (h : a = b) : Ending.returned (.bool a) = .returned (.bool b) := by rw [h]

set_option maxHeartbeats 400000 in
theorem blank_any (s : ByteArray) (a b : Int) (w : World) (hs : s.size ≤ 140737488351232) (ha : -9223372036854775808 ≤ a ∧ a ≤ 9223372036854775807) (hb : -9223372036854775808 ≤ b ∧ b ≤ 9223372036854775807) :
    Calls Tryd.prog 11 #[.string s, .int .i64 a, .int .i64 b] w fun e w' => e = .returned (.bool (blankW s a b)) ∧ w' = w := by
  by_cases h1 : a < 0
  · rw [show blankW s a b = false from if_neg (by omega)]
    go_enter Tryd.func11, Tryd.ntmps11
    go_wp2
    go_ret
    exact ⟨rfl, rfl⟩
  by_cases h2 : b < a
  · rw [show blankW s a b = false from if_neg (by omega)]
    go_enter Tryd.func11, Tryd.ntmps11
    go_wp2
    go_ret
    exact ⟨rfl, rfl⟩
  by_cases h3 : (s.size : Int) < b
  · rw [show blankW s a b = false from if_neg (by omega)]
    go_enter Tryd.func11, Tryd.ntmps11
    go_wp2
    go_ret
    exact ⟨rfl, rfl⟩
  by_cases h4 : (65536 : Int) < (s.size : Int)
  · rw [show blankW s a b = false from if_neg (by omega)]
    go_enter Tryd.func11, Tryd.ntmps11
    go_wp2
    go_ret
    exact ⟨rfl, rfl⟩
  obtain ⟨x, rfl⟩ : ∃ x : Nat, a = x := ⟨a.toNat, by omega⟩
  obtain ⟨y, rfl⟩ : ∃ y : Nat, b = y := ⟨b.toNat, by omega⟩
  clear ha hb
  have hsz : (s.extract 0 y).size = y := by rw [ByteArray.size_extract]; omega
  have HG := hide (gap_any (s.extract 0 y) x w (by omega) (by omega))
  have HW : Hid (blankW s (x : Int) (y : Int) = ((gapW (s.extract 0 y) x).2 && decide ((gapW (s.extract 0 y) x).1 = y))) := by
    show blankW s (x : Int) (y : Int) = _
    unfold gapW
    rw [rest_upto]
    exact if_pos ⟨by omega, by omega, by omega, by omega⟩
  rw [HW.out]
  clear HW
  generalize gapW (s.extract 0 y) x = P at *
  obtain ⟨n, c⟩ := P
  cases c with
  | false =>
    go_enter Tryd.func11, Tryd.ntmps11
    go_wp2_with (go_at_call 20; refine HG.out.mono ?_; rintro e w' ⟨rfl, hw'⟩; have hw' := hw'.symm; subst hw')
    go_ret
    exact ⟨rfl, rfl⟩
  | true =>
    by_cases h : n = y
    · subst h
      rw [show (true && decide (n = n)) = true from by simp]
      go_enter Tryd.func11, Tryd.ntmps11
      go_wp2_with (go_at_call 20; refine HG.out.mono ?_; rintro e w' ⟨rfl, hw'⟩; have hw' := hw'.symm; subst hw')
      go_ret
      first | exact ⟨rfl, rfl⟩ | exact ⟨ret_boolP (by simp), rfl⟩
    · rw [show (true && decide (n = y)) = false from by simp [h]]
      have e : ((n : Int) == (y : Int)) = false := by simp; omega
      go_enter Tryd.func11, Tryd.ntmps11
      go_wp2_with (go_at_call 20; refine HG.out.mono ?_; rintro e w' ⟨rfl, hw'⟩; have hw' := hw'.symm; subst hw')
      go_ret
      first | exact ⟨rfl, rfl⟩ | exact ⟨ret_boolP (by simp; omega), rfl⟩

end Go.Proofs.YtaiehmfhhdnijaaDoor
