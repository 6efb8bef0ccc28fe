/- The document's letter, decimal and Text; sym.Text: the same text. -/
import Derived.Test.YtleakainhpgldaaDoorProg
import Derived.Test.YtleakainhpgldaaDoorSymQuoted
import Derived.Test.YtleakainhpgldaaDoorRefValid
import Derived.Lib.ItoaNum
import Derived.Lib.ItoaLen
namespace Go.Proofs.YtleakainhpgldaaDoor
set_option linter.unusedSimpArgs false
set_option linter.unusedVariables false
open Go.RowKit

set_option maxHeartbeats 2000000 in
theorem letter_any (b : Int) (w : World) (hb : 0 ≤ b ∧ b ≤ 255) :
    Calls Tryd.prog 33 #[.int .u8 b] w fun e w' => e = .returned (.string (strOf (escI b))) ∧ Below w.heap.size w w' := by
  by_cases e34 : b = 34
  · subst e34
    rw [show strOf (escI 34) = ⟨#[92, 34]⟩ from by rfl]
    go_enter Tryd.func33, Tryd.ntmps33
    go_wp2
    go_ret
    exact ⟨rfl, Below.refl _ _⟩
  by_cases e92 : b = 92
  · subst e92
    rw [show strOf (escI 92) = ⟨#[92, 92]⟩ from by rfl]
    go_enter Tryd.func33, Tryd.ntmps33
    go_wp2
    go_ret
    exact ⟨rfl, Below.refl _ _⟩
  by_cases e10 : b = 10
  · subst e10
    rw [show strOf (escI 10) = ⟨#[92, 110]⟩ from by rfl]
    go_enter Tryd.func33, Tryd.ntmps33
    go_wp2
    go_ret
    exact ⟨rfl, Below.refl _ _⟩
  by_cases e9 : b = 9
  · subst e9
    rw [show strOf (escI 9) = ⟨#[92, 116]⟩ from by rfl]
    go_enter Tryd.func33, Tryd.ntmps33
    go_wp2
    go_ret
    exact ⟨rfl, Below.refl _ _⟩
  by_cases e13 : b = 13
  · subst e13
    rw [show strOf (escI 13) = ⟨#[92, 114]⟩ from by rfl]
    go_enter Tryd.func33, Tryd.ntmps33
    go_wp2
    go_ret
    exact ⟨rfl, Below.refl _ _⟩
  have f34 : (b == 34) = false := by simpa using e34
  have f92 : (b == 92) = false := by simpa using e92
  have f10 : (b == 10) = false := by simpa using e10
  have f9 : (b == 9) = false := by simpa using e9
  have f13 : (b == 13) = false := by simpa using e13
  by_cases h32 : 32 ≤ b ∧ b ≤ 126
  · obtain ⟨h32, h126⟩ := h32
    have HE : Hid (escI b = [b]) := by show escI _ = _; unfold escI; rw [if_neg e34, if_neg e92, if_neg e10, if_neg e9, if_neg e13, if_pos ⟨h32, h126⟩]
    rw [HE.out]
    clear HE e34 e92 e10 e9 e13
    have hconv : (convert 37 9 (.slice (some ⟨w.heap.size, 0, none⟩) 1 1)).run Tryd.prog (w.alloc (.cells #[.int .u8 b] 5)) = .ok (.string (strOf [b])) (w.alloc (.cells #[.int .u8 b] 5)) := lit_string w [b] 1 rfl
    go_enter Tryd.func33, Tryd.ntmps33
    go_wp2
    first | rw [hconv] | skip
    go_wp2
    go_ret
    exact ⟨rfl, (Below.refl _ _).alloc (Nat.le_refl _) _⟩
  · have HE : Hid (escI b = [92, 120, hexI (b / 16).toNat, hexI (b % 16).toNat]) := by show escI _ = _; unfold escI; rw [if_neg e34, if_neg e92, if_neg e10, if_neg e9, if_neg e13, if_neg h32]
    rw [HE.out]
    have q1 : 0 ≤ b / 16 ∧ b / 16 < 16 := by omega
    have q2 : 0 ≤ b % 16 ∧ b % 16 < 16 := by omega
    rw [hexI_at (b / 16).toNat (by show _ < 16; omega), hexI_at (b % 16).toNat (by show _ < 16; omega)]
    unfold hexS
    clear HE e34 e92 e10 e9 e13
    have hq : b.tdiv 16 = b / 16 := Int.tdiv_eq_ediv_of_nonneg hb.1
    have hr : b.tmod 16 = b % 16 := Int.tmod_eq_emod_of_nonneg hb.1
    have hlit : ∀ x y : Int, (convert 37 9 (.slice (some ⟨w.heap.size, 0, none⟩) 4 4)).run Tryd.prog ((w.alloc (.cells #[.int .u8 92, .int .u8 120, .int .u8 x, .int .u8 y] 5)).drew) = .ok (.string (strOf [92, 120, x, y])) ((w.alloc (.cells #[.int .u8 92, .int .u8 120, .int .u8 x, .int .u8 y] 5)).drew) := fun x y => lit_string w.drew [92, 120, x, y] 4 rfl
    by_cases h3 : 32 ≤ b
    · have h12 : ¬ b ≤ 126 := by omega
      go_enter Tryd.func33, Tryd.ntmps33
      go_wp2
      go_region
      all_goals (try go_wp2)
      all_goals go_ret
      all_goals exact ⟨rfl, ((Below.refl _ _).alloc (Nat.le_refl _) _).drew⟩
    · go_enter Tryd.func33, Tryd.ntmps33
      go_wp2
      go_region
      all_goals (try go_wp2)
      all_goals go_ret
      all_goals exact ⟨rfl, ((Below.refl _ _).alloc (Nat.le_refl _) _).drew⟩
end Go.Proofs.YtleakainhpgldaaDoor
