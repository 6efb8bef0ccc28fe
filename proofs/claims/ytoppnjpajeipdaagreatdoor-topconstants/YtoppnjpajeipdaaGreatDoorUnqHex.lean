/- strconv.unhex: a hex digit's value; what the reading of a text between quotes leans on. -/
import Derived.Test.YtoppnjpajeipdaaGreatDoorProg
import Derived.Test.YtoppnjpajeipdaaGreatDoorUnqPure
import Derived.Test.YtoppnjpajeipdaaGreatDoorSymRead
namespace Go.Proofs.YtoppnjpajeipdaaGreatDoor
set_option linter.unusedSimpArgs false
set_option linter.unusedVariables false
open Go.RowKit

def hexD (b : Int) : Int := (hexV b).getD 0

theorem unhex_yes (b v : Int) (w : World) (hb : 0 ≤ b ∧ b ≤ 255) (h : hexV b = some v) :
    Calls Tryz.prog 92 #[.int .u8 b] w fun e w' => e = .returned (.tuple #[.int .i32 v, .bool true]) ∧ Below w.heap.size w w' := by
  unfold hexV at h
  by_cases h1 : 48 ≤ b ∧ b ≤ 57
  · rw [if_pos h1] at h
    obtain rfl := Option.some.inj h
    obtain ⟨g1, g2⟩ := h1
    clear h
    go_enter Tryz.func92, Tryz.ntmps92
    go_wp2
    go_ret2
    exact ⟨rfl, Below.refl _ _⟩
  rw [if_neg h1] at h
  by_cases h2 : 97 ≤ b ∧ b ≤ 102
  · rw [if_pos h2] at h
    obtain rfl := Option.some.inj h
    obtain ⟨g1, g2⟩ := h2
    have g3 : 48 ≤ b := by omega
    have g4 : ¬ b ≤ 57 := by omega
    clear h h1
    go_enter Tryz.func92, Tryz.ntmps92
    go_wp2
    go_ret2
    exact ⟨rfl, Below.refl _ _⟩
  rw [if_neg h2] at h
  by_cases h3 : 65 ≤ b ∧ b ≤ 70
  · rw [if_pos h3] at h
    obtain rfl := Option.some.inj h
    obtain ⟨g1, g2⟩ := h3
    have g3 : 48 ≤ b := by omega
    have g4 : ¬ b ≤ 57 := by omega
    have g5 : ¬ 97 ≤ b := by omega
    clear h h1 h2
    go_enter Tryz.func92, Tryz.ntmps92
    go_wp2
    go_ret2
    exact ⟨rfl, Below.refl _ _⟩
  rw [if_neg h3] at h
  cases h

theorem unhex_no (b : Int) (w : World) (hb : 0 ≤ b ∧ b ≤ 255) (h : hexV b = none) :
    Calls Tryz.prog 92 #[.int .u8 b] w fun e w' => e = .returned (.tuple #[.int .i32 0, .bool false]) ∧ Below w.heap.size w w' := by
  have hr : b < 48 ∨ (57 < b ∧ b < 65) ∨ (70 < b ∧ b < 97) ∨ 102 < b := by
    unfold hexV at h
    repeat' split at h
    all_goals first | omega | cases h
  clear h
  rcases hr with h1 | ⟨h1, h2⟩ | ⟨h1, h2⟩ | h1
  all_goals (go_enter Tryz.func92, Tryz.ntmps92; go_wp2; go_ret2; exact ⟨rfl, Below.refl _ _⟩)
end Go.Proofs.YtoppnjpajeipdaaGreatDoor
