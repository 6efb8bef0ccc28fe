/- The byte tests of edicttop. -/
import Derived.Test.YtplldgkdjainlaaDoorProg
import Derived.Test.YtplldgkdjainlaaDoorLexBytes
import Derived.Test.YtplldgkdjainlaaDoorLexHex
namespace Go.Proofs.YtplldgkdjainlaaDoor
set_option linter.unusedSimpArgs false
set_option linter.unusedVariables false
open Go.RowKit

set_option maxHeartbeats 2000000 in
theorem tword_any (n : Int) (w : World) (h : 0 ≤ n ∧ n ≤ 255) :
    Calls Tryd.prog 15 #[.int .u8 n] w fun e w' => e = .returned (.bool (bWord n)) ∧ w' = w := by
  by_cases c0 : n ≤ 47
  · obtain ⟨l0, l1⟩ : 0 ≤ n ∧ n ≤ 47 := by omega
    rw [show bWord n = false from by unfold bWord bLow bUp bDig; simp; omega]
    clear c0
    have g0 : ¬ (97 : Int) ≤ n := by omega
    have g1 : n ≤ (122 : Int) := by omega
    have g2 : ¬ (65 : Int) ≤ n := by omega
    have g3 : n ≤ (90 : Int) := by omega
    have g4 : ¬ (48 : Int) ≤ n := by omega
    have g5 : n ≤ (57 : Int) := by omega
    have g6 : (n == (95 : Int)) = false := by simp; omega
    go_enter Tryd.func15, Tryd.ntmps15
    go_wp2
    go_ret
    exact ⟨rfl, rfl⟩
  by_cases c1 : n ≤ 57
  · obtain ⟨l0, l1⟩ : 48 ≤ n ∧ n ≤ 57 := by omega
    rw [show bWord n = true from by unfold bWord bLow bUp bDig; simp; omega]
    clear c0 c1
    have g0 : ¬ (97 : Int) ≤ n := by omega
    have g1 : n ≤ (122 : Int) := by omega
    have g2 : ¬ (65 : Int) ≤ n := by omega
    have g3 : n ≤ (90 : Int) := by omega
    have g4 : (48 : Int) ≤ n := by omega
    have g5 : n ≤ (57 : Int) := by omega
    have g6 : (n == (95 : Int)) = false := by simp; omega
    go_enter Tryd.func15, Tryd.ntmps15
    go_wp2
    go_ret
    exact ⟨rfl, rfl⟩
  by_cases c2 : n ≤ 64
  · obtain ⟨l0, l1⟩ : 58 ≤ n ∧ n ≤ 64 := by omega
    rw [show bWord n = false from by unfold bWord bLow bUp bDig; simp; omega]
    clear c0 c1 c2
    have g0 : ¬ (97 : Int) ≤ n := by omega
    have g1 : n ≤ (122 : Int) := by omega
    have g2 : ¬ (65 : Int) ≤ n := by omega
    have g3 : n ≤ (90 : Int) := by omega
    have g4 : (48 : Int) ≤ n := by omega
    have g5 : ¬ n ≤ (57 : Int) := by omega
    have g6 : (n == (95 : Int)) = false := by simp; omega
    go_enter Tryd.func15, Tryd.ntmps15
    go_wp2
    go_ret
    exact ⟨rfl, rfl⟩
  by_cases c3 : n ≤ 90
  · obtain ⟨l0, l1⟩ : 65 ≤ n ∧ n ≤ 90 := by omega
    rw [show bWord n = true from by unfold bWord bLow bUp bDig; simp; omega]
    clear c0 c1 c2 c3
    have g0 : ¬ (97 : Int) ≤ n := by omega
    have g1 : n ≤ (122 : Int) := by omega
    have g2 : (65 : Int) ≤ n := by omega
    have g3 : n ≤ (90 : Int) := by omega
    have g4 : (48 : Int) ≤ n := by omega
    have g5 : ¬ n ≤ (57 : Int) := by omega
    have g6 : (n == (95 : Int)) = false := by simp; omega
    go_enter Tryd.func15, Tryd.ntmps15
    go_wp2
    go_ret
    exact ⟨rfl, rfl⟩
  by_cases c4 : n ≤ 94
  · obtain ⟨l0, l1⟩ : 91 ≤ n ∧ n ≤ 94 := by omega
    rw [show bWord n = false from by unfold bWord bLow bUp bDig; simp; omega]
    clear c0 c1 c2 c3 c4
    have g0 : ¬ (97 : Int) ≤ n := by omega
    have g1 : n ≤ (122 : Int) := by omega
    have g2 : (65 : Int) ≤ n := by omega
    have g3 : ¬ n ≤ (90 : Int) := by omega
    have g4 : (48 : Int) ≤ n := by omega
    have g5 : ¬ n ≤ (57 : Int) := by omega
    have g6 : (n == (95 : Int)) = false := by simp; omega
    go_enter Tryd.func15, Tryd.ntmps15
    go_wp2
    go_ret
    exact ⟨rfl, rfl⟩
  by_cases c5 : n ≤ 95
  · obtain ⟨l0, l1⟩ : 95 ≤ n ∧ n ≤ 95 := by omega
    rw [show bWord n = true from by unfold bWord bLow bUp bDig; simp; omega]
    clear c0 c1 c2 c3 c4 c5
    have g0 : ¬ (97 : Int) ≤ n := by omega
    have g1 : n ≤ (122 : Int) := by omega
    have g2 : (65 : Int) ≤ n := by omega
    have g3 : ¬ n ≤ (90 : Int) := by omega
    have g4 : (48 : Int) ≤ n := by omega
    have g5 : ¬ n ≤ (57 : Int) := by omega
    have g6 : (n == (95 : Int)) = true := by simp; omega
    go_enter Tryd.func15, Tryd.ntmps15
    go_wp2
    go_ret
    exact ⟨rfl, rfl⟩
  by_cases c6 : n ≤ 96
  · obtain ⟨l0, l1⟩ : 96 ≤ n ∧ n ≤ 96 := by omega
    rw [show bWord n = false from by unfold bWord bLow bUp bDig; simp; omega]
    clear c0 c1 c2 c3 c4 c5 c6
    have g0 : ¬ (97 : Int) ≤ n := by omega
    have g1 : n ≤ (122 : Int) := by omega
    have g2 : (65 : Int) ≤ n := by omega
    have g3 : ¬ n ≤ (90 : Int) := by omega
    have g4 : (48 : Int) ≤ n := by omega
    have g5 : ¬ n ≤ (57 : Int) := by omega
    have g6 : (n == (95 : Int)) = false := by simp; omega
    go_enter Tryd.func15, Tryd.ntmps15
    go_wp2
    go_ret
    exact ⟨rfl, rfl⟩
  by_cases c7 : n ≤ 122
  · obtain ⟨l0, l1⟩ : 97 ≤ n ∧ n ≤ 122 := by omega
    rw [show bWord n = true from by unfold bWord bLow bUp bDig; simp; omega]
    clear c0 c1 c2 c3 c4 c5 c6 c7
    have g0 : (97 : Int) ≤ n := by omega
    have g1 : n ≤ (122 : Int) := by omega
    have g2 : (65 : Int) ≤ n := by omega
    have g3 : ¬ n ≤ (90 : Int) := by omega
    have g4 : (48 : Int) ≤ n := by omega
    have g5 : ¬ n ≤ (57 : Int) := by omega
    have g6 : (n == (95 : Int)) = false := by simp; omega
    go_enter Tryd.func15, Tryd.ntmps15
    go_wp2
    go_ret
    exact ⟨rfl, rfl⟩
  obtain ⟨l0, l1⟩ : 123 ≤ n ∧ n ≤ 255 := by omega
  rw [show bWord n = false from by unfold bWord bLow bUp bDig; simp; omega]
  clear c0 c1 c2 c3 c4 c5 c6 c7
  have g0 : (97 : Int) ≤ n := by omega
  have g1 : ¬ n ≤ (122 : Int) := by omega
  have g2 : (65 : Int) ≤ n := by omega
  have g3 : ¬ n ≤ (90 : Int) := by omega
  have g4 : (48 : Int) ≤ n := by omega
  have g5 : ¬ n ≤ (57 : Int) := by omega
  have g6 : (n == (95 : Int)) = false := by simp; omega
  go_enter Tryd.func15, Tryd.ntmps15
  go_wp2
  go_ret
  exact ⟨rfl, rfl⟩

set_option maxHeartbeats 2000000 in
theorem tdig_any (n : Int) (w : World) (h : 0 ≤ n ∧ n ≤ 255) :
    Calls Tryd.prog 16 #[.int .u8 n] w fun e w' => e = .returned (.bool (bDig n)) ∧ w' = w := by
  by_cases c0 : n ≤ 47
  · obtain ⟨l0, l1⟩ : 0 ≤ n ∧ n ≤ 47 := by omega
    rw [show bDig n = false from by unfold bDig; simp; omega]
    clear c0
    have g0 : ¬ (48 : Int) ≤ n := by omega
    have g1 : n ≤ (57 : Int) := by omega
    go_enter Tryd.func16, Tryd.ntmps16
    go_wp2
    go_ret
    exact ⟨rfl, rfl⟩
  by_cases c1 : n ≤ 57
  · obtain ⟨l0, l1⟩ : 48 ≤ n ∧ n ≤ 57 := by omega
    rw [show bDig n = true from by unfold bDig; simp; omega]
    clear c0 c1
    have g0 : (48 : Int) ≤ n := by omega
    have g1 : n ≤ (57 : Int) := by omega
    go_enter Tryd.func16, Tryd.ntmps16
    go_wp2
    go_ret
    exact ⟨rfl, rfl⟩
  obtain ⟨l0, l1⟩ : 58 ≤ n ∧ n ≤ 255 := by omega
  rw [show bDig n = false from by unfold bDig; simp; omega]
  clear c0 c1
  have g0 : (48 : Int) ≤ n := by omega
  have g1 : ¬ n ≤ (57 : Int) := by omega
  go_enter Tryd.func16, Tryd.ntmps16
  go_wp2
  go_ret
  exact ⟨rfl, rfl⟩

def hexT (n : Nat) : Int := match hexD n with | some d => (d : Int) | none => -1
set_option maxHeartbeats 2000000 in
theorem thex_any (n : Int) (w : World) (h : 0 ≤ n ∧ n ≤ 255) :
    Calls Tryd.prog 37 #[.int .u8 n] w fun e w' => e = .returned (.int .i64 (hexT n.toNat)) ∧ w' = w := by
  by_cases c0 : n ≤ 47
  · obtain ⟨l0, l1⟩ : 0 ≤ n ∧ n ≤ 47 := by omega
    rw [show hexT n.toNat = -1 from by unfold hexT hexD; rw [if_neg (by omega), if_neg (by omega), if_neg (by omega)]]
    clear c0
    have g0 : ¬ (48 : Int) ≤ n := by omega
    have g1 : n ≤ (57 : Int) := by omega
    have g2 : ¬ (97 : Int) ≤ n := by omega
    have g3 : n ≤ (102 : Int) := by omega
    have g4 : ¬ (65 : Int) ≤ n := by omega
    have g5 : n ≤ (70 : Int) := by omega
    go_enter Tryd.func37, Tryd.ntmps37
    go_wp2
    go_ret
    exact ⟨rfl, rfl⟩
  by_cases c1 : n ≤ 57
  · obtain ⟨l0, l1⟩ : 48 ≤ n ∧ n ≤ 57 := by omega
    rw [show hexT n.toNat = n - 48 from by unfold hexT hexD; rw [if_pos (by omega)]; show ((n.toNat - 48 : Nat) : Int) = _; omega]
    clear c0 c1
    have g0 : (48 : Int) ≤ n := by omega
    have g1 : n ≤ (57 : Int) := by omega
    have g2 : ¬ (97 : Int) ≤ n := by omega
    have g3 : n ≤ (102 : Int) := by omega
    have g4 : ¬ (65 : Int) ≤ n := by omega
    have g5 : n ≤ (70 : Int) := by omega
    go_enter Tryd.func37, Tryd.ntmps37
    go_wp2
    go_ret
    exact ⟨rfl, rfl⟩
  by_cases c2 : n ≤ 64
  · obtain ⟨l0, l1⟩ : 58 ≤ n ∧ n ≤ 64 := by omega
    rw [show hexT n.toNat = -1 from by unfold hexT hexD; rw [if_neg (by omega), if_neg (by omega), if_neg (by omega)]]
    clear c0 c1 c2
    have g0 : (48 : Int) ≤ n := by omega
    have g1 : ¬ n ≤ (57 : Int) := by omega
    have g2 : ¬ (97 : Int) ≤ n := by omega
    have g3 : n ≤ (102 : Int) := by omega
    have g4 : ¬ (65 : Int) ≤ n := by omega
    have g5 : n ≤ (70 : Int) := by omega
    go_enter Tryd.func37, Tryd.ntmps37
    go_wp2
    go_ret
    exact ⟨rfl, rfl⟩
  by_cases c3 : n ≤ 70
  · obtain ⟨l0, l1⟩ : 65 ≤ n ∧ n ≤ 70 := by omega
    rw [show hexT n.toNat = n - 65 + 10 from by unfold hexT hexD; rw [if_neg (by omega), if_neg (by omega), if_pos (by omega)]; show ((n.toNat - 55 : Nat) : Int) = _; omega]
    clear c0 c1 c2 c3
    have g0 : (48 : Int) ≤ n := by omega
    have g1 : ¬ n ≤ (57 : Int) := by omega
    have g2 : ¬ (97 : Int) ≤ n := by omega
    have g3 : n ≤ (102 : Int) := by omega
    have g4 : (65 : Int) ≤ n := by omega
    have g5 : n ≤ (70 : Int) := by omega
    go_enter Tryd.func37, Tryd.ntmps37
    go_wp2
    go_ret
    exact ⟨rfl, rfl⟩
  by_cases c4 : n ≤ 96
  · obtain ⟨l0, l1⟩ : 71 ≤ n ∧ n ≤ 96 := by omega
    rw [show hexT n.toNat = -1 from by unfold hexT hexD; rw [if_neg (by omega), if_neg (by omega), if_neg (by omega)]]
    clear c0 c1 c2 c3 c4
    have g0 : (48 : Int) ≤ n := by omega
    have g1 : ¬ n ≤ (57 : Int) := by omega
    have g2 : ¬ (97 : Int) ≤ n := by omega
    have g3 : n ≤ (102 : Int) := by omega
    have g4 : (65 : Int) ≤ n := by omega
    have g5 : ¬ n ≤ (70 : Int) := by omega
    go_enter Tryd.func37, Tryd.ntmps37
    go_wp2
    go_ret
    exact ⟨rfl, rfl⟩
  by_cases c5 : n ≤ 102
  · obtain ⟨l0, l1⟩ : 97 ≤ n ∧ n ≤ 102 := by omega
    rw [show hexT n.toNat = n - 97 + 10 from by unfold hexT hexD; rw [if_neg (by omega), if_pos (by omega)]; show ((n.toNat - 87 : Nat) : Int) = _; omega]
    clear c0 c1 c2 c3 c4 c5
    have g0 : (48 : Int) ≤ n := by omega
    have g1 : ¬ n ≤ (57 : Int) := by omega
    have g2 : (97 : Int) ≤ n := by omega
    have g3 : n ≤ (102 : Int) := by omega
    have g4 : (65 : Int) ≤ n := by omega
    have g5 : ¬ n ≤ (70 : Int) := by omega
    go_enter Tryd.func37, Tryd.ntmps37
    go_wp2
    go_ret
    exact ⟨rfl, rfl⟩
  obtain ⟨l0, l1⟩ : 103 ≤ n ∧ n ≤ 255 := by omega
  rw [show hexT n.toNat = -1 from by unfold hexT hexD; rw [if_neg (by omega), if_neg (by omega), if_neg (by omega)]]
  clear c0 c1 c2 c3 c4 c5
  have g0 : (48 : Int) ≤ n := by omega
  have g1 : ¬ n ≤ (57 : Int) := by omega
  have g2 : (97 : Int) ≤ n := by omega
  have g3 : ¬ n ≤ (102 : Int) := by omega
  have g4 : (65 : Int) ≤ n := by omega
  have g5 : ¬ n ≤ (70 : Int) := by omega
  go_enter Tryd.func37, Tryd.ntmps37
  go_wp2
  go_ret
  exact ⟨rfl, rfl⟩

end Go.Proofs.YtplldgkdjainlaaDoor
