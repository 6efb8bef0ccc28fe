/- What cmp.Compare at int, int64 and string and sym.Compare answer, at every argument: the sign of the order; nothing that was there is changed. -/
import Derived.Test.YtoppnjpajeipdaaGreatDoorProg
import Derived.Test.YtoppnjpajeipdaaGreatDoorOrder
import Derived.Test.YtoppnjpajeipdaaGreatDoorOver
import Derived.WalkKit
import Derived.WalkSpells
import Derived.WalkLawsBesides
namespace Go.Proofs.YtoppnjpajeipdaaGreatDoor
set_option linter.unusedSimpArgs false
set_option linter.unusedVariables false
open Go.RowKit

theorem cmpInt_any (a b : Int) (w : World) :
    Calls Tryz.prog 28 #[.int .i64 a, .int .i64 b] w fun e w' => e = .returned (.int .i64 (cmpI a b)) ∧ w' = w := by
  by_cases h1 : a < b
  · go_enter Tryz.func28, Tryz.ntmps28
    go_wp2
    go_ret
    exact ⟨by simp [cmpI, h1], rfl⟩
  · by_cases h2 : b < a
    · go_enter Tryz.func28, Tryz.ntmps28
      go_wp2
      go_ret
      exact ⟨by simp [cmpI, h1, h2], rfl⟩
    · go_enter Tryz.func28, Tryz.ntmps28
      go_wp2
      go_ret
      have e : cmpI a b = 0 := by unfold cmpI; rw [if_neg (by omega), if_neg (by omega)]
      exact ⟨by rw [e]; rfl, rfl⟩

theorem cmpInt64_any (a b : Int) (w : World) :
    Calls Tryz.prog 29 #[.int .i64 a, .int .i64 b] w fun e w' => e = .returned (.int .i64 (cmpI a b)) ∧ w' = w := by
  by_cases h1 : a < b
  · go_enter Tryz.func29, Tryz.ntmps29
    go_wp2
    go_ret
    exact ⟨by simp [cmpI, h1], rfl⟩
  · by_cases h2 : b < a
    · go_enter Tryz.func29, Tryz.ntmps29
      go_wp2
      go_ret
      exact ⟨by simp [cmpI, h1, h2], rfl⟩
    · go_enter Tryz.func29, Tryz.ntmps29
      go_wp2
      go_ret
      have e : cmpI a b = 0 := by unfold cmpI; rw [if_neg (by omega), if_neg (by omega)]
      exact ⟨by rw [e]; rfl, rfl⟩

theorem cmpStr_any (a b : ByteArray) (w : World) :
    Calls Tryz.prog 30 #[.string a, .string b] w fun e w' => e = .returned (.int .i64 (cmpL a.toList b.toList)) ∧ w' = w := by
  rcases cmpL_rng a.toList b.toList with hr | hr | hr
  · have h1 : Op.bytesLess a.toList b.toList = true := (less_iff _ _).2 hr
    have H := hide hr
    clear hr
    go_enter Tryz.func30, Tryz.ntmps30
    go_wp2
    go_ret
    exact ⟨by rw [unhide H]; rfl, rfl⟩
  · have h1 : Op.bytesLess a.toList b.toList = false := by rw [less_eq, hr]; rfl
    have h2 : (a.toList == b.toList) = true := by simp [cmpL_zero _ _ hr]
    have H := hide hr
    clear hr
    go_enter Tryz.func30, Tryz.ntmps30
    go_wp2
    go_ret
    exact ⟨by rw [unhide H]; rfl, rfl⟩
  · have h1 : Op.bytesLess a.toList b.toList = false := by rw [less_eq, hr]; rfl
    have h2 : (a.toList == b.toList) = false := by
      simp only [beq_eq_false_iff_ne]
      intro e
      rw [e, cmpL_refl] at hr
      exact absurd hr (by decide)
    have H := hide hr
    clear hr
    go_enter Tryz.func30, Tryz.ntmps30
    go_wp2
    go_ret
    exact ⟨by rw [unhide H]; rfl, rfl⟩

theorem bcell {W w1 : World} (hb : Below W.heap.size W w1) : (∀ b o, b < W.heap.size → w1.cell? ⟨b, o, none⟩ = W.cell? ⟨b, o, none⟩) ∧ (∀ b o, b < W.heap.size → w1.frozen? ⟨b, o, none⟩ = W.frozen? ⟨b, o, none⟩) :=
  ⟨fun b o h => hb.cell (p := ⟨b, o, none⟩) h, fun b o h => hb.frozen (p := ⟨b, o, none⟩) h⟩

theorem compare_any (a b : Con) (w : World) :
    Calls Tryz.prog 14 #[a.val, b.val] w fun e w' => e = .returned (.int .i64 (cmpC a b)) ∧ Below w.heap.size w w' := by
  obtain ⟨k, n, s⟩ := a
  obtain ⟨k', n', s'⟩ := b
  unfold Con.val
  by_cases h1 : (k == k') = true
  · have e1 : (k != k') = false := by simpa using h1
    by_cases h2 : (n == n') = true
    · have e2 : (n != n') = false := by simpa using h2
      go_enter Tryz.func14, Tryz.ntmps14
      go_wp2_with (go_at_call 30; refine (cmpStr_any _ _ _).mono ?_; rintro e w' ⟨rfl, rfl⟩)
      go_ret
      exact ⟨by simp only [cmpC, h1, h2]; rfl, ((Below.refl _ _).alloc (Nat.le_refl _) _).alloc (by simp) _⟩
    · have h2' : (n == n') = false := by simpa using h2
      have e2 : (n != n') = true := by simpa using h2
      go_enter Tryz.func14, Tryz.ntmps14
      go_wp2_with (go_at_call 29; refine (cmpInt64_any _ _ _).mono ?_; rintro e w' ⟨rfl, rfl⟩)
      go_ret
      exact ⟨by simp only [cmpC, h1, h2']; rfl, ((Below.refl _ _).alloc (Nat.le_refl _) _).alloc (by simp) _⟩
  · have h1' : (k == k') = false := by simpa using h1
    have e1 : (k != k') = true := by simpa using h1
    go_enter Tryz.func14, Tryz.ntmps14
    go_wp2_with (go_at_call 28; refine (cmpInt_any _ _ _).mono ?_; rintro e w' ⟨rfl, rfl⟩)
    go_ret
    exact ⟨by simp only [cmpC, h1']; rfl, ((Below.refl _ _).alloc (Nat.le_refl _) _).alloc (by simp) _⟩
end Go.Proofs.YtoppnjpajeipdaaGreatDoor
