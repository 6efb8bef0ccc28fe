/- edictlaw01's consts of two equal lists. -/
import Derived.Test.YtbagefemhidbjaaRTab
namespace Go.Proofs.Ytbagefemhidbjaa
set_option linter.unusedSimpArgs false
set_option linter.unusedVariables false
open Go.RowKit Go.Maps

set_option maxRecDepth 100000 in
set_option maxHeartbeats 1000000 in
theorem consts_same (a1 a2 : Option Addr) (n c1 c2 : Nat) (L : List Con) (w : World) (h1 : IsCons w a1 n L) (h2 : IsCons w a2 n L) :
    Calls Try.prog 58 #[.slice a1 n c1, .slice a2 n c2] w fun e w' => e = .returned (.bool true) ∧ Below w.heap.size w w' := by
  have hb := h1.2.1
  have H1 := hide h1
  have H2 := hide h2
  clear h1 h2
  go_enter Try.func58, Try.ntmps58
  go_wp2
  go_loopw [5] (fun t wr => ∃ j : Nat, j ≤ n ∧ t = .int .i64 j ∧ Hid (Below w.heap.size w wr)) (fun t _ => n - (intOf t).toNat)
  case atStart => exact ⟨0, by omega, rfl, Below.refl _ _⟩
  case round =>
    obtain ⟨j, hj, rfl, HB⟩ := hrel
    by_cases hlt : j < n
    · have hi : (j : Int) < (n : Int) := by omega
      obtain ⟨c, hc⟩ : ∃ c, L[j]? = some c := ⟨_, List.getElem?_eq_getElem (by have := H1.out.1; omega)⟩
      obtain ⟨b1, o1, rfl, r1⟩ := H1.out.2.2.2 (by omega)
      obtain ⟨b2, o2, rfl, r2⟩ := H2.out.2.2.2 (by omega)
      obtain ⟨x0, x1, x2⟩ := conAt_kept (r1 j c hc) HB.out
      obtain ⟨y0, y1, y2⟩ := conAt_kept (r2 j c hc) HB.out
      have hS := fun z => calls_over (same_any c c (over wr z))
      rw [conEq_refl] at hS
      unfold Con.val at hS
      have G := hide hS
      clear r1 r2 hc hS
      go_wp2
      refine wp_region_over (fun V => wr = V) (by kernel_rfl) (by kernel_rfl) rfl ?_
      rintro _ rfl
      have x0' := over_cell x0
      have x1' := over_cell x1
      have x2' := over_cell x2
      have y0' := over_cell y0
      have y1' := over_cell y1
      have y2' := over_cell y2
      clear x0 x1 x2 y0 y1 y2
      repeat (go_big_quiet_step ((go_at_call 53; exact G.out _)))
      refine wpQuiet_nil ?_
      rintro _ ⟨z, rfl⟩
      have HB2 : Hid (Below w.heap.size w (over wr z)) := HB.out.trans ((over_below _ z).mono HB.out.size)
      clear x0' x1' x2' y0' y1' y2' G
      go_wp2
      go_roundw
      case rel => exact ⟨j + 1, by omega, by go_num, HB2⟩
      case measure => simp [intOf]; omega
    · obtain rfl : j = n := by omega
      have hi : ¬ (j : Int) < (j : Int) := by omega
      go_wp2
      go_ret
      exact ⟨rfl, HB.out⟩
end Go.Proofs.Ytbagefemhidbjaa
