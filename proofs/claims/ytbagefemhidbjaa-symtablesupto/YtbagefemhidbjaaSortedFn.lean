/- The function that Sorted hands to the sort: of two ids it tells how their constants compare; it draws and makes boxes alone. -/
import Derived.Test.YtbagefemhidbjaaProg
import Derived.Test.YtbagefemhidbjaaTable
import Derived.Test.YtbagefemhidbjaaCmpLaid
namespace Go.Proofs.Ytbagefemhidbjaa
set_option linter.unusedSimpArgs false
set_option linter.unusedVariables false
open Go.RowKit Go.Maps Go.Sort Go.Proofs

set_option maxRecDepth 100000 in
set_option maxHeartbeats 2000000 in
theorem cmpFn_gro {W : World} {base p m nn cap B : Nat} {ao : Option Addr} {ks : List Con} (hT : TableAt base W p m nn ao cap ks) (hl : ks.length ≤ 65536) (hB : W.cell? ⟨B, 0, none⟩ = some (.pointer (some ⟨p, 0, none⟩)))
    {i j : Nat} {a b : Con} (hi : ks[i]? = some a) (hj : ks[j]? = some b) :
    Calls Try.prog 45 #[.int .i64 i, .int .i64 j, .pointer (some ⟨B, 0, none⟩)] W fun e w' => e = .returned (.int .i64 (cmpC a b)) ∧ ∃ y, w' = gro W y := by
  have hilt : i < ks.length := (List.getElem?_eq_some_iff.1 hi).1
  have hjlt : j < ks.length := (List.getElem?_eq_some_iff.1 hj).1
  obtain ⟨g, cur, hao, _⟩ := hT.lies (by omega)
  have e0 := gro_cell (hT.cellAt (j := 0) lenCells hao hi rfl)
  have e1 := gro_cell (hT.cellAt (j := 1) lenCells hao hi rfl)
  have e2 := gro_cell (hT.cellAt (j := 2) lenCells hao hi rfl)
  have f0 := gro_cell (hT.cellAt (j := 0) lenCells hao hj rfl)
  have f1 := gro_cell (hT.cellAt (j := 1) lenCells hao hj rfl)
  have f2 := gro_cell (hT.cellAt (j := 2) lenCells hao hj rfl)
  simp only [Nat.add_zero] at e0 f0
  have c0 := gro_cell hT.c0
  have hb := gro_cell hB
  have HC := hide (fun x => compare_gro a b W x)
  obtain ⟨len, hlen⟩ : ∃ len, len = ks.length := ⟨_, rfl⟩
  rw [← hlen] at c0 hilt hjlt hl
  subst hao
  clear hlen hT hi hj hB
  have h1 : ¬ (i : Int) < 0 := by omega
  have h2 : (i : Int) < (len : Int) := by omega
  have h3 : ¬ (j : Int) < 0 := by omega
  have h4 : (j : Int) < (len : Int) := by omega
  go_enter Try.func45, Try.ntmps45
  go_wp2
  refine wp_region_gro (by kernel_rfl) (by kernel_rfl) ?_
  repeat (go_big_quiet_step ((go_at_call 46; exact HC.out _)))
  refine wpQuiet_nil ?_
  rintro _ ⟨v, rfl⟩
  go_wp2
  go_ret
  exact ⟨rfl, v, rfl⟩
end Go.Proofs.Ytbagefemhidbjaa
