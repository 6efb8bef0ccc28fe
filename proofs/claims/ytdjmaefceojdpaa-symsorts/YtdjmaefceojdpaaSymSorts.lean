/- edictlaw01.SymSorts returns true at every list of constants: both sorts bring the same list. -/
import Derived.Test.YtdjmaefceojdpaaRefSort
import Derived.Test.YtdjmaefceojdpaaSortCon
namespace Go.Proofs.Ytdjmaefceojdpaa
set_option linter.unusedSimpArgs false
set_option linter.unusedVariables false
open Go.RowKit

theorem same_self (c : Con) (w : World) :
    Calls Try.prog 50 #[c.val, c.val] w fun e w' => e = .returned (.bool true) ∧ Below w.heap.size w w' := by
  obtain ⟨k, n, s⟩ := c
  unfold Con.val
  go_enter Try.func50, Try.ntmps50
  go_wp2
  go_ret
  exact ⟨rfl, ((Below.refl _ _).alloc (Nat.le_refl _) _).alloc (by simp) _⟩

set_option maxHeartbeats 400000 in
theorem consts_self (a1 a2 : Option Addr) (n c1 c2 : Nat) (L : List Con) (w : World) (h1 : IsCons w a1 n L) (h2 : IsCons w a2 n L) :
    Calls Try.prog 16 #[.slice a1 n c1, .slice a2 n c2] w fun e w' => e = .returned (.bool true) ∧ Below w.heap.size w w' := by
  obtain ⟨hlen, hsz, hok, hrow⟩ := h1
  obtain ⟨_, _, _, hrow2⟩ := h2
  have HL := hide hlen
  clear hlen
  go_enter Try.func16, Try.ntmps16
  go_wp2
  go_loopw [5] (fun i wr => ∃ k : Nat, k ≤ n ∧ i = .int .i64 k ∧ Below w.heap.size w wr) (fun i _ => n - (intOf i).toNat)
  case atStart => exact ⟨0, Nat.zero_le _, rfl, Below.refl _ _⟩
  case round =>
    obtain ⟨k, hk, rfl, hb⟩ := hrel
    by_cases hlt : k < n
    · have hi : (k : Int) < (n : Int) := by omega
      obtain ⟨b, off, rfl, hr⟩ := hrow (by omega)
      obtain ⟨b2, off2, rfl, hr2⟩ := hrow2 (by omega)
      go_wp2
      obtain ⟨c, hc⟩ : ∃ c, L[k]? = some c := ⟨_, List.getElem?_eq_getElem (by rw [HL.out]; exact hlt)⟩
      obtain ⟨x0, x1, x2⟩ := hr k c hc
      obtain ⟨y0, y1, y2⟩ := hr2 k c hc
      have HC := hide hc
      clear hc
      refine wp_region_over (fun W => Below w.heap.size w W) (by kernel_rfl) (by kernel_rfl) hb ?_
      intro W hW
      have x0' := over_cell (kept_cell hW x0)
      have x1' := over_cell (kept_cell hW x1)
      have x2' := over_cell (kept_cell hW x2)
      have y0' := over_cell (kept_cell hW y0)
      have y1' := over_cell (kept_cell hW y1)
      have y2' := over_cell (kept_cell hW y2)
      repeat (go_big_quiet_step (first | (go_at_call 50; exact calls_over (same_self c _))))
      refine wpQuiet_nil ?_
      rintro _ ⟨x, rfl⟩
      have hb3 : Below w.heap.size w (over W x) := hW.trans ((over_below W x).mono hW.size)
      clear x0' x1' x2' y0' y1' y2'
      go_wp2
      go_roundw
      case rel => exact ⟨k + 1, by omega, by go_num, hb3⟩
      case measure => simp [intOf]; omega
    · have hi : ¬ (k : Int) < (n : Int) := by omega
      go_wp2
      go_ret
      exact ⟨rfl, hb⟩

set_option maxHeartbeats 400000 in
theorem symSorts_walk (ao : Option Addr) (len cap : Nat) (cs : List Con) (w : World) (h : IsCons w ao len cs) :
    Calls Try.prog 5 #[.slice ao len cap] w fun e w' => e = .returned (.bool true) ∧ Below w.heap.size w w' := by
  have H0 := hide h
  have hsz := h.2.1
  clear h
  have HS := hide (refSort_any ao len cap cs w H0.out)
  go_enter Try.func5, Try.ntmps5
  go_wp2_with (go_at_call 15; refine HS.out.mono ?_; rintro e w1 ⟨v, L, rfl, hH1, hS1, hP1, hb1⟩; have hH1 := hide hH1; have hS1 := hide hS1; have hP1 := hide hP1; have hb1 := hide hb1)
  have HS2 := hide (sort_any ao len cap cs w1 (H0.out.kept hb1.out))
  go_wp2_with (go_at_call 12; refine HS2.out.mono ?_; rintro e w2 ⟨v2, L2, rfl, hH2, hS2, hP2, hb2⟩; have hH2 := hide hH2; have hS2 := hide hS2; have hP2 := hide hP2; have hb2 := hide hb2)
  have hLL : L2 = L := sorted_unique (hP2.out.trans hP1.out.symm) hS2.out hS1.out
  subst hLL
  have hlen : L2.length = len := (hP1.out.length_eq).trans H0.out.1
  have hok : ∀ c ∈ L2, c.ok := fun c hc => H0.out.2.2.1 c (hP1.out.mem_iff.1 hc)
  obtain ⟨a1, cap1, rfl, _, hc1⟩ := holds_cons (holds_grow hH1.out hb2.out) hok (by rw [hlen]; exact hsz)
  obtain ⟨a2, cap2, rfl, _, hc2⟩ := holds_cons hH2.out hok (by rw [hlen]; exact hsz)
  rw [hlen] at hc1 hc2
  have HK := hide (consts_self a2 a1 len cap2 cap1 L2 w2 hc2.1 hc1.1)
  have hbb : Below w.heap.size w w2 := hb1.out.trans (hb2.out.mono hb1.out.size)
  clear hc1 hc2 hok
  have HB := hide hbb
  clear hbb
  rw [hlen]
  go_wp2_with (go_at_call 16; refine HK.out.mono ?_; rintro e w3 ⟨rfl, hb3⟩; have hb3 := hide hb3)
  go_ret
  exact ⟨rfl, HB.out.trans (hb3.out.mono HB.out.size)⟩
end Go.Proofs.Ytdjmaefceojdpaa
