/- What the statements of lex have in common: the helpers head, begun, ended; the tokens' list in memory. -/
import Derived.Test.YtaemcbabegjfnaaDoorProg
import Derived.Test.YtaemcbabegjfnaaDoorLexRow
namespace Go.Proofs.YtaemcbabegjfnaaDoor
set_option linter.unusedSimpArgs false
set_option linter.unusedVariables false
open Go.RowKit



set_option maxHeartbeats 1000000 in
theorem ended_any (g cap m : Nat) (L : List Tok) (w : World) (hL : 0 < L.length) (hl2 : L.length ≤ 65537) (h : ∀ i t, L[i]? = some t → TokAt w g (i * 6) t) (h1 : ∀ i t, L[i]? = some t → i + 1 < L.length → t.k ≠ 0) (h2 : L[L.length - 1]? = some (endTok m)) :
    Calls Tryd.prog 7 #[.slice (some ⟨g, 0, none⟩) L.length cap, .agg #[.int .i64 0, .int .i64 0, .int .i64 0], .int .i64 m] w fun e w' => e = .returned (.bool true) ∧ Below w.heap.size w w' := by
  have hf := fault_self
  have hq := tok_self (endTok m)
  unfold endTok at hq
  simp only at hq
  have HT : Hid (∀ i t, L[i]? = some t → TokAt (w.alloc (.cells #[.int .i64 0, .int .i64 0, .int .i64 0] 33)) g (i * 6) t) := fun i t hi => (h i t hi).kept ((Below.refl _ _).alloc (Nat.le_refl _) _)
  have H1 := hide h1
  have H2 := hide h2
  clear h h1 h2
  obtain ⟨n, hn⟩ : ∃ n, n = L.length := ⟨_, rfl⟩
  rw [← hn] at hL hl2 H1 H2 ⊢
  replace hn := hide hn
  have e0 : ((n : Int) == 0) = false := by simp; omega
  go_enter Tryd.func7, Tryd.ntmps7
  go_wp2
  go_loop [7] (fun i => ∃ k : Nat, k + 1 ≤ n ∧ i = .int .i64 k) (fun i => n - (intOf i).toNat)
  case atStart => exact ⟨0, by omega, rfl⟩
  case round =>
    obtain ⟨k, hk, rfl⟩ := hrel
    by_cases hlt : k + 1 < n
    · have hi : (k : Int) + 1 < (n : Int) := by omega
      have hi2 : (k : Int) < (n : Int) := by omega
      obtain ⟨t, ht⟩ : ∃ t, L[k]? = some t := ⟨_, List.getElem?_eq_getElem (by have := hn.out; omega)⟩
      have hc0 := (HT.out k t ht).c0
      have ek : (t.k == 0) = false := by simpa using H1.out k t ht hlt
      clear ht
      go_wp2
      go_round
      case rel => exact ⟨k + 1, by omega, by go_num⟩
      case measure => simp [intOf]; omega
    · obtain rfl : n = k + 1 := by omega
      have hi : ¬ (k : Int) + 1 < ((k + 1 : Nat) : Int) := by omega
      have H2' := H2.out
      rw [show k + 1 - 1 = k by omega] at H2'
      obtain ⟨c0, c1, c2, c3, c4, c5⟩ := HT.out k _ H2'
      unfold endTok at c0 c1 c2 c3 c4 c5
      simp only at c0 c1 c2 c3 c4 c5
      clear H2'
      go_wp2
      go_ret
      exact ⟨rfl, (Below.refl _ _).alloc (Nat.le_refl _) _⟩

end Go.Proofs.YtaemcbabegjfnaaDoor
