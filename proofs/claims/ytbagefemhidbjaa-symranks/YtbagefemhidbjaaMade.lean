/- edictlaw01's made: some constant within the reach. -/
import Derived.Test.YtbagefemhidbjaaProg
import Derived.Test.YtbagefemhidbjaaWord
import Derived.Test.YtbagefemhidbjaaOverAt
namespace Go.Proofs.Ytbagefemhidbjaa
set_option linter.unusedSimpArgs false
set_option linter.unusedVariables false
open Go.RowKit
attribute [local go_sem] over_cellAt over_frozenAt over_setAt

theorem con_ok {k n : Int} {s : ByteArray} (h1 : I64 k) (h2 : I64 n) (h3 : s.size ≤ 140737488351232) : Con.ok ⟨k, n, s⟩ := ⟨h1, h2, h3⟩

set_option maxHeartbeats 2000000 in
set_option maxRecDepth 100000 in
theorem made_any (c : Con) (hc : c.ok) (w : World) :
    Calls Try.prog 10 #[c.val] w fun e w' => (∃ d : Con, e = .returned d.val ∧ d.ok) ∧ Below w.heap.size w w' := by
  obtain ⟨k, n, s⟩ := c
  have HW := hide (fun W => word_any s W hc.2.2)
  have hk := hc.1
  have hn := hc.2.1
  have hs := hc.2.2
  unfold Con.val
  simp only at hk hn hs
  clear hc
  have ibig : I64 1 ∧ I64 2 ∧ I64 3 ∧ I64 0 := by unfold I64; omega
  by_cases h0 : (k.tmod 3 == 0) = true
  · go_enter Try.func10, Try.ntmps10
    go_wp2
    exact bodyPost_ret (v := .agg #[.int .i64 1, .int .i64 n, .string ⟨#[]⟩]) (by simp [results, Try.results10, go_sem]) rfl ⟨⟨⟨1, n, ⟨#[]⟩⟩, rfl, ibig.1, hn, (show (⟨#[]⟩ : ByteArray).size ≤ 140737488351232 from by decide)⟩, ((Below.refl _ _).alloc (Nat.le_refl _) _).alloc (by simp) _⟩
  · replace h0 : (k.tmod 3 == 0) = false := by simpa using h0
    by_cases h1 : (k.tmod 3 == 1) = true
    · go_enter Try.func10, Try.ntmps10
      go_wp2_with (go_at_call 39; refine (HW.out _).mono ?_; rintro e w1 ⟨⟨t, rfl, ht⟩, hb1⟩; obtain ⟨x, rfl⟩ := over_of hb1)
      exact bodyPost_ret (v := .agg #[.int .i64 2, .int .i64 0, .string t]) (by simp [results, Try.results10, go_sem]) rfl ⟨⟨⟨2, 0, t⟩, rfl, ibig.2.1, ibig.2.2.2, (show t.size ≤ _ from by omega)⟩, over_bel (((Below.refl _ _).alloc (Nat.le_refl _) _).alloc (by simp) _) (by simp; omega)⟩
    · replace h1 : (k.tmod 3 == 1) = false := by simpa using h1
      by_cases h2 : (k.tmod 3 == -1) = true
      · go_enter Try.func10, Try.ntmps10
        go_wp2_with (go_at_call 39; refine (HW.out _).mono ?_; rintro e w1 ⟨⟨t, rfl, ht⟩, hb1⟩; obtain ⟨x, rfl⟩ := over_of hb1)
        exact bodyPost_ret (v := .agg #[.int .i64 2, .int .i64 0, .string t]) (by simp [results, Try.results10, go_sem]) rfl ⟨⟨⟨2, 0, t⟩, rfl, ibig.2.1, ibig.2.2.2, (show t.size ≤ _ from by omega)⟩, over_bel (((Below.refl _ _).alloc (Nat.le_refl _) _).alloc (by simp) _) (by simp; omega)⟩
      · replace h2 : (k.tmod 3 == -1) = false := by simpa using h2
        by_cases h3 : s.size < 255
        · have h4 : (s.size : Int) < 255 := by omega
          go_enter Try.func10, Try.ntmps10
          go_wp2
          exact bodyPost_ret (v := .agg #[.int .i64 3, .int .i64 0, .string s]) (by simp [results, Try.results10, go_sem]) rfl ⟨⟨⟨3, 0, s⟩, rfl, ibig.2.2.1, ibig.2.2.2, hs⟩, ((Below.refl _ _).alloc (Nat.le_refl _) _).alloc (by simp) _⟩
        · have h4 : ¬ (s.size : Int) < 255 := by omega
          have h5 : (255 : Int) ≤ (s.size : Int) := by omega
          go_enter Try.func10, Try.ntmps10
          go_wp2
          exact bodyPost_ret (v := .agg #[.int .i64 3, .int .i64 0, .string (s.extract 0 255)]) (by simp [results, Try.results10, go_sem]) rfl ⟨⟨⟨3, 0, (s.extract 0 255)⟩, rfl, ibig.2.2.1, ibig.2.2.2, (show (s.extract 0 255).size ≤ _ from by rw [ByteArray.size_extract]; omega)⟩, ((Below.refl _ _).alloc (Nat.le_refl _) _).alloc (by simp) _⟩
end Go.Proofs.Ytbagefemhidbjaa
