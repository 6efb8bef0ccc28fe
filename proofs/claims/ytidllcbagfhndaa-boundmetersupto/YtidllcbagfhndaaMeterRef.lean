/- The document's meters in memory; meters that are none. -/
import Derived.Test.YtidllcbagfhndaaMeterBack
namespace Go.Proofs.Ytidllcbagfhndaa
set_option linter.unusedSimpArgs false
set_option linter.unusedVariables false
open Go.RowKit

/-- A meter of the document's at block b. -/
structure RefAt (w : World) (b lim used : Nat) : Prop where
  blk : w.heap[b]? = some (.cells #[.int .u64 (lim : Int), .int .u64 (used : Int)] 49 (0, 0))
  le : used ≤ lim
  lt : lim < 18446744073709551616
theorem RefAt.other {w w' : World} {b c lim used : Nat} (h : RefAt w c lim used) (g : Touch b w w') (hbc : c ≠ b) : RefAt w' c lim used :=
  ⟨(g.other c hbc).trans h.blk, h.le, h.lt⟩
theorem RefAt.inside {w : World} {b lim used : Nat} (h : RefAt w b lim used) : b < w.heap.size := (Array.getElem?_eq_some_iff.1 h.blk).1
theorem RefAt.kept {w w' : World} {b lim used : Nat} (h : RefAt w b lim used) (g : Below w.heap.size w w') : RefAt w' b lim used :=
  ⟨(g.block b h.inside).trans h.blk, h.le, h.lt⟩
theorem RefAt.c0 {w : World} {b lim used : Nat} (h : RefAt w b lim used) : w.cell? ⟨b, 0, none⟩ = some (.int .u64 (lim : Int)) := by simp [World.cell?, h.blk]
theorem RefAt.c1 {w : World} {b lim used : Nat} (h : RefAt w b lim used) : w.cell? ⟨b, 1, none⟩ = some (.int .u64 (used : Int)) := by simp [World.cell?, h.blk]
theorem RefAt.fz {w : World} {b lim used : Nat} (h : RefAt w b lim used) (o : Nat) : w.frozen? ⟨b, o, none⟩ = false := by simp [World.frozen?, h.blk]
theorem RefAt.wrote {w : World} {b lim used u : Nat} (h : RefAt w b lim used) (hu : u ≤ lim) : RefAt (w.setCell ⟨b, 1, none⟩ (.int .u64 (u : Int))) b lim u :=
  ⟨by simp [World.setCell, Array.getElem?_modify, h.blk], hu, h.lt⟩
theorem RefAt.drew {w : World} {b lim used : Nat} (h : RefAt w b lim used) : RefAt w.drew b lim used := ⟨h.blk, h.le, h.lt⟩

set_option maxHeartbeats 1000000 in
theorem rnewMeter_ex {lim : Nat} (hl : lim < 18446744073709551616) (w : World) :
    Calls Try.prog 10 #[.int .u64 (lim : Int)] w fun e w' => ∃ b, e = .returned (.pointer (some ⟨b, 0, none⟩)) ∧ RefAt w' b lim 0 ∧ Below w.heap.size w w' ∧ w.heap.size ≤ b := by
  have HM : Hid (RefAt (w.alloc (.cells #[.int .u64 (lim : Int), .int .u64 0] 49)) w.heap.size lim 0) := ⟨heap_alloc_new _ _, by omega, hl⟩
  have HB := hide (belo1 w (.cells #[.int .u64 (lim : Int), .int .u64 0] 49))
  clear hl
  go_enter Try.func10, Try.ntmps10
  go_wp2
  go_ret
  exact ⟨_, rfl, HM.out, HB.out, Nat.le_refl _⟩

set_option maxHeartbeats 1000000 in
theorem rused_any {w : World} {b lim used : Nat} (h : RefAt w b lim used) :
    Calls Try.prog 14 #[.pointer (some ⟨b, 0, none⟩)] w fun e w' => e = .returned (.int .u64 (used : Int)) ∧ RefAt w' b lim used ∧ Touch b w w' := by
  have c1 := h.c1
  have HR := hide h
  clear h
  go_enter Try.func14, Try.ntmps14
  go_wp2
  go_ret
  exact ⟨rfl, HR.out, Touch.refl _ _⟩

set_option maxHeartbeats 1000000 in
theorem rleft_is {w : World} {b lim used r : Nat} (h : RefAt w b lim used) (hr : lim - used = r) :
    Calls Try.prog 15 #[.pointer (some ⟨b, 0, none⟩)] w fun e w' => e = .returned (.int .u64 (r : Int)) ∧ RefAt w' b lim used ∧ Touch b w w' := by
  have c0 := h.c0
  have c1 := h.c1
  have ew : IntKind.u64.wrap ((lim : Int) - (used : Int)) = (r : Int) := by rw [IntKind.wrap_u64]; have := h.le; have := h.lt; omega
  have HR := hide h
  clear h hr
  go_enter Try.func15, Try.ntmps15
  go_wp2
  go_region_held3 (fun w' => w'.cell? ⟨b, 0, none⟩ = some (.int .u64 (lim : Int)) ∧ w'.cell? ⟨b, 1, none⟩ = some (.int .u64 (used : Int))) (exact ⟨c0, c1⟩) (fail)
  go_wp2
  go_ret
  exact ⟨rfl, HR.out.drew, Touch.drew _ _⟩

set_option maxHeartbeats 1000000 in
theorem rspend_yes {w : World} {b lim used n s : Nat} (h : RefAt w b lim used) (hn : n ≤ lim - used) (hs : used + n = s) :
    Calls Try.prog 12 #[.pointer (some ⟨b, 0, none⟩), .int .u64 (n : Int)] w fun e w' => e = .returned (.bool true) ∧ RefAt w' b lim s ∧ Touch b w w' := by
  have c0 := h.c0
  have c1 := h.c1
  have f1 := h.fz 1
  obtain ⟨r, hr⟩ : ∃ r, lim - used = r := ⟨_, rfl⟩
  have ew : IntKind.u64.wrap ((lim : Int) - (used : Int)) = (r : Int) := by rw [IntKind.wrap_u64]; have := h.le; have := h.lt; omega
  have es : IntKind.u64.wrap ((used : Int) + (n : Int)) = (s : Int) := by rw [IntKind.wrap_u64]; have := h.le; have := h.lt; omega
  have hnr : ¬ r < n := by omega
  have HR := hide (h.drew.wrote (u := s) (by have := h.le; omega))
  clear h hn hs hr
  go_enter Try.func12, Try.ntmps12
  go_wp2
  go_region_held3 (fun w' => w'.cell? ⟨b, 0, none⟩ = some (.int .u64 (lim : Int)) ∧ w'.cell? ⟨b, 1, none⟩ = some (.int .u64 (used : Int))) (exact ⟨c0, c1⟩) (fail)
  go_wp2
  go_ret
  exact ⟨rfl, HR.out, (Touch.drew _ _).trans (Touch.set _ _ _ _)⟩

set_option maxHeartbeats 1000000 in
theorem rspend_no {w : World} {b lim used n : Nat} (h : RefAt w b lim used) (hn : ¬ n ≤ lim - used) :
    Calls Try.prog 12 #[.pointer (some ⟨b, 0, none⟩), .int .u64 (n : Int)] w fun e w' => e = .returned (.bool false) ∧ RefAt w' b lim used ∧ Touch b w w' := by
  have c0 := h.c0
  have c1 := h.c1
  obtain ⟨r, hr⟩ : ∃ r, lim - used = r := ⟨_, rfl⟩
  have ew : IntKind.u64.wrap ((lim : Int) - (used : Int)) = (r : Int) := by rw [IntKind.wrap_u64]; have := h.le; have := h.lt; omega
  have hnr : r < n := by omega
  have HR := hide h.drew
  clear h hn hr
  go_enter Try.func12, Try.ntmps12
  go_wp2
  go_region_held3 (fun w' => w'.cell? ⟨b, 0, none⟩ = some (.int .u64 (lim : Int)) ∧ w'.cell? ⟨b, 1, none⟩ = some (.int .u64 (used : Int))) (exact ⟨c0, c1⟩) (fail)
  go_wp2
  go_ret
  exact ⟨rfl, HR.out, Touch.drew _ _⟩

set_option maxHeartbeats 1000000 in
theorem rrefund_is {w : World} {b lim used n m s : Nat} (h : RefAt w b lim used) (hm : (¬ used < n ∧ n = m) ∨ (used < n ∧ used = m)) (hs : used - m = s) :
    Calls Try.prog 13 #[.pointer (some ⟨b, 0, none⟩), .int .u64 (n : Int)] w fun e w' => e = .returned (.tuple #[]) ∧ RefAt w' b lim s ∧ Touch b w w' := by
  have c0 := h.c0
  have c1 := h.c1
  have f1 := h.fz 1
  have es : IntKind.u64.wrap ((used : Int) - (m : Int)) = (s : Int) := by rw [IntKind.wrap_u64]; have := h.le; have := h.lt; omega
  have HR := hide (h.wrote (u := s) (by have := h.le; omega))
  clear h hs
  rcases hm with ⟨hc, hm⟩ | ⟨hc, hm⟩ <;> subst hm
  · go_enter Try.func13, Try.ntmps13
    go_wp2
    go_end0
    exact ⟨rfl, HR.out, Touch.set _ _ _ _⟩
  · rw [Int.sub_self] at es
    go_enter Try.func13, Try.ntmps13
    go_wp2
    go_end0
    exact ⟨rfl, HR.out, Touch.set _ _ _ _⟩

theorem nil_used (w : World) : Calls Try.prog 7 #[.pointer none] w fun e w' => e = .returned (.int .u64 0) ∧ w' = w := by
  go_enter Try.func7, Try.ntmps7
  go_wp2
  go_ret
  exact ⟨rfl, rfl⟩
theorem nil_left (w : World) : Calls Try.prog 8 #[.pointer none] w fun e w' => e = .returned (.int .u64 0) ∧ w' = w := by
  go_enter Try.func8, Try.ntmps8
  go_wp2
  go_ret
  exact ⟨rfl, rfl⟩
theorem nil_spend (n : Nat) (w : World) : Calls Try.prog 6 #[.pointer none, .int .u64 (n : Int)] w fun e w' => e = .returned (.bool false) ∧ w' = w := by
  go_enter Try.func6, Try.ntmps6
  go_wp2
  go_ret
  exact ⟨rfl, rfl⟩
theorem nil_refund (n : Nat) (w : World) : Calls Try.prog 9 #[.pointer none, .int .u64 (n : Int)] w fun e w' => e = .returned (.tuple #[]) ∧ w' = w := by
  go_enter Try.func9, Try.ntmps9
  go_wp2
  (try simp only [Exit.inBlock, Exit.then]); refine bodyPost_ret (results_none rfl _ _ _) rfl ?_
  exact ⟨rfl, rfl⟩
theorem nil_rused (w : World) : Calls Try.prog 14 #[.pointer none] w fun e w' => e = .returned (.int .u64 0) ∧ w' = w := by
  go_enter Try.func14, Try.ntmps14
  go_wp2
  go_ret
  exact ⟨rfl, rfl⟩
theorem nil_rleft (w : World) : Calls Try.prog 15 #[.pointer none] w fun e w' => e = .returned (.int .u64 0) ∧ w' = w := by
  go_enter Try.func15, Try.ntmps15
  go_wp2
  go_ret
  exact ⟨rfl, rfl⟩
theorem nil_rrefund (n : Nat) (w : World) : Calls Try.prog 13 #[.pointer none, .int .u64 (n : Int)] w fun e w' => e = .returned (.tuple #[]) ∧ w' = w := by
  go_enter Try.func13, Try.ntmps13
  go_wp2
  (try simp only [Exit.inBlock, Exit.then]); refine bodyPost_ret (results_none rfl _ _ _) rfl ?_
  exact ⟨rfl, rfl⟩
theorem nil_rspend (n : Nat) (w : World) : Calls Try.prog 12 #[.pointer none, .int .u64 (n : Int)] w fun e w' => e = .returned (.bool false) ∧ ∃ k, w' = w.drewN k := by
  go_enter Try.func12, Try.ntmps12
  go_wp2
  go_quiet (fail)
  go_wp2
  go_ret
  exact ⟨rfl, _, rfl⟩
end Go.Proofs.Ytidllcbagfhndaa
