/- bound's meters in memory: what each call answers and leaves. -/
import Derived.Test.YtidllcbagfhndaaLocks
import Derived.Test.YtidllcbagfhndaaOver
import Derived.Test.YtidllcbagfhndaaWellBase
import Derived.Conc.MuLone
import Derived.Defers
import Derived.WalkKit
import Derived.Laws.Cover1
import Derived.Deep.RegionHeld3
namespace Go.Proofs.Ytidllcbagfhndaa
set_option linter.unusedSimpArgs false
set_option linter.unusedVariables false
open Go.RowKit Go.MuLone

/-- Only block b was written, and nothing was made. -/
structure Touch (b : Nat) (w w' : World) : Prop where
  os : w'.os = w.os
  tape : w'.tape = w.tape
  output : w'.output = w.output
  size : w'.heap.size = w.heap.size
  other : ∀ k, k ≠ b → w'.heap[k]? = w.heap[k]?
theorem Touch.refl (b : Nat) (w : World) : Touch b w w := ⟨rfl, rfl, rfl, rfl, fun _ _ => rfl⟩
theorem Touch.set (b : Nat) (w : World) (o : Nat) (v : Value) : Touch b w (w.setCell ⟨b, o, none⟩ v) :=
  ⟨rfl, rfl, rfl, by simp [World.setCell], fun k hk => by simp [World.setCell, Array.getElem?_modify]; intro h; omega⟩
theorem Touch.trans {b : Nat} {w w' w'' : World} (h : Touch b w w') (g : Touch b w' w'') : Touch b w w'' :=
  ⟨g.os.trans h.os, g.tape.trans h.tape, g.output.trans h.output, g.size.trans h.size, fun k hk => (g.other k hk).trans (h.other k hk)⟩
theorem Touch.below {b B : Nat} {w w' w'' : World} (h : Below B w w') (g : Touch b w' w'') (hb : B ≤ b) : Below B w w'' :=
  ⟨g.os.trans h.os, g.tape.trans h.tape, g.output.trans h.output, by have := h.size; have := g.size; omega, fun k hk => (g.other k (by omega)).trans (h.block k hk)⟩

/-- A meter at block b. -/
structure MetAt (w : World) (b lim used : Nat) : Prop where
  blk : w.heap[b]? = some (.cells #[.int .i32 0, .int .u32 0, .int .u64 (lim : Int), .int .u64 (used : Int)] 47 (0, 0))
  le : used ≤ lim
  lt : lim < 18446744073709551616
theorem MetAt.other {w w' : World} {b c lim used : Nat} (h : MetAt w c lim used) (g : Touch b w w') (hbc : c ≠ b) : MetAt w' c lim used :=
  ⟨(g.other c hbc).trans h.blk, h.le, h.lt⟩
theorem MetAt.inside {w : World} {b lim used : Nat} (h : MetAt w b lim used) : b < w.heap.size := (Array.getElem?_eq_some_iff.1 h.blk).1
theorem MetAt.kept {w w' : World} {b lim used : Nat} (h : MetAt w b lim used) (g : Below w.heap.size w w') : MetAt w' b lim used :=
  ⟨(g.block b h.inside).trans h.blk, h.le, h.lt⟩
theorem MetAt.c0 {w : World} {b lim used : Nat} (h : MetAt w b lim used) : w.cell? ⟨b, 0, none⟩ = some (.int .i32 0) := by simp [World.cell?, h.blk]
theorem MetAt.c2 {w : World} {b lim used : Nat} (h : MetAt w b lim used) : w.cell? ⟨b, 2, none⟩ = some (.int .u64 (lim : Int)) := by simp [World.cell?, h.blk]
theorem MetAt.c3 {w : World} {b lim used : Nat} (h : MetAt w b lim used) : w.cell? ⟨b, 3, none⟩ = some (.int .u64 (used : Int)) := by simp [World.cell?, h.blk]
theorem MetAt.fz {w : World} {b lim used : Nat} (h : MetAt w b lim used) (o : Nat) : w.frozen? ⟨b, o, none⟩ = false := by simp [World.frozen?, h.blk]
/-- Locked and unlocked. -/
theorem MetAt.quiet {w : World} {b lim used : Nat} (h : MetAt w b lim used) : MetAt ((w.setCell ⟨b, 0, none⟩ (.int .i32 1)).setCell ⟨b, 0, none⟩ (.int .i32 0)) b lim used :=
  ⟨by simp [World.setCell, Array.getElem?_modify, h.blk], h.le, h.lt⟩
theorem MetAt.wrote {w : World} {b lim used u : Nat} (h : MetAt w b lim used) (hu : u ≤ lim) : MetAt (((w.setCell ⟨b, 0, none⟩ (.int .i32 1)).setCell ⟨b, 3, none⟩ (.int .u64 (u : Int))).setCell ⟨b, 0, none⟩ (.int .i32 0)) b lim u :=
  ⟨by simp [World.setCell, Array.getElem?_modify, h.blk], hu, h.lt⟩

theorem Touch.drew (b : Nat) (w : World) : Touch b w w.drew := ⟨rfl, rfl, rfl, rfl, fun _ _ => rfl⟩
theorem MetAt.quietD {w : World} {b lim used : Nat} (h : MetAt w b lim used) : MetAt ((w.setCell ⟨b, 0, none⟩ (.int .i32 1)).drew.setCell ⟨b, 0, none⟩ (.int .i32 0)) b lim used :=
  ⟨h.quiet.blk, h.le, h.lt⟩
theorem MetAt.wroteD {w : World} {b lim used u : Nat} (h : MetAt w b lim used) (hu : u ≤ lim) : MetAt (((w.setCell ⟨b, 0, none⟩ (.int .i32 1)).drew.setCell ⟨b, 3, none⟩ (.int .u64 (u : Int))).setCell ⟨b, 0, none⟩ (.int .i32 0)) b lim u :=
  ⟨(h.wrote hu).blk, hu, h.lt⟩

set_option maxHeartbeats 1000000 in
theorem newMeter_any {lim : Nat} (hl : lim < 18446744073709551616) (w : World) :
    Calls Try.prog 5 #[.int .u64 (lim : Int)] w fun e w' => e = .returned (.pointer (some ⟨w.heap.size, 0, none⟩)) ∧ MetAt w' w.heap.size lim 0 ∧ Below w.heap.size w w' ∧ w'.heap.size = w.heap.size + 1 := by
  have HM : Hid (MetAt (w.alloc (.cells #[.int .i32 0, .int .u32 0, .int .u64 (lim : Int), .int .u64 0] 47)) w.heap.size lim 0) := ⟨heap_alloc_new _ _, by omega, hl⟩
  have HB := hide (belo1 w (.cells #[.int .i32 0, .int .u32 0, .int .u64 (lim : Int), .int .u64 0] 47))
  clear hl
  go_enter Try.func5, Try.ntmps5
  go_wp2
  go_ret
  exact ⟨rfl, HM.out, HB.out, by simp⟩

set_option maxHeartbeats 1000000 in
theorem used_any {w : World} {b lim used : Nat} (h : MetAt w b lim used) :
    Calls Try.prog 7 #[.pointer (some ⟨b, 0, none⟩)] w fun e w' => e = .returned (.int .u64 (used : Int)) ∧ MetAt w' b lim used ∧ Touch b w w' := by
  have c0 := h.c0
  have c3 := h.c3
  have f0 := h.fz 0
  have HQ := hide h.quiet
  have HC := hide c0
  have HF := hide f0
  go_enter_defers Try.func7, Try.ntmps7
  go_wp2_with (go_at_call 16; refine (lock_free Try.muLib ⟨b, 0, none⟩ _ c0 f0).mono ?_; rintro e w' ⟨rfl, rfl⟩)
  refine leaves_cons (f := 17) (args := #[.pointer (some ⟨b, 0, none⟩)]) (by simp) (by simp [go_sem]) ?_
  refine (unlock_deferred Try.muLib ⟨b, 0, none⟩ .returning _ ?_ ?_).mono ?_
  · exact World.cell?_setCell_same w ⟨b, 0, none⟩ (.int .i32 1) HC.out
  · simp [HF.out]
  rintro e u' w'' ⟨rfl, rfl, rfl⟩
  exact ⟨_, results_tmp rfl _ _ _, rfl, HQ.out, (Touch.set _ _ _ _).trans (Touch.set _ _ _ _)⟩
set_option maxHeartbeats 1000000 in
theorem left_any {w : World} {b lim used : Nat} (h : MetAt w b lim used) :
    Calls Try.prog 8 #[.pointer (some ⟨b, 0, none⟩)] w fun e w' => e = .returned (.int .u64 ((lim - used : Nat) : Int)) ∧ MetAt w' b lim used ∧ Touch b w w' := by
  have c0 := h.c0
  have c3 := h.c3
  have c2 := h.c2
  obtain ⟨r, hr⟩ : ∃ r, lim - used = r := ⟨_, rfl⟩
  have ew : IntKind.u64.wrap ((lim : Int) - (used : Int)) = (r : Int) := by rw [IntKind.wrap_u64]; have := h.le; have := h.lt; omega
  rw [hr]
  clear hr
  have f0 := h.fz 0
  have HQ := hide h.quietD
  have HC := hide c0
  have HF := hide f0
  go_enter_defers Try.func8, Try.ntmps8
  go_wp2_with (go_at_call 16; refine (lock_free Try.muLib ⟨b, 0, none⟩ _ c0 f0).mono ?_; rintro e w' ⟨rfl, rfl⟩)
  have d2 : (w.setCell ⟨b, 0, none⟩ (.int .i32 1)).cell? ⟨b, 2, none⟩ = some (.int .u64 (lim : Int)) := (World.cell?_setCell_other _ ⟨b, 0, none⟩ ⟨b, 2, none⟩ _ (by simp)).trans c2
  have d3 : (w.setCell ⟨b, 0, none⟩ (.int .i32 1)).cell? ⟨b, 3, none⟩ = some (.int .u64 (used : Int)) := (World.cell?_setCell_other _ ⟨b, 0, none⟩ ⟨b, 3, none⟩ _ (by simp)).trans c3
  go_region_held3 (fun w' => w'.cell? ⟨b, 2, none⟩ = some (.int .u64 (lim : Int)) ∧ w'.cell? ⟨b, 3, none⟩ = some (.int .u64 (used : Int))) (exact ⟨d2, d3⟩) (fail)
  go_wp2
  refine leaves_cons (f := 17) (args := #[.pointer (some ⟨b, 0, none⟩)]) (by simp) (by simp [go_sem]) ?_
  refine (unlock_deferred Try.muLib ⟨b, 0, none⟩ .returning _ ?_ ?_).mono ?_
  · exact World.cell?_setCell_same w ⟨b, 0, none⟩ (.int .i32 1) HC.out
  · simp [HF.out]
  rintro e u' w'' ⟨rfl, rfl, rfl⟩
  exact ⟨_, results_tmp rfl _ _ _, rfl, HQ.out, ((Touch.set _ _ _ _).trans (Touch.drew _ _)).trans (Touch.set _ _ _ _)⟩
set_option maxHeartbeats 1000000 in
theorem spend_yes {w : World} {b lim used n : Nat} (h : MetAt w b lim used) (hn : n ≤ lim - used) :
    Calls Try.prog 6 #[.pointer (some ⟨b, 0, none⟩), .int .u64 (n : Int)] w fun e w' => e = .returned (.bool true) ∧ MetAt w' b lim (used + n) ∧ Touch b w w' := by
  have c0 := h.c0
  have c3 := h.c3
  have c2 := h.c2
  have f0 := h.fz 0
  have f3 := h.fz 3
  obtain ⟨r, hr⟩ : ∃ r, lim - used = r := ⟨_, rfl⟩
  obtain ⟨s, hs⟩ : ∃ s, used + n = s := ⟨_, rfl⟩
  have ew : IntKind.u64.wrap ((lim : Int) - (used : Int)) = (r : Int) := by rw [IntKind.wrap_u64]; have := h.le; have := h.lt; omega
  have es : IntKind.u64.wrap ((used : Int) + (n : Int)) = (s : Int) := by rw [IntKind.wrap_u64]; have := h.le; have := h.lt; omega
  have hnr : ¬ r < n := by omega
  have HQ := hide (h.wroteD (u := s) (by have := h.le; omega))
  rw [hs]
  have HC := hide c0
  have HF := hide f0
  clear hr hs hn h
  go_enter_defers Try.func6, Try.ntmps6
  go_wp2_with (go_at_call 16; refine (lock_free Try.muLib ⟨b, 0, none⟩ _ c0 f0).mono ?_; rintro e w' ⟨rfl, rfl⟩)
  have d2 : (w.setCell ⟨b, 0, none⟩ (.int .i32 1)).cell? ⟨b, 2, none⟩ = some (.int .u64 (lim : Int)) := (World.cell?_setCell_other _ ⟨b, 0, none⟩ ⟨b, 2, none⟩ _ (by simp)).trans c2
  have d3 : (w.setCell ⟨b, 0, none⟩ (.int .i32 1)).cell? ⟨b, 3, none⟩ = some (.int .u64 (used : Int)) := (World.cell?_setCell_other _ ⟨b, 0, none⟩ ⟨b, 3, none⟩ _ (by simp)).trans c3
  go_region_held3 (fun w' => w'.cell? ⟨b, 2, none⟩ = some (.int .u64 (lim : Int)) ∧ w'.cell? ⟨b, 3, none⟩ = some (.int .u64 (used : Int))) (exact ⟨d2, d3⟩) (fail)
  go_wp2
  refine leaves_cons (f := 17) (args := #[.pointer (some ⟨b, 0, none⟩)]) (by simp) (by simp [go_sem]) ?_
  refine (unlock_deferred Try.muLib ⟨b, 0, none⟩ .returning _ ?_ ?_).mono ?_
  · exact (World.cell?_setCell_other _ ⟨b, 3, none⟩ ⟨b, 0, none⟩ _ (by simp)).trans (World.cell?_setCell_same w ⟨b, 0, none⟩ (.int .i32 1) HC.out)
  · simp [HF.out]
  rintro e u' w'' ⟨rfl, rfl, rfl⟩
  exact ⟨_, results_tmp rfl _ _ _, rfl, HQ.out, (((Touch.set _ _ _ _).trans (Touch.drew _ _)).trans (Touch.set _ _ _ _)).trans (Touch.set _ _ _ _)⟩
set_option maxHeartbeats 1000000 in
theorem spend_no {w : World} {b lim used n : Nat} (h : MetAt w b lim used) (hn : ¬ n ≤ lim - used) :
    Calls Try.prog 6 #[.pointer (some ⟨b, 0, none⟩), .int .u64 (n : Int)] w fun e w' => e = .returned (.bool false) ∧ MetAt w' b lim used ∧ Touch b w w' := by
  have c0 := h.c0
  have c3 := h.c3
  have c2 := h.c2
  have f0 := h.fz 0
  obtain ⟨r, hr⟩ : ∃ r, lim - used = r := ⟨_, rfl⟩
  have ew : IntKind.u64.wrap ((lim : Int) - (used : Int)) = (r : Int) := by rw [IntKind.wrap_u64]; have := h.le; have := h.lt; omega
  have hnr : r < n := by omega
  have HQ := hide h.quietD
  have HC := hide c0
  have HF := hide f0
  clear hr hn h
  go_enter_defers Try.func6, Try.ntmps6
  go_wp2_with (go_at_call 16; refine (lock_free Try.muLib ⟨b, 0, none⟩ _ c0 f0).mono ?_; rintro e w' ⟨rfl, rfl⟩)
  have d2 : (w.setCell ⟨b, 0, none⟩ (.int .i32 1)).cell? ⟨b, 2, none⟩ = some (.int .u64 (lim : Int)) := (World.cell?_setCell_other _ ⟨b, 0, none⟩ ⟨b, 2, none⟩ _ (by simp)).trans c2
  have d3 : (w.setCell ⟨b, 0, none⟩ (.int .i32 1)).cell? ⟨b, 3, none⟩ = some (.int .u64 (used : Int)) := (World.cell?_setCell_other _ ⟨b, 0, none⟩ ⟨b, 3, none⟩ _ (by simp)).trans c3
  go_region_held3 (fun w' => w'.cell? ⟨b, 2, none⟩ = some (.int .u64 (lim : Int)) ∧ w'.cell? ⟨b, 3, none⟩ = some (.int .u64 (used : Int))) (exact ⟨d2, d3⟩) (fail)
  go_wp2
  refine leaves_cons (f := 17) (args := #[.pointer (some ⟨b, 0, none⟩)]) (by simp) (by simp [go_sem]) ?_
  refine (unlock_deferred Try.muLib ⟨b, 0, none⟩ .returning _ ?_ ?_).mono ?_
  · exact World.cell?_setCell_same w ⟨b, 0, none⟩ (.int .i32 1) HC.out
  · simp [HF.out]
  rintro e u' w'' ⟨rfl, rfl, rfl⟩
  exact ⟨_, results_tmp rfl _ _ _, rfl, HQ.out, ((Touch.set _ _ _ _).trans (Touch.drew _ _)).trans (Touch.set _ _ _ _)⟩
end Go.Proofs.Ytidllcbagfhndaa
