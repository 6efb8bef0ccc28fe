/- math/bits.Mul at one and a small number. -/
import Derived.Test.YtjifhmlfnnagcaaOver
import Derived.Test.YtjifhmlfnnagcaaProg
import Derived.Deep.OwnRows
import Derived.Laws.CopyOwn
import Derived.Test.YtjifhmlfnnagcaaOpen
import Derived.Deep.RegionHeld3
import Derived.Deep.RegionLawGrows
import Derived.WalkKit
import Derived.WalkSpells
import Derived.WalkLawsBesides
import Derived.Laws.Cover3
namespace Go.Proofs.Ytjifhmlfnnagcaa
set_option linter.unusedSimpArgs false
set_option linter.unusedVariables false
open Go.RowKit

theorem and_small : ∀ m : Fin 129, bits BinOp.and IntKind.u64 ((m.val : Nat) : Int) 4294967295 = ((m.val : Nat) : Int) := by decide

set_option maxHeartbeats 1000000 in
theorem mul64_any {w : World} {n : Nat} (hn : n ≤ 128) :
    Calls Try.prog 53 #[.int .u64 1, .int .u64 (n : Int)] w fun e w' => e = .returned (.tuple #[.int .u64 0, .int .u64 (n : Int)]) ∧ w' = w := by
  have b1 : bits BinOp.and IntKind.u64 1 4294967295 = 1 := by decide
  have b0 : bits BinOp.and IntKind.u64 0 4294967295 = 0 := by decide
  have bn : bits BinOp.and IntKind.u64 (n : Int) 4294967295 = (n : Int) := and_small ⟨n, by omega⟩
  have dn : (n : Int) / 4294967296 = 0 := by omega
  go_enter Try.func53, Try.ntmps53
  go_wp2
  exact bodyPost_ret (v := .tuple #[.int .u64 0, .int .u64 (n : Int)]) (by simp [results, Try.results53, go_sem]) rfl ⟨rfl, rfl⟩

set_option maxHeartbeats 1000000 in
theorem mul_any {w : World} {n : Nat} (hn : n ≤ 128) :
    Calls Try.prog 50 #[.int .u64 1, .int .u64 (n : Int)] w fun e w' => e = .returned (.tuple #[.int .u64 0, .int .u64 (n : Int)]) ∧ w' = w := by
  have HM := hide (fun V : World => mul64_any (w := V) hn)
  go_enter Try.func50, Try.ntmps50
  go_wp2_with (go_at_call 53; refine (HM.out _).mono ?_; rintro e w2 ⟨rfl, hw⟩; have hw := hw.symm; subst hw)
  exact bodyPost_ret (v := .tuple #[.int .u64 0, .int .u64 (n : Int)]) (by simp [results, Try.results50, go_sem]) rfl ⟨rfl, rfl⟩

/-- A row of N cells, the first m of which hold x. -/
def fillL (N m : Nat) (x : Int) : List Value := List.replicate m (.int .i64 x) ++ List.replicate (N - m) (.int .i64 0)
theorem fillL_len {N m : Nat} {x : Int} (h : m ≤ N) : (fillL N m x).length = N := by simp [fillL]; omega
theorem fillL_step {N m c : Nat} {x : Int} (h : m + c ≤ N) : splice (fillL N m x) m (List.replicate c (.int .i64 x)) = fillL N (m + c) x := by
  unfold splice fillL
  rw [List.take_left' (by simp), List.drop_append, List.length_replicate, List.drop_eq_nil_of_le (by simp), List.drop_replicate, List.length_replicate, List.nil_append, ← List.append_assoc, List.replicate_append_replicate]
  congr 2
  omega
theorem fillL_full (N : Nat) (x : Int) : fillL N N x = List.replicate N (.int .i64 x) := by simp [fillL]
theorem fillL_none (N : Nat) (x : Int) : fillL N 0 x = List.replicate N (.int .i64 0) := by simp [fillL]
theorem fillL_at {N m i : Nat} {x : Int} (h : i < m) : (fillL N m x)[i]? = some (.int .i64 x) := by
  unfold fillL
  rw [List.getElem?_append_left (by simpa using h), List.getElem?_replicate, if_pos h]

theorem Try.infoInt9 : (Try.prog.info? 3).map (fun i => (i.zero, i.size, i.bytes)) = some (some (.int .i64 0), 1, 8) := by kernel_rfl

set_option maxRecDepth 100000 in
set_option maxHeartbeats 1000000 in
theorem repeat_any {w : World} {b N : Nat} {x : Int} (hx : w.cell? ⟨b, 0, none⟩ = some (.int .i64 x)) (hN : N ≤ 128) :
    Calls Try.prog 48 #[.slice (some ⟨b, 0, none⟩) 1 1, .int .i64 (N : Int)] w fun e w' => ∃ g, e = .returned (.slice (some ⟨g, 0, none⟩) N N) ∧ w.heap.size ≤ g ∧ w'.rowIs g 3 N (fun _ => .int .i64 x) ∧ Below w.heap.size w w' := by
  have hmk := fun W : World => run_make_row' (P := Try.prog) 33 3 (.int .i64 0) 8 Try.underlying33 Try.infoInt9 rfl .i64 .i64 N (by omega) (by omega) W
  have HM := hide (fun V : World => mul_any (w := V) hN)
  have hsz : (Try.prog.info? 3).map (·.size) = some 1 := by
    obtain ⟨i, hi, _, h1, _⟩ := info_parts Try.infoInt9
    rw [hi]; simp [h1]
  have HSz := hide hsz
  have HX := hide hx
  clear hsz hx
  have hcp : ∃ w1 : World, (Builtin.copy_ #[33, 33] 3 #[.slice (some ⟨w.heap.size, 0, none⟩) N N, .slice (some ⟨b, 0, none⟩) 1 1]).run Try.prog (w.alloc (.cells (madeCells #[.int .i64 0] N) 3)) = .ok (.int .i64 ((min 1 N : Nat) : Int)) w1 ∧ w1.heap[w.heap.size]? = some (.cells (fillL N (min 1 N) x).toArray 3 (0, 0)) ∧ Below w.heap.size w w1 := by
    have hb0 : Below w.heap.size w (w.alloc (.cells (madeCells #[.int .i64 0] N) 3)) := (Below.refl _ _).alloc (Nat.le_refl _) _
    have hg0 : (w.alloc (.cells (madeCells #[.int .i64 0] N) 3)).heap[w.heap.size]? = some (.cells (fillL N 0 x).toArray 3 (0, 0)) := by
      have h1 := heap_alloc_new w (.cells (madeCells #[.int .i64 0] N) 3)
      have h2 : madeCells #[Value.int .i64 0] N = (fillL N 0 x).toArray := by
        rw [fillL_none, ← toList_madeCells_one]
      rw [h2] at h1
      rw [h2]
      exact h1
    by_cases h0 : N = 0
    · refine ⟨_, ?_, ?_, hb0⟩
      · have := run_copy_none (P := Try.prog) (w.alloc (.cells (madeCells #[.int .i64 0] N) 3)) 33 33 3 3 (some ⟨w.heap.size, 0, none⟩) (some ⟨b, 0, none⟩) N N 1 1 Try.underlying33 HSz.out (by subst h0; rfl)
        rw [this]
        subst h0
        rfl
      · rw [hg0]
        subst h0
        rfl
    · have hm : min 1 N = 1 := by omega
      rw [hm]
      have := run_copy_row (P := Try.prog) (w.alloc (.cells (madeCells #[.int .i64 0] N) 3)) 33 33 3 3 w.heap.size 0 N N ⟨b, 0, none⟩ 1 1 (fillL N 0 x).toArray 3 [.int .i64 x] Try.underlying33 HSz.out hg0 (by show 1 = min 1 N; omega) (fun j v hv => by
          have hj : j = 0 := by have := (List.getElem?_eq_some_iff.1 hv).1; simp at this; exact this
          subst hj
          simp only [List.getElem?_cons_zero, Option.some.injEq] at hv
          subst hv
          exact kept_cell hb0 HX.out) (by simp [fillL]; omega) (fun v hv => by simp only [List.mem_singleton] at hv; subst hv; rfl)
      refine ⟨_, this, ?_, below_setRow hb0 (Nat.le_refl _) _⟩
      have h3 := fillL_step (N := N) (m := 0) (c := 1) (x := x) (by omega)
      rw [setRow_heap _ _ _ _ _ _ hg0, ← h3]
      rfl
  obtain ⟨w1, hrun, hg1, hb1⟩ := hcp
  have HG1 := hide hg1
  have HB1 := hide hb1
  clear hg1 hb1
  go_enter Try.func48, Try.ntmps48
  go_wp2_with (go_at_call 50; refine (HM.out _).mono ?_; rintro e w2 ⟨rfl, hw⟩; have hw := hw.symm; subst hw)
  go_loopw [8] (fun i wl => ∃ m : Nat, m ≤ N ∧ i = .int .i64 m ∧ Hid (N = 0 ∨ 0 < m) ∧ Hid (wl.heap[w.heap.size]? = some (.cells (fillL N m x).toArray 3 (0, 0))) ∧ Hid (Below w.heap.size w wl)) (fun i _ => N - (intOf i).toNat)
  case atStart => exact ⟨min 1 N, by omega, rfl, by show _ ∨ _; omega, HG1, HB1⟩
  case round =>
    obtain ⟨m, hm, rfl, HP, HG, HB⟩ := hrel
    clear hrun HG1 HB1
    by_cases hlt : m < N
    · have hi : (m : Int) < (N : Int) := by omega
      have hi0 : (0 : Int) ≤ (m : Int) := by omega
      have hi1 : (m : Int) ≤ (N : Int) := by omega
      have hpos : 0 < m := by have := HP.out; omega
      obtain ⟨c, hc⟩ : ∃ c, min m (N - m) = c := ⟨_, rfl⟩
      have hc1 : m + c ≤ N := by omega
      have hc0 : 0 < c := by omega
      have hcm : c ≤ m := by omega
      have hcp : ∃ w3 : World, (Builtin.copy_ #[33, 33] 3 #[.slice (some ⟨w.heap.size, m, none⟩) (N - m) (N - m), .slice (some ⟨w.heap.size, 0, none⟩) m N]).run Try.prog wr.drew = .ok (.int .i64 (c : Int)) w3 ∧ w3.heap[w.heap.size]? = some (.cells (fillL N (m + c) x).toArray 3 (0, 0)) ∧ Below w.heap.size w w3 := by
        have hg0 : wr.drew.heap[w.heap.size]? = some (.cells (fillL N m x).toArray 3 (0, 0)) := HG.out
        have hb0 : Below w.heap.size w wr.drew := HB.out.drew
        have := run_copy_row (P := Try.prog) wr.drew 33 33 3 3 w.heap.size m (N - m) (N - m) ⟨w.heap.size, 0, none⟩ m N (fillL N m x).toArray 3 (List.replicate c (.int .i64 x)) Try.underlying33 HSz.out hg0 (by rw [List.length_replicate]; exact hc.symm) (fun j v hv => by
            rw [List.getElem?_replicate] at hv
            split at hv
            · cases hv
              rename_i hjc
              have h2 := fillL_at (N := N) (x := x) (show j < m by omega)
              rw [addr_add, Nat.zero_add]
              simp [World.cell?, hg0, h2]
            · cases hv) (by rw [List.length_replicate, List.size_toArray, fillL_len (by omega)]; exact hc1) (fun v hv => by rw [(List.mem_replicate.1 hv).2]; rfl)
        rw [List.length_replicate] at this
        refine ⟨_, this, ?_, below_setRow hb0 (Nat.le_refl _) _⟩
        have h3 := fillL_step (x := x) hc1
        rw [setRow_heap _ _ _ _ _ _ hg0, ← h3]
        unfold splice
        rw [List.length_replicate, List.append_assoc]
      obtain ⟨w3, hrun3, hg3, hb3⟩ := hcp
      have HG3 := hide hg3
      have HB3 := hide hb3
      have HCs : Hid (m + c ≤ N ∧ 0 < c) := ⟨hc1, hc0⟩
      have HWr : Hid (IntKind.i64.wrap ((m : Int) + (c : Int)) = ((m + c : Nat) : Int)) := by show _ = _; rw [IntKind.wrap_i64]; omega
      clear hg3 hb3 hc hcm
      go_wp2
      go_region_held3 (fun _ => True) (trivial) (fail)
      go_wp2
      go_roundw
      case rel => exact ⟨m + c, HCs.out.1, by rw [HWr.out], by show _ ∨ _; have := HCs.out.2; omega, HG3, HB3⟩
      case measure => simp only [intOf]; rw [HWr.out]; have := HCs.out; omega
    · obtain rfl : m = N := by omega
      have hi : ¬ (m : Int) < (m : Int) := by omega
      go_wp2
      go_ret
      refine ⟨_, rfl, Nat.le_refl _, ⟨_, HG.out, ?_, fun i hi => ?_⟩, HB.out⟩
      · simp [fillL_len]
      · have := fillL_at (N := m) (x := x) hi
        simpa using this

set_option maxHeartbeats 1000000 in
theorem filled_any {w : World} {N : Nat} (x : Int) (hN : N ≤ 128) :
    Calls Try.prog 43 #[.int .i64 (N : Int), .int .i64 x] w fun e w' => ∃ g, e = .returned (.slice (some ⟨g, 0, none⟩) N N) ∧ w.heap.size ≤ g ∧ w'.rowIs g 3 N (fun _ => .int .i64 x) ∧ Below w.heap.size w w' := by
  have hb : Below w.heap.size w (w.alloc (.cells #[.int .i64 x] 3)) := (Below.refl _ _).alloc (Nat.le_refl _) _
  have HR := hide (repeat_any (w := w.alloc (.cells #[.int .i64 x] 3)) (b := w.heap.size) (x := x) (by simp) hN)
  have HB := hide hb
  clear hb
  go_enter Try.func43, Try.ntmps43
  go_wp2_with (go_at_call 48; refine HR.out.mono ?_; rintro e w2 ⟨g, rfl, h1, h2, h3⟩; have HX := hide (And.intro (Nat.le_trans HB.out.size h1) (And.intro h2 (HB.out.trans (h3.mono HB.out.size)))); clear h1 h2 h3)
  go_ret
  exact ⟨g, rfl, HX.out.1, HX.out.2.1, HX.out.2.2⟩
end Go.Proofs.Ytjifhmlfnnagcaa
