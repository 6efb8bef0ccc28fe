/- How many links lead into each component from others: strata's waits. -/
import Derived.Test.YtjifhmlfnnagcaaWalkHomes
namespace Go.Proofs.Ytjifhmlfnnagcaa
set_option linter.unusedSimpArgs false
set_option linter.unusedVariables false
open Go.RowKit Go.Maps

/-- Does a link lead from u to v, out of u's component, into r's? -/
def outL (T : Nat → Nat → Bool) (H : Nat → Int) (u r v : Nat) : Bool := T u v && ((H u != H v) && (H v == (r : Int)))
def rowC (T : Nat → Nat → Bool) (H : Nat → Int) (u r j : Nat) : Nat := (List.range j).countP (outL T H u r)
/-- Those from the first k predicates that S allows. -/
def wt (n : Nat) (T : Nat → Nat → Bool) (H : Nat → Int) (S : Nat → Bool) (k r : Nat) : Nat := ((List.range k).map fun u => if S u then rowC T H u r n else 0).sum

theorem rowC_succ (T : Nat → Nat → Bool) (H : Nat → Int) (u r j : Nat) : rowC T H u r (j + 1) = rowC T H u r j + (if outL T H u r j then 1 else 0) := by
  unfold rowC
  rw [List.range_succ, List.countP_append]
  simp only [List.countP_cons, List.countP_nil, Nat.zero_add]
theorem rowC_le (T : Nat → Nat → Bool) (H : Nat → Int) (u r j : Nat) : rowC T H u r j ≤ j := by
  unfold rowC
  have := List.countP_le_length (p := outL T H u r) (l := List.range j)
  rwa [List.length_range] at this
theorem wt_succ (n : Nat) (T : Nat → Nat → Bool) (H : Nat → Int) (S : Nat → Bool) (k r : Nat) : wt n T H S (k + 1) r = wt n T H S k r + (if S k then rowC T H k r n else 0) := by
  unfold wt
  rw [List.range_succ, List.map_append, List.sum_append]
  simp
theorem wt_le (n : Nat) (T : Nat → Nat → Bool) (H : Nat → Int) (S : Nat → Bool) (k r : Nat) : wt n T H S k r ≤ k * n := by
  induction k with
  | zero => simp [wt]
  | succ k ih =>
    rw [wt_succ, Nat.add_mul, Nat.one_mul]
    have := rowC_le T H k r n
    split <;> omega

set_option maxHeartbeats 1000000 in
theorem waits_any {w : World} {gl n c gh : Nat} {T N : Nat → Nat → Bool} {F : Nat → Nat → Int} {H : Nat → Int} (h : LinksAt w gl n T N F) (hn : n ≤ 128) (hh : w.rowIs gh 3 n (fun i => .int .i64 (H i))) (hH : ∀ v, v < n → 0 ≤ H v ∧ H v < n) :
    Calls Try.prog 36 #[.agg #[.int .i64 (n : Int), .slice (some ⟨gl, 0, none⟩) (n * n) c], .slice (some ⟨gh, 0, none⟩) n n] w fun e w' => ∃ g : Nat, e = .returned (.slice (some ⟨g, 0, none⟩) n n) ∧ w.heap.size ≤ g ∧ w'.rowIs g 3 n (fun r => .int .i64 (wt n T H (fun _ => true) n r : Int)) ∧ Below w.heap.size w w' := by
  have hmk := fun W : World => run_make_row' (P := Try.prog) 33 3 (.int .i64 0) 8 Try.underlying33 Try.infoInt9 rfl .i64 .i64 n (by omega) (by omega) W
  have HL := hide h
  have HHr := hide hh
  have HH := hide hH
  have hglt := h.lt
  have hght := hh.lt
  clear h hh hH
  go_enter Try.func36, Try.ntmps36
  go_wp2
  go_loopw [6, 13] (fun _ i wl => ∃ k : Nat, k ≤ n ∧ i = .int .i64 k ∧ Hid (wl.rowIs (w.heap.size + 1) 3 n (fun r => .int .i64 (wt n T H (fun _ => true) k r : Int))) ∧ Hid (wl.heap[w.heap.size]? = some (.cells #[.int .i64 (n : Int), .slice (some ⟨gl, 0, none⟩) (n * n) c] 48 (0, 0))) ∧ Hid (Below w.heap.size w wl)) (fun _ i _ => n - (intOf i).toNat)
  case atStart =>
    refine ⟨0, by omega, rfl, ?_, ?_, ?_⟩
    · have h1 := World.rowIs_made (w.alloc (.cells #[.int .i64 (n : Int), .slice (some ⟨gl, 0, none⟩) (n * n) c] 48)) (.int .i64 0) n 3
      rw [show (w.alloc (.cells #[.int .i64 (n : Int), .slice (some ⟨gl, 0, none⟩) (n * n) c] 48)).heap.size = w.heap.size + 1 by simp] at h1
      exact h1.congr fun i _ => by simp [wt]
    · show _ = _
      rw [heap_alloc_old _ _ (by simp)]; exact heap_alloc_new _ _
    · exact ((Below.refl _ w).alloc (Nat.le_refl _) _).alloc (by simp) _
  case round =>
    obtain ⟨u, hu, rfl, HR, HX, HB⟩ := hrel
    have x0 : wr.cell? ⟨w.heap.size, 0, none⟩ = some (.int .i64 (n : Int)) := by simp [World.cell?, HX.out]
    by_cases hlu : u < n
    · have hi : (u : Int) < (n : Int) := by omega
      have hi0 : (0 : Int) ≤ (u : Int) := by omega
      go_wp2
      clear x0
      go_loopw [7, 18] (fun _ i wl => ∃ j : Nat, j ≤ n ∧ i = .int .i64 j ∧ Hid (wl.rowIs (w.heap.size + 1) 3 n (fun r => .int .i64 ((wt n T H (fun _ => true) u r + rowC T H u r j : Nat) : Int))) ∧ Hid (wl.heap[w.heap.size]? = some (.cells #[.int .i64 (n : Int), .slice (some ⟨gl, 0, none⟩) (n * n) c] 48 (0, 0))) ∧ Hid (Below w.heap.size w wl)) (fun _ i _ => n - (intOf i).toNat)
      case atStart => exact ⟨0, by omega, rfl, HR.out.congr fun i _ => by simp [rowC], HX, HB⟩
      case round =>
        clear HR HX HB
        obtain ⟨v, hv, rfl, HR, HX, HB⟩ := hrel
        by_cases hlv : v < n
        · have hj : (v : Int) < (n : Int) := by omega
          have hj0 : (0 : Int) ≤ (v : Int) := by omega
          have hSz : w.heap.size ≤ wr.heap.size := HB.out.size
          have x0 : wr.cell? ⟨w.heap.size, 0, none⟩ = some (.int .i64 (n : Int)) := by simp [World.cell?, HX.out]
          have x1 : wr.cell? ⟨w.heap.size, 1, none⟩ = some (.slice (some ⟨gl, 0, none⟩) (n * n) c) := by simp [World.cell?, HX.out]
          have HHw := hide (HHr.out.of_block (HB.out.block _ hght))
          have HLw := hide (HL.out.low HB.out hglt)
          have y0 := HHw.out.cell hlu
          have y1 := HHw.out.cell hlv
          have o0 := over_cell x0
          have o1 := over_cell x1
          have p0 := over_cell y0
          have p1 := over_cell y1
          have HC : Hid (∀ x, Calls Try.prog 47 #[.agg #[.int .i64 (n : Int), .slice (some ⟨gl, 0, none⟩) (n * n) c], .int .i64 (u : Int), .int .i64 (v : Int)] (over wr x) fun e w' => e = .returned (.bool (T u v)) ∧ Below (over wr x).heap.size (over wr x) w') := fun x => leads_any (HLw.out.kept (over_below wr x)) hn hlu hlv
          have HS := hide (fun r => rowC_succ T H u r v)
          obtain ⟨tb, htb⟩ : ∃ tb, T u v = tb := ⟨_, rfl⟩
          rw [htb] at HC
          have HTb := hide htb
          clear htb
          have HNo : Hid ((tb && (H u != H v)) = false → ∀ r, rowC T H u r (v + 1) = rowC T H u r v) := fun hq r => by
            rw [HS.out r]
            have : outL T H u r v = false := by unfold outL; rw [HTb.out, ← Bool.and_assoc, hq]; rfl
            rw [this]; rfl
          cases tb with
          | false =>
            go_wp2
            refine wp_region_over (fun W => W = wr) (by kernel_rfl) (by kernel_rfl) rfl ?_
            rintro W rfl
            repeat (go_big_quiet_step (first | (go_at_call 47; exact calls_over (HC.out _))))
            refine wpQuiet_nil ?_
            rintro _ ⟨z, rfl⟩
            have HRz := hide (HR.out.of_block ((over_below W z).block _ HR.out.lt))
            have HXz : Hid ((over W z).heap[w.heap.size]? = some (.cells #[.int .i64 (n : Int), .slice (some ⟨gl, 0, none⟩) (n * n) c] 48 (0, 0))) := by show _ = _; rw [(over_below W z).block _ (Array.getElem?_eq_some_iff.1 HX.out).1]; exact HX.out
            have HBz := hide (HB.out.trans ((over_below W z).mono hSz))
            go_wp2
            go_roundw
            case rel => exact ⟨v + 1, by omega, by go_num, HRz.out.congr fun r _ => by rw [HNo.out rfl r], HXz, HBz⟩
            case measure => simp [intOf]; omega
          | true =>
            cases hne : (H u != H v) with
            | false =>
              rw [hne] at HNo
              go_wp2
              refine wp_region_over (fun W => W = wr) (by kernel_rfl) (by kernel_rfl) rfl ?_
              rintro W rfl
              repeat (go_big_quiet_step (first | (go_at_call 47; exact calls_over (HC.out _))))
              refine wpQuiet_nil ?_
              rintro _ ⟨z, rfl⟩
              have HRz := hide (HR.out.of_block ((over_below W z).block _ HR.out.lt))
              have HXz : Hid ((over W z).heap[w.heap.size]? = some (.cells #[.int .i64 (n : Int), .slice (some ⟨gl, 0, none⟩) (n * n) c] 48 (0, 0))) := by show _ = _; rw [(over_below W z).block _ (Array.getElem?_eq_some_iff.1 HX.out).1]; exact HX.out
              have HBz := hide (HB.out.trans ((over_below W z).mono hSz))
              go_wp2
              go_roundw
              case rel => exact ⟨v + 1, by omega, by go_num, HRz.out.congr fun r _ => by rw [HNo.out rfl r], HXz, HBz⟩
              case measure => simp [intOf]; omega
            | true =>
              obtain ⟨hv0, hv1⟩ := HH.out v hlv
              obtain ⟨hr, hhr⟩ : ∃ hr : Nat, H v = hr := ⟨(H v).toNat, by omega⟩
              have hrn : hr < n := by omega
              have hri : (hr : Int) < (n : Int) := by omega
              have hri0 : (0 : Int) ≤ (hr : Int) := by omega
              rw [hhr] at p1 hne
              have HHr' := hide hhr
              have HOut : Hid (∀ r, outL T H u r v = decide (r = hr)) := fun r => by
                unfold outL
                rw [HTb.out, hhr, hne, Bool.true_and, Bool.true_and]
                by_cases e : r = hr
                · subst e; simp
                · have : ¬ ((hr : Int) = (r : Int)) := by omega
                  simp [this, e]
              clear hhr hv0 hv1
              go_wp2
              refine wp_region_over (fun W => W = wr) (by kernel_rfl) (by kernel_rfl) rfl ?_
              rintro W rfl
              repeat (go_big_quiet_step (first | (go_at_call 47; exact calls_over (HC.out _))))
              refine wpQuiet_nil ?_
              rintro _ ⟨z, rfl⟩
              have HRz := hide (HR.out.of_block ((over_below W z).block _ HR.out.lt))
              have HXz : Hid ((over W z).heap[w.heap.size]? = some (.cells #[.int .i64 (n : Int), .slice (some ⟨gl, 0, none⟩) (n * n) c] 48 (0, 0))) := by show _ = _; rw [(over_below W z).block _ (Array.getElem?_eq_some_iff.1 HX.out).1]; exact HX.out
              have HBz := hide (HB.out.trans ((over_below W z).mono hSz))
              have p1z := p1 z
              have q1 := HRz.out.cell hrn
              have q1f := HRz.out.frozen hr
              obtain ⟨y, hy⟩ : ∃ y : Nat, wt n T H (fun _ => true) u hr + rowC T H u hr v = y := ⟨_, rfl⟩
              rw [hy] at q1
              have hyb : y ≤ 16640 := by
                have h1 := wt_le n T H (fun _ => true) u hr
                have h2 := rowC_le T H u hr v
                have h3 : u * n ≤ 16384 := Nat.le_trans (Nat.mul_le_mul (Nat.le_of_lt (Nat.lt_of_lt_of_le hlu hn)) hn) (by decide)
                omega
              have HRn : Hid (((over W z).setCell ⟨w.heap.size + 1, hr, none⟩ (.int .i64 ((y : Int) + 1))).rowIs (w.heap.size + 1) 3 n (fun r => .int .i64 ((wt n T H (fun _ => true) u r + rowC T H u r (v + 1) : Nat) : Int))) := by
                refine (HRz.out.set hr _).congr fun r _ => ?_
                rw [HS.out r, HOut.out r]
                by_cases e : r = hr
                · subst e
                  simp only [if_true, decide_true]
                  congr 1
                  omega
                · simp [e]
              have HXn : Hid (((over W z).setCell ⟨w.heap.size + 1, hr, none⟩ (.int .i64 ((y : Int) + 1))).heap[w.heap.size]? = some (.cells #[.int .i64 (n : Int), .slice (some ⟨gl, 0, none⟩) (n * n) c] 48 (0, 0))) := by show _ = _; rw [heap_other (by omega)]; exact HXz.out
              have HBn : Hid (Below w.heap.size w ((over W z).setCell ⟨w.heap.size + 1, hr, none⟩ (.int .i64 ((y : Int) + 1)))) := HBz.out.setCell (by dsimp only; omega) _
              clear o0 o1 p0 p1 x0 x1 y0 y1 hy
              go_wp2
              go_roundw
              case rel => exact ⟨v + 1, by omega, by go_num, HRn, HXn, HBn⟩
              case measure => simp [intOf]; omega
        · obtain rfl : v = n := by omega
          have hj : ¬ (v : Int) < (v : Int) := by omega
          have HRn : Hid (wr.rowIs (w.heap.size + 1) 3 v (fun r => .int .i64 (wt v T H (fun _ => true) (u + 1) r : Int))) := HR.out.congr fun r _ => by rw [wt_succ]; simp
          go_wp2
          go_roundw
          case rel => exact ⟨u + 1, by omega, by go_num, HRn, HX, HB⟩
          case measure => simp [intOf]; omega
    · obtain rfl : u = n := by omega
      have hi : ¬ (u : Int) < (u : Int) := by omega
      go_wp2
      go_ret
      exact ⟨_, rfl, by omega, HR.out, HB.out⟩
end Go.Proofs.Ytjifhmlfnnagcaa
