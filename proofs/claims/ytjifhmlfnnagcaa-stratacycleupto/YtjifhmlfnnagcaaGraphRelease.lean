/- A component that was told: what led out of it is waited for no more: strata's release. -/
import Derived.Test.YtjifhmlfnnagcaaGraphWaits
import Derived.Test.YtjifhmlfnnagcaaIdsBase
namespace Go.Proofs.Ytjifhmlfnnagcaa
set_option linter.unusedSimpArgs false
set_option linter.unusedVariables false
open Go.RowKit Go.Maps

def sumC (T : Nat → Nat → Bool) (H : Nat → Int) (n r : Nat) (l : List Nat) : Nat := (l.map fun u => rowC T H u r n).sum
theorem sumC_snoc (T : Nat → Nat → Bool) (H : Nat → Int) (n r : Nat) (l : List Nat) (u : Nat) : sumC T H n r (l ++ [u]) = sumC T H n r l + rowC T H u r n := by simp [sumC]
theorem sumC_le (T : Nat → Nat → Bool) (H : Nat → Int) (n r : Nat) (l : List Nat) : sumC T H n r l ≤ l.length * n := by
  induction l with
  | nil => simp [sumC]
  | cons a r' ih =>
    have := rowC_le T H a r n
    unfold sumC at ih ⊢
    simp only [List.map_cons, List.sum_cons, List.length_cons]
    rw [Nat.add_mul, Nat.one_mul]
    omega

set_option maxHeartbeats 1000000 in
theorem release_any {w : World} {gl n c gh gq : Nat} {T N : Nat → Nat → Bool} {F : Nat → Nat → Int} {H X : Nat → Int} {v : Value} {l : List Nat} (h : LinksAt w gl n T N F) (hn : n ≤ 128) (hh : w.rowIs gh 3 n (fun i => .int .i64 (H i))) (hH : ∀ v, v < n → 0 ≤ H v ∧ H v < n)
    (hq : w.rowIs gq 3 n (fun r => .int .i64 (X r))) (hX : ∀ r, r < n → -20000 ≤ X r ∧ X r ≤ 20000) (hl : Has elInt w v (l.map fun (u : Nat) => (u : Int))) (hu : ∀ u ∈ l, u < n) (hlen : l.length ≤ 128) (d1 : gq ≠ gl) (d2 : gq ≠ gh) (d3 : ∀ b off len cap, v = .slice (some ⟨b, off, none⟩) len cap → gq ≠ b) :
    Calls Try.prog 37 #[.agg #[.int .i64 (n : Int), .slice (some ⟨gl, 0, none⟩) (n * n) c], v, .slice (some ⟨gh, 0, none⟩) n n, .slice (some ⟨gq, 0, none⟩) n n] w fun e w' => e = .returned (.tuple #[]) ∧ w'.rowIs gq 3 n (fun r => .int .i64 (X r - (sumC T H n r l : Int))) ∧ Only (fun b => b = gq) w w' := by
  obtain ⟨va, vc, rfl, -, -, -⟩ := hl.shape
  rw [List.length_map] at hl ⊢
  have HL := hide h
  have HHr := hide hh
  have HH := hide hH
  have HQ := hide hq
  have HXb := hide hX
  have HLi := hide hl
  have HU := hide hu
  have HD3 := hide d3
  have hglt := h.lt
  have hght := hh.lt
  have hgqt := hq.lt
  clear h hh hH hq hX hl hu d3
  go_enter Try.func37, Try.ntmps37
  go_wp2
  go_loopw [9, 13] (fun _ i wl => ∃ k : Nat, k ≤ l.length ∧ i = .int .i64 k ∧ Hid (wl.rowIs gq 3 n (fun r => .int .i64 (X r - (sumC T H n r (l.take k) : Int)))) ∧ Hid (wl.heap[w.heap.size]? = some (.cells #[.int .i64 (n : Int), .slice (some ⟨gl, 0, none⟩) (n * n) c] 48 (0, 0))) ∧ Hid (Only (fun b => b = gq) w wl)) (fun _ i _ => l.length - (intOf i).toNat)
  case atStart =>
    refine ⟨0, by omega, rfl, ?_, heap_alloc_new _ _, (Only.refl _ _).alloc _⟩
    exact (HQ.out.alloc _).congr fun r _ => by simp [sumC]
  case round =>
    obtain ⟨k, hk, rfl, HR, HX, HB⟩ := hrel
    have x0 : wr.cell? ⟨w.heap.size, 0, none⟩ = some (.int .i64 (n : Int)) := by simp [World.cell?, HX.out]
    by_cases hlk : k < l.length
    · have hi : (k : Int) < (l.length : Int) := by omega
      have hi0 : (0 : Int) ≤ (k : Int) := by omega
      obtain ⟨b, off, rfl, hbl, -, lrow⟩ := HLi.out.row (by rw [List.length_map]; omega)
      obtain ⟨u, hu⟩ : ∃ u, l[k]? = some u := ⟨_, List.getElem?_eq_getElem hlk⟩
      have hlu := HU.out u (List.mem_of_getElem? hu)
      have hiu : (u : Int) < (n : Int) := by omega
      have hiu0 : (0 : Int) ≤ (u : Int) := by omega
      have l0 := HB.out.cell (lrow k (u : Int) (by rw [List.getElem?_map, hu]; rfl) 0 _ rfl) (fun e => HD3.out _ _ _ _ rfl e.symm)
      simp only [elInt, Nat.add_zero, Nat.mul_one] at l0
      have HTk := hide (take_snoc8 hu)
      clear hu lrow
      go_wp2
      clear x0 l0
      go_loopw [10, 19] (fun _ i wl => ∃ j : Nat, j ≤ n ∧ i = .int .i64 j ∧ Hid (wl.rowIs gq 3 n (fun r => .int .i64 (X r - (sumC T H n r (l.take k) : Int) - (rowC T H u r j : Int)))) ∧ Hid (wl.heap[w.heap.size]? = some (.cells #[.int .i64 (n : Int), .slice (some ⟨gl, 0, none⟩) (n * n) c] 48 (0, 0))) ∧ Hid (Only (fun b => b = gq) w wl)) (fun _ i _ => n - (intOf i).toNat)
      case atStart => exact ⟨0, by omega, rfl, HR.out.congr fun i _ => by simp [rowC], HX, HB⟩
      case round =>
        clear HR HX HB
        obtain ⟨v, hv, rfl, HR, HX, HB⟩ := hrel
        by_cases hlv : v < n
        · have hj : (v : Int) < (n : Int) := by omega
          have hj0 : (0 : Int) ≤ (v : Int) := by omega
          have hSz : w.heap.size ≤ wr.heap.size := HB.out.size
          have x0 : wr.cell? ⟨w.heap.size, 0, none⟩ = some (.int .i64 (n : Int)) := by simp [World.cell?, HX.out]
          have x1 : wr.cell? ⟨w.heap.size, 1, none⟩ = some (.slice (some ⟨gl, 0, none⟩) (n * n) c) := by simp [World.cell?, HX.out]
          have HHw := hide (HHr.out.of_block (HB.out.block _ hght (Ne.symm d2)))
          have HLw := hide (HL.out.same (HB.out.block _ hglt (Ne.symm d1)))
          have y0 := HHw.out.cell hlu
          have y1 := HHw.out.cell hlv
          have o0 := over_cell x0
          have o1 := over_cell x1
          have p0 := over_cell y0
          have p1 := over_cell y1
          have HC : Hid (∀ x, Calls Try.prog 47 #[.agg #[.int .i64 (n : Int), .slice (some ⟨gl, 0, none⟩) (n * n) c], .int .i64 (u : Int), .int .i64 (v : Int)] (over wr x) fun e w' => e = .returned (.bool (T u v)) ∧ Below (over wr x).heap.size (over wr x) w') := fun x => leads_any (HLw.out.kept (over_below wr x)) hn hlu hlv
          have HS := hide (fun r => rowC_succ T H u r v)
          obtain ⟨tb, htb⟩ : ∃ tb, T u v = tb := ⟨_, rfl⟩
          rw [htb] at HC
          have HTb := hide htb
          clear htb
          have HNo : Hid ((tb && (H u != H v)) = false → ∀ r, rowC T H u r (v + 1) = rowC T H u r v) := fun hq r => by
            rw [HS.out r]
            have : outL T H u r v = false := by unfold outL; rw [HTb.out, ← Bool.and_assoc, hq]; rfl
            rw [this]; rfl
          cases tb with
          | false =>
            go_wp2
            refine wp_region_over (fun W => W = wr) (by kernel_rfl) (by kernel_rfl) rfl ?_
            rintro W rfl
            repeat (go_big_quiet_step (first | (go_at_call 47; exact calls_over (HC.out _))))
            refine wpQuiet_nil ?_
            rintro _ ⟨z, rfl⟩
            have HRz := hide (HR.out.of_block ((over_below W z).block _ HR.out.lt))
            have HXz : Hid ((over W z).heap[w.heap.size]? = some (.cells #[.int .i64 (n : Int), .slice (some ⟨gl, 0, none⟩) (n * n) c] 48 (0, 0))) := by show _ = _; rw [(over_below W z).block _ (Array.getElem?_eq_some_iff.1 HX.out).1]; exact HX.out
            have HBz := hide (HB.out.trans (Only.of_below (over_below W z) _))
            go_wp2
            go_roundw
            case rel => exact ⟨v + 1, by omega, by go_num, HRz.out.congr fun r _ => by rw [HNo.out rfl r], HXz, HBz⟩
            case measure => simp [intOf]; omega
          | true =>
            cases hne : (H u != H v) with
            | false =>
              rw [hne] at HNo
              go_wp2
              refine wp_region_over (fun W => W = wr) (by kernel_rfl) (by kernel_rfl) rfl ?_
              rintro W rfl
              repeat (go_big_quiet_step (first | (go_at_call 47; exact calls_over (HC.out _))))
              refine wpQuiet_nil ?_
              rintro _ ⟨z, rfl⟩
              have HRz := hide (HR.out.of_block ((over_below W z).block _ HR.out.lt))
              have HXz : Hid ((over W z).heap[w.heap.size]? = some (.cells #[.int .i64 (n : Int), .slice (some ⟨gl, 0, none⟩) (n * n) c] 48 (0, 0))) := by show _ = _; rw [(over_below W z).block _ (Array.getElem?_eq_some_iff.1 HX.out).1]; exact HX.out
              have HBz := hide (HB.out.trans (Only.of_below (over_below W z) _))
              go_wp2
              go_roundw
              case rel => exact ⟨v + 1, by omega, by go_num, HRz.out.congr fun r _ => by rw [HNo.out rfl r], HXz, HBz⟩
              case measure => simp [intOf]; omega
            | true =>
              obtain ⟨hv0, hv1⟩ := HH.out v hlv
              obtain ⟨hr, hhr⟩ : ∃ hr : Nat, H v = hr := ⟨(H v).toNat, by omega⟩
              have hrn : hr < n := by omega
              have hri : (hr : Int) < (n : Int) := by omega
              have hri0 : (0 : Int) ≤ (hr : Int) := by omega
              rw [hhr] at p1 hne
              have HHr' := hide hhr
              have HOut : Hid (∀ r, outL T H u r v = decide (r = hr)) := fun r => by
                unfold outL
                rw [HTb.out, hhr, hne, Bool.true_and, Bool.true_and]
                by_cases e : r = hr
                · subst e; simp
                · have : ¬ ((hr : Int) = (r : Int)) := by omega
                  simp [this, e]
              clear hhr hv0 hv1
              go_wp2
              refine wp_region_over (fun W => W = wr) (by kernel_rfl) (by kernel_rfl) rfl ?_
              rintro W rfl
              repeat (go_big_quiet_step (first | (go_at_call 47; exact calls_over (HC.out _))))
              refine wpQuiet_nil ?_
              rintro _ ⟨z, rfl⟩
              have HRz := hide (HR.out.of_block ((over_below W z).block _ HR.out.lt))
              have HXz : Hid ((over W z).heap[w.heap.size]? = some (.cells #[.int .i64 (n : Int), .slice (some ⟨gl, 0, none⟩) (n * n) c] 48 (0, 0))) := by show _ = _; rw [(over_below W z).block _ (Array.getElem?_eq_some_iff.1 HX.out).1]; exact HX.out
              have HBz := hide (HB.out.trans (Only.of_below (over_below W z) _))
              have p1z := p1 z
              have q1 := HRz.out.cell hrn
              have q1f := HRz.out.frozen hr
              obtain ⟨y, hy⟩ : ∃ y : Int, X hr - (sumC T H n hr (l.take k) : Int) - (rowC T H u hr v : Int) = y := ⟨_, rfl⟩
              rw [hy] at q1
              have hyb : -60000 ≤ y ∧ y ≤ 60000 := by
                have h1 := sumC_le T H n hr (l.take k)
                have h2 := rowC_le T H u hr v
                have h4 := HXb.out hr hrn
                have h5 : (l.take k).length * n ≤ 16384 := Nat.le_trans (Nat.mul_le_mul (by rw [List.length_take]; omega : (l.take k).length ≤ 128) hn) (by decide)
                omega
              have hyb0 := hyb.1
              have hyb1 := hyb.2
              have HRn : Hid (((over W z).setCell ⟨gq, hr, none⟩ (.int .i64 (y - 1))).rowIs gq 3 n (fun r => .int .i64 (X r - (sumC T H n r (l.take k) : Int) - (rowC T H u r (v + 1) : Int)))) := by
                refine (HRz.out.set hr _).congr fun r _ => ?_
                rw [HS.out r, HOut.out r]
                by_cases e : r = hr
                · subst e
                  simp only [if_true, decide_true]
                  congr 1
                  omega
                · simp [e]
              have HXn : Hid (((over W z).setCell ⟨gq, hr, none⟩ (.int .i64 (y - 1))).heap[w.heap.size]? = some (.cells #[.int .i64 (n : Int), .slice (some ⟨gl, 0, none⟩) (n * n) c] 48 (0, 0))) := by show _ = _; rw [heap_other (by omega)]; exact HXz.out
              have HBn : Hid (Only (fun b => b = gq) w ((over W z).setCell ⟨gq, hr, none⟩ (.int .i64 (y - 1)))) := HBz.out.setCell rfl _
              clear o0 o1 p0 p1 x0 x1 y0 y1 hy
              go_wp2
              go_roundw
              case rel => exact ⟨v + 1, by omega, by go_num, HRn, HXn, HBn⟩
              case measure => simp [intOf]; omega
        · obtain rfl : v = n := by omega
          have hj : ¬ (v : Int) < (v : Int) := by omega
          have HRn : Hid (wr.rowIs gq 3 v (fun r => .int .i64 (X r - (sumC T H v r (l.take (k + 1)) : Int)))) := HR.out.congr fun r _ => by rw [HTk.out, sumC_snoc]; congr 1; omega
          go_wp2
          go_roundw
          case rel => exact ⟨k + 1, by omega, by go_num, HRn, HX, HB⟩
          case measure => simp [intOf]; omega
    · obtain rfl : k = l.length := by omega
      have hi : ¬ (l.length : Int) < (l.length : Int) := by omega
      rw [List.take_of_length_le (Nat.le_refl _)] at HR
      go_wp2
      go_end0
      exact ⟨rfl, HR.out, HB.out⟩
end Go.Proofs.Ytjifhmlfnnagcaa
