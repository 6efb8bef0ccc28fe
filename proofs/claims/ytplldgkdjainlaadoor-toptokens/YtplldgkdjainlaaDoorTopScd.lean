/- What scanned of edicttop answers: what Scan answers, and true. -/
import Derived.Test.YtplldgkdjainlaaDoorProg
import Derived.Test.YtplldgkdjainlaaDoorTopCut
import Derived.Test.YtplldgkdjainlaaDoorTopEnds
import Derived.Test.YtplldgkdjainlaaDoorTopStT
import Derived.Test.YtplldgkdjainlaaDoorLexScan
import Derived.Test.YtplldgkdjainlaaDoorTopStk
namespace Go.Proofs.YtplldgkdjainlaaDoor
set_option linter.unusedSimpArgs false
set_option linter.unusedVariables false
open Go.RowKit

theorem scdRes (W : World) (b : Nat) (u0 u1 u2 v bv : Value) (tmps : Array Value) (h2 : tmps[2]? = some v) (h3 : tmps[3]? = some (.pointer (some ⟨b, 0, none⟩))) (h4 : tmps[4]? = some bv) (hb : W.heap[b]? = some (.cells #[u0, u1, u2] 25 (0, 0))) :
    (results Tryd.f5 tmps).run Tryd.prog W = .ok (.tuple #[v, .agg #[u0, u1, u2], bv]) W := by
  obtain ⟨c0, c1, c2, -⟩ := flt_cells hb
  simp [results, Tryd.results5, go_sem, h2, h3, h4, c0, c1, c2]
theorem own_put3 {W : World} {base : Nat} {e : TypeId} {size : Nat} {v : Value} {n : Nat} {xs : List Value} (h : W.ownsRow base e size v n xs) {b : Nat} (hb : b < base) (u0 u1 u2 : Value) : (((W.setCell ⟨b, 0, none⟩ u0).setCell ⟨b, 1, none⟩ u1).setCell ⟨b, 2, none⟩ u2).ownsRow base e size v n xs :=
  ownsRow_setCell_below (ownsRow_setCell_below (ownsRow_setCell_below h hb u0) hb u1) hb u2
theorem drew_blk {W : World} {b : Nat} {o : Option Obj} (h : W.heap[b]? = o) : W.drew.heap[b]? = o := h
theorem drew_bel {W w : World} {n : Nat} (h : Below n w W) : Below n w W.drew := ⟨h.os, h.tape, h.output, h.size, h.block⟩

set_option maxRecDepth 100000 in
set_option maxHeartbeats 1000000 in
theorem scanned_long (s : ByteArray) (w : World) (hs : s.size ≤ 140737488351232) (hlong : 65536 < s.size) (hl : LexLaid w) :
    Calls Tryd.prog 5 #[.string s] w fun e w' => e = .returned (.tuple #[.slice none 0 0, faultVal 1 0, .bool true]) ∧ Below w.heap.size w w' := by
  have hX : scanX s = ([], 1, 0) := by unfold scanX eachX; simp [hlong]
  have HB := hide (belowA w (.cells #[.int .i64 0, .int .i64 0, .int .i64 0] 25))
  have HZ : Hid ((w.alloc (.cells #[.int .i64 0, .int .i64 0, .int .i64 0] 25)).heap[w.heap.size]? = some (.cells #[.int .i64 0, .int .i64 0, .int .i64 0] 25 (0, 0))) := heap_alloc_new w _
  have HSc := hide (scan_any s (w.alloc (.cells #[.int .i64 0, .int .i64 0, .int .i64 0] 25)) (hl.kept HB.out) hs)
  rw [hX] at HSc
  have hi : (65536 : Int) < (s.size : Int) := by omega
  clear hX hl
  go_enter Tryd.func5, Tryd.ntmps5
  go_wp2_with (go_at_call 4; refine (HSc.out).mono ?_; unfold faultVal; rintro e w3 ⟨v, rfl, hrow, hb3⟩; obtain ⟨ao, cap, rfl, -, -, -⟩ := own_shape6 hrow; have HZ3 := hide ((hb3.block _ (Array.getElem?_eq_some_iff.1 HZ.out).1).trans HZ.out); have HB3 := hide (HB.out.trans (hb3.mono HB.out.size)); clear hb3 hrow; obtain ⟨x0, x1, x2, y0, y1, y2⟩ := flt_cells HZ3.out)
  obtain ⟨Y, hY⟩ : ∃ Y, Y = w3.alloc (.cells #[.int .i64 1, .int .i64 0, .int .i64 0] 25) := ⟨_, rfl⟩
  have hwz : w.heap.size < w3.heap.size := (Array.getElem?_eq_some_iff.1 HZ3.out).1
  have hne : ¬ w.heap.size = w3.heap.size := by omega
  have HBY : Hid (Below w.heap.size w Y) := by rw [hY]; exact HB3.out.trans ((belowA w3 _).mono HB3.out.size)
  have hb3 : Below w3.heap.size w3 Y := by rw [hY]; exact belowA w3 _
  have HZY := hide ((hb3.block _ (Array.getElem?_eq_some_iff.1 HZ3.out).1).trans HZ3.out)
  have d0 : Y.cell? ⟨w3.heap.size, 0, none⟩ = some (.int .i64 1) := by rw [hY]; simp
  have d1 : Y.cell? ⟨w3.heap.size, 1, none⟩ = some (.int .i64 0) := by rw [hY]; simp
  have d2 : Y.cell? ⟨w3.heap.size, 2, none⟩ = some (.int .i64 0) := by rw [hY]; simp
  obtain ⟨z0, z1, z2, u0, u1, u2⟩ := flt_cells HZY.out
  rw [← hY]
  clear hY hb3 x0 x1 x2 y0 y1 y2
  go_region
  go_wp2
  exact bodyPost_ret (scdRes _ w.heap.size _ _ _ _ _ _ rfl rfl rfl (drew_blk (flt_put HZY.out _ _ _))) rfl ⟨rfl, drew_bel (flt_bel HBY.out _ _ _)⟩

set_option maxRecDepth 100000 in
set_option maxHeartbeats 6000000 in
theorem scanned_short (s : ByteArray) (w : World) (hs : s.size ≤ 65536) (hl : LexLaid w) (htl : TopLaid w) :
    Calls Tryd.prog 5 #[.string s] w fun e w' => ∃ v, e = .returned (.tuple #[v, faultVal (scanX s).2.1 (scanX s).2.2, .bool true]) ∧ w'.ownsRow w.heap.size 32 6 v (scanX s).1.length ((scanX s).1.flatMap cells6) ∧ Below w.heap.size w w' := by
  have HB := hide (belowA w (.cells #[.int .i64 0, .int .i64 0, .int .i64 0] 25))
  have HZ : Hid ((w.alloc (.cells #[.int .i64 0, .int .i64 0, .int .i64 0] 25)).heap[w.heap.size]? = some (.cells #[.int .i64 0, .int .i64 0, .int .i64 0] 25 (0, 0))) := heap_alloc_new w _
  have HSc := hide (scan_any s (w.alloc (.cells #[.int .i64 0, .int .i64 0, .int .i64 0] 25)) (hl.kept HB.out) (by omega))
  have HTl := hide (htl.kept HB.out)
  have HTk := hide (scan_toks s hs)
  generalize scanX s = R at *
  obtain ⟨L, c, f⟩ := R
  change Hid (Calls _ _ _ _ fun e w' => ∃ v, e = .returned (.tuple #[v, faultVal c f]) ∧ w'.ownsRow _ 32 6 v L.length (L.flatMap cells6) ∧ Below _ _ w') at HSc
  change Hid (Toks s 0 L c f) at HTk
  dsimp only
  unfold faultVal at HSc ⊢
  obtain ⟨F, hF⟩ : ∃ F : Int, F = (f : Int) := ⟨_, rfl⟩
  rw [← hF] at HSc ⊢
  have HE := hide (toks_endsT HTk.out)
  have hi : ¬ (65536 : Int) < (s.size : Int) := by omega
  clear hl htl
  go_enter Tryd.func5, Tryd.ntmps5
  rcases HE.out with ⟨k, t, ht, hk, htk, rfl, hf⟩ | ⟨hk, hnx, hle⟩
  · obtain rfl : F = 0 := by omega
    clear hF hf
    have hln := toks_len HTk.out
    have hkl : (k : Int) < (L.length : Int) := by omega
    have hk0 : (0 : Int) ≤ (k : Int) := by omega
    have hn0 : (0 : Int) < (L.length : Int) := by omega
    go_wp2_with (first
      | (go_at_call 4; refine (HSc.out).mono ?_; rintro e w3 ⟨v, rfl, hrow, hb3⟩; obtain ⟨ao, cap, rfl, -, -, -⟩ := own_shape6 hrow; have HZ3 := hide ((hb3.block _ (Array.getElem?_eq_some_iff.1 HZ.out).1).trans HZ.out); have HB3 := hide (HB.out.trans (hb3.mono HB.out.size)); have HTl3 := hide (HTl.out.kept hb3); have HOw := hide hrow; clear hb3 hrow)
      | (go_at_call 9; obtain ⟨Y, hY⟩ : ∃ Y, Y = w3.alloc (.cells #[.int .i64 0, .int .i64 0, .int .i64 0] 25) := ⟨_, rfl⟩; have hw3 : w.heap.size < w3.heap.size := (Array.getElem?_eq_some_iff.1 HZ3.out).1; have hb3 : Below w3.heap.size w3 Y := (by rw [hY]; exact belowA w3 _); have HZY := hide ((hb3.block _ (Array.getElem?_eq_some_iff.1 HZ3.out).1).trans HZ3.out); have HBY := hide (HB3.out.trans (hb3.mono HB3.out.size)); have HTlY := hide (HTl3.out.kept hb3); have HOY := hide (show Y.ownsRow _ _ _ _ _ _ from (by rw [hY]; exact World.ownsRow.alloc HOw.out _)); have HFY : Hid (Y.heap[w3.heap.size]? = some (.cells #[.int .i64 0, .int .i64 0, .int .i64 0] 25 (0, 0))) := (by show _ = _; rw [hY]; exact heap_alloc_new w3 _); rw [← hY]; clear hY hb3; refine (cut_any s L 0 f _ _ Y hs HTlY.out HTk.out HOY.out).mono ?_; rintro e w4 ⟨rfl, hb4⟩; have HZ4 := hide ((hb4.block _ (Array.getElem?_eq_some_iff.1 HZY.out).1).trans HZY.out); have HF4 := hide ((hb4.block _ (Array.getElem?_eq_some_iff.1 HFY.out).1).trans HFY.out); have HB4 := hide (HBY.out.trans (hb4.mono HBY.out.size)); have HO4 := hide (own_kept6 HOY.out hb4); clear hb4; obtain ⟨x0, x1, x2, y0, y1, y2⟩ := flt_cells HZ4.out; obtain ⟨z0, z1, z2, -, -, -⟩ := flt_cells HF4.out; obtain ⟨g, cp, hgv, -, -, hcells⟩ := own_toks HO4.out (by omega); cases hgv; have c0 := (hcells k t ht).1; rw [htk, show k = L.length - 1 by omega] at c0; clear hcells))

    go_region
    go_wp2
    exact bodyPost_ret (scdRes _ w.heap.size _ _ _ _ _ _ rfl rfl rfl (drew_blk (flt_put HZ4.out _ _ _))) rfl ⟨_, rfl, own_drew (own_mono (by simp) (own_put3 HO4.out (by simp) _ _ _)), drew_bel (flt_bel HB4.out _ _ _)⟩
  · have hc10 := bad_code hnx
    have HSt := hide (fun W => stuck_bad s (endOf 0 L) c f W (by omega) hle hnx)
    rw [← hF] at HSt
    have e0 : (c == 0) = false := by simp; omega
    clear hF hnx hle hc10
    have hln := toks_len HTk.out
    rcases Nat.eq_zero_or_pos L.length with hz | hz
    · obtain rfl : L = [] := List.eq_nil_of_length_eq_zero hz
      change Hid (Calls _ _ _ _ fun e w' => ∃ v, e = .returned (.tuple #[v, .agg #[.int .i64 c, .int .i64 0, .int .i64 F]]) ∧ w'.ownsRow _ 32 6 v 0 [] ∧ Below _ _ w') at HSc
      clear hk hz hln
      go_wp2_with (first
        | (go_at_call 4; refine (HSc.out).mono ?_; rintro e w3 ⟨v, rfl, hrow, hb3⟩; obtain ⟨ao, cap, rfl, -, -, -⟩ := own_shape6 hrow; have HZ3 := hide ((hb3.block _ (Array.getElem?_eq_some_iff.1 HZ.out).1).trans HZ.out); have HB3 := hide (HB.out.trans (hb3.mono HB.out.size)); have HTl3 := hide (HTl.out.kept hb3); have HOw := hide hrow; clear hb3 hrow)
        | (go_at_call 9; obtain ⟨Y, hY⟩ : ∃ Y, Y = w3.alloc (.cells #[.int .i64 c, .int .i64 0, .int .i64 F] 25) := ⟨_, rfl⟩; have hw3 : w.heap.size < w3.heap.size := (Array.getElem?_eq_some_iff.1 HZ3.out).1; have hb3 : Below w3.heap.size w3 Y := (by rw [hY]; exact belowA w3 _); have HZY := hide ((hb3.block _ (Array.getElem?_eq_some_iff.1 HZ3.out).1).trans HZ3.out); have HBY := hide (HB3.out.trans (hb3.mono HB3.out.size)); have HTlY := hide (HTl3.out.kept hb3); have HOY := hide (show Y.ownsRow _ _ _ _ _ _ from (by rw [hY]; exact World.ownsRow.alloc HOw.out _)); have HFY : Hid (Y.heap[w3.heap.size]? = some (.cells #[.int .i64 c, .int .i64 0, .int .i64 F] 25 (0, 0))) := (by show _ = _; rw [hY]; exact heap_alloc_new w3 _); rw [← hY]; clear hY hb3; refine (cut_any s [] c f _ _ Y hs HTlY.out HTk.out (show Y.ownsRow _ _ 6 _ ([] : List Tok).length (([] : List Tok).flatMap cells6) from HOY.out)).mono ?_; rintro e w4 ⟨rfl, hb4⟩; have HZ4 := hide ((hb4.block _ (Array.getElem?_eq_some_iff.1 HZY.out).1).trans HZY.out); have HF4 := hide ((hb4.block _ (Array.getElem?_eq_some_iff.1 HFY.out).1).trans HFY.out); have HB4 := hide (HBY.out.trans (hb4.mono HBY.out.size)); have HO4 := hide (own_kept6 HOY.out hb4); clear hb4; obtain ⟨x0, x1, x2, y0, y1, y2⟩ := flt_cells HZ4.out; obtain ⟨z0, z1, z2, -, -, -⟩ := flt_cells HF4.out))
      go_region_with (go_at_call 10; refine (HSt.out _).mono ?_; rintro e w5 ⟨rfl, hb5⟩; have hb5 : Below w4.heap.size w4 w5 := (below_drewN _ w4 1).trans hb5; have HZ5 := hide ((hb5.block _ (Array.getElem?_eq_some_iff.1 HZ4.out).1).trans HZ4.out); have HB5 := hide (HB4.out.trans (hb5.mono HB4.out.size)); have HO5 := hide (own_kept6 HO4.out hb5); have HF5 := hide ((hb5.block _ (Array.getElem?_eq_some_iff.1 HF4.out).1).trans HF4.out); clear hb5 x0 x1 x2 y0 y1 y2; obtain ⟨zz0, zz1, zz2, -, -, -⟩ := flt_cells HF5.out; obtain ⟨x0, x1, x2, y0, y1, y2⟩ := flt_cells HZ5.out)
      all_goals (try go_wp2)
      all_goals (first | exact bodyPost_ret (scdRes _ w.heap.size _ _ _ _ _ _ rfl rfl rfl (flt_put HZ5.out _ _ _)) rfl ⟨_, rfl, own_mono (by simp) (own_put3 HO5.out (by simp) _ _ _), flt_bel HB5.out _ _ _⟩ | exact bodyPost_ret (scdRes _ w.heap.size _ _ _ _ _ _ rfl rfl rfl (drew_blk (flt_put HZ5.out _ _ _))) rfl ⟨_, rfl, own_drew (own_mono (by simp) (own_put3 HO5.out (by simp) _ _ _)), drew_bel (flt_bel HB5.out _ _ _)⟩)
    · obtain ⟨t, ht⟩ : ∃ t, L[L.length - 1]? = some t := ⟨_, List.getElem?_eq_getElem (by omega)⟩
      have htk := hk _ t ht (by omega)
      have e1 : (t.k == 0) = false := by simpa using htk
      obtain ⟨k, hkk⟩ : ∃ k, k = L.length - 1 := ⟨_, rfl⟩
      rw [← hkk] at ht
      have hkl : (k : Int) < (L.length : Int) := by omega
      have hk0 : (0 : Int) ≤ (k : Int) := by omega
      have hn0 : (0 : Int) < (L.length : Int) := by omega
      clear hk htk
      go_wp2_with (first
        | (go_at_call 4; refine (HSc.out).mono ?_; rintro e w3 ⟨v, rfl, hrow, hb3⟩; obtain ⟨ao, cap, rfl, -, -, -⟩ := own_shape6 hrow; have HZ3 := hide ((hb3.block _ (Array.getElem?_eq_some_iff.1 HZ.out).1).trans HZ.out); have HB3 := hide (HB.out.trans (hb3.mono HB.out.size)); have HTl3 := hide (HTl.out.kept hb3); have HOw := hide hrow; clear hb3 hrow)
        | (go_at_call 9; obtain ⟨Y, hY⟩ : ∃ Y, Y = w3.alloc (.cells #[.int .i64 c, .int .i64 0, .int .i64 F] 25) := ⟨_, rfl⟩; have hw3 : w.heap.size < w3.heap.size := (Array.getElem?_eq_some_iff.1 HZ3.out).1; have hb3 : Below w3.heap.size w3 Y := (by rw [hY]; exact belowA w3 _); have HZY := hide ((hb3.block _ (Array.getElem?_eq_some_iff.1 HZ3.out).1).trans HZ3.out); have HBY := hide (HB3.out.trans (hb3.mono HB3.out.size)); have HTlY := hide (HTl3.out.kept hb3); have HOY := hide (show Y.ownsRow _ _ _ _ _ _ from (by rw [hY]; exact World.ownsRow.alloc HOw.out _)); have HFY : Hid (Y.heap[w3.heap.size]? = some (.cells #[.int .i64 c, .int .i64 0, .int .i64 F] 25 (0, 0))) := (by show _ = _; rw [hY]; exact heap_alloc_new w3 _); rw [← hY]; clear hY hb3; refine (cut_any s L c f _ _ Y hs HTlY.out HTk.out HOY.out).mono ?_; rintro e w4 ⟨rfl, hb4⟩; have HZ4 := hide ((hb4.block _ (Array.getElem?_eq_some_iff.1 HZY.out).1).trans HZY.out); have HF4 := hide ((hb4.block _ (Array.getElem?_eq_some_iff.1 HFY.out).1).trans HFY.out); have HB4 := hide (HBY.out.trans (hb4.mono HBY.out.size)); have HO4 := hide (own_kept6 HOY.out hb4); clear hb4; obtain ⟨x0, x1, x2, y0, y1, y2⟩ := flt_cells HZ4.out; obtain ⟨z0, z1, z2, -, -, -⟩ := flt_cells HF4.out; obtain ⟨g, cp, hgv, -, -, hcells⟩ := own_toks HO4.out (by omega); cases hgv; have c0 := (hcells k t ht).1; rw [show k = L.length - 1 by omega] at c0; clear hcells))
      go_region_with (go_at_call 10; refine (HSt.out _).mono ?_; rintro e w5 ⟨rfl, hb5⟩; have hb5 : Below w4.heap.size w4 w5 := (below_drewN _ w4 1).trans hb5; have HZ5 := hide ((hb5.block _ (Array.getElem?_eq_some_iff.1 HZ4.out).1).trans HZ4.out); have HB5 := hide (HB4.out.trans (hb5.mono HB4.out.size)); have HO5 := hide (own_kept6 HO4.out hb5); have HF5 := hide ((hb5.block _ (Array.getElem?_eq_some_iff.1 HF4.out).1).trans HF4.out); clear hb5 x0 x1 x2 y0 y1 y2; obtain ⟨zz0, zz1, zz2, -, -, -⟩ := flt_cells HF5.out; obtain ⟨x0, x1, x2, y0, y1, y2⟩ := flt_cells HZ5.out)
      all_goals (try go_wp2)
      all_goals (first | exact bodyPost_ret (scdRes _ w.heap.size _ _ _ _ _ _ rfl rfl rfl (flt_put HZ5.out _ _ _)) rfl ⟨_, rfl, own_mono (by simp) (own_put3 HO5.out (by simp) _ _ _), flt_bel HB5.out _ _ _⟩ | exact bodyPost_ret (scdRes _ w.heap.size _ _ _ _ _ _ rfl rfl rfl (drew_blk (flt_put HZ5.out _ _ _))) rfl ⟨_, rfl, own_drew (own_mono (by simp) (own_put3 HO5.out (by simp) _ _ _)), drew_bel (flt_bel HB5.out _ _ _)⟩)
end Go.Proofs.YtplldgkdjainlaaDoor
