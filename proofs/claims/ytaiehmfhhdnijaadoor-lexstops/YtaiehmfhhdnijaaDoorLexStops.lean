/- edictlaw02.LexStops returns true: Each is Scan, up to where it is stopped. -/
import Derived.Test.YtaiehmfhhdnijaaDoorProg
import Derived.Test.YtaiehmfhhdnijaaDoorLexStopsTools
namespace Go.Proofs.YtaiehmfhhdnijaaDoor
set_option linter.unusedSimpArgs false
set_option linter.unusedVariables false
open Go.RowKit
attribute [local go_sem] over_cellAt over_frozenAt over_setAt

theorem fault_same (c f : Int) (w : World) : (binOp .neq 31 (.agg #[.int .i64 c, .int .i64 0, .int .i64 f]) (.agg #[.int .i64 c, .int .i64 0, .int .i64 f])).run Tryd.prog w = .ok (.bool false) w := by
  have h1 := run_equalIn_struct (P := Tryd.prog) w 9999 31 #[.int .i64 c, .int .i64 0, .int .i64 f] #[.int .i64 c, .int .i64 0, .int .i64 f] (by kernel_rfl) (by kernel_rfl)
  simp only [binOp]
  simp only [Op.equal, Op.maxDepth, Sem.run_bind]
  go_simp
theorem fault_eq (c f : Int) (w : World) : (binOp .eql 31 (.agg #[.int .i64 c, .int .i64 0, .int .i64 f]) (.agg #[.int .i64 c, .int .i64 0, .int .i64 f])).run Tryd.prog w = .ok (.bool true) w := by
  have h1 := run_equalIn_struct (P := Tryd.prog) w 9999 31 #[.int .i64 c, .int .i64 0, .int .i64 f] #[.int .i64 c, .int .i64 0, .int .i64 f] (by kernel_rfl) (by kernel_rfl)
  simp only [binOp]
  simp only [Op.equal, Op.maxDepth, Sem.run_bind]
  go_simp

theorem own_cap {w : World} {base e size g n m cap : Nat} {xs : List Value} (h : w.ownsRow base e size (.slice (some ⟨g, 0, none⟩) n cap) m xs) : n ≤ cap := by
  rcases h.2 with ⟨h0, _⟩ | ⟨g', cap', cur, hv, _, _, h1, _⟩
  · cases h0
  · cases hv; exact h1

theorem take_isToks {w : World} {g cp : Nat} {L : List Tok} (h : ∀ i t, L[i]? = some t → TokAt w g (i * 6) t) (k : Nat) (hk : k ≤ L.length) : IsToks w (.slice (some ⟨g, 0, none⟩) k cp) (L.take k) :=
  ⟨_, cp, by rw [List.length_take, Nat.min_eq_left hk], fun _ => ⟨g, rfl, fun i t hi => h i t (by rw [List.getElem?_take] at hi; split at hi; exact hi; cases hi)⟩⟩

set_option maxHeartbeats 2000000 in
set_option maxRecDepth 100000 in
theorem lexStops_walk (s : ByteArray) (stop : Int) (w : World) (hs : s.size ≤ 140737488351232) (hst : -9223372036854775808 ≤ stop ∧ stop ≤ 9223372036854775807) (hl : LexLaid w) :
    Calls Tryd.prog 5 #[.string s, .int .i64 stop] w fun e w' => e = .returned (.bool true) ∧ Below w.heap.size w w' := by
  have HH := hide (fun W => head_any s W hs)
  obtain ⟨hT2, hT6⟩ := head_size s
  obtain ⟨r, hr, -⟩ := head_begun s
  have T := scan_toks (headS s) hT6
  have hstops := stops_scan (headS s) stop hT6
  generalize headS s = T0 at *
  have hlen := toks_len T
  have hL0 : 0 < (scanX T0).1.length := by rw [hr]; simp
  have h0 : (scanX T0).1[0]? = some aTok := by rw [hr]; rfl
  have HS := hide (fun W hW => scan_any T0 W hW (by omega))
  have HNil := hide (fun W hW => each_nil T0 W hW (by omega))
  have HEach := hide (fun f cb p v0 W eg hY hW hp hC => each_any T0 f cb p (stopAns stop) v0 W eg hY hW hp (by omega) hC)
  rw [hstops] at HEach
  clear hr T hstops
  generalize scanX T0 = R at *
  obtain ⟨L, c, f⟩ := R
  simp only at hL0 h0 hlen HS HNil HEach
  obtain ⟨n, hn⟩ : ∃ n, n = L.length := ⟨_, rfl⟩
  have hn1 : n ≤ 65537 := by omega
  have hn0 : 0 < n := by omega
  have HN := hide hn
  have HL := hide hl
  have H0 := hide h0
  have HL0 := hide hL0
  clear hlen hL0 h0 hn hl hs
  unfold faultVal at HS HNil HEach
  have hb3 : w.cell? ⟨w.heap.size, 0, none⟩ = none := by simp [World.cell?]
  clear hb3
  go_enter Tryd.func5, Tryd.ntmps5
  go_wp2_with (first
    | (go_at_call 14; refine (HH.out _).mono ?_; rintro e w' ⟨rfl, hw'⟩; have hw' := hw'.symm; subst hw')
    | (go_at_call 12; refine (HS.out _ (HL.out.kept ((Below.refl _ _).alloc (Nat.le_refl _) _))).mono ?_; rintro e w1 ⟨v, rfl, hown, hb1⟩; obtain ⟨g, cp, rfl, hg1, hg2, hrow⟩ := own_toks hown HL0.out; have HCap := hide (own_cap hown); rw [← HN.out] at HCap; rw [← HN.out]; have HRow : Hid (∀ i t, L[i]? = some t → TokAt w1 g (i * 6) t) := hrow; have HB1 := hide hb1; clear hown hrow hb1)
    | (go_at_call 15; refine (begun_any g n cp _ hn0 ((HRow.out 0 aTok H0.out).kept ((Below.refl _ _).alloc (Nat.le_refl _) _))).mono ?_; rintro e w' ⟨rfl, hw'⟩; have hw' := hw'.symm; subst hw'))
  have hVb : Below w1.heap.size w1 ((w1.alloc (.cells #[.int .i64 c, .int .i64 0, .int .i64 (f : Int)] 31)).alloc (.cells #[.slice none 0 0] 28)) := below2 w1 _ _
  have hw1 : w.heap.size + 1 ≤ w1.heap.size := by have := HB1.out.size; simpa using this
  have hq1 : w1.heap[w.heap.size]? = some (.cells #[.int .i64 stop] 3 (0, 0)) := by
    rw [HB1.out.block w.heap.size (by simp)]; exact heap_alloc_new w _
  have hqV : ((w1.alloc (.cells #[.int .i64 c, .int .i64 0, .int .i64 (f : Int)] 31)).alloc (.cells #[.slice none 0 0] 28)).heap[w.heap.size]? = some (.cells #[.int .i64 stop] 3 (0, 0)) := by
    rw [hVb.block w.heap.size (by omega)]; exact hq1
  have hwV : Below w.heap.size w ((w1.alloc (.cells #[.int .i64 c, .int .i64 0, .int .i64 (f : Int)] 31)).alloc (.cells #[.slice none 0 0] 28)) := by
    have h1 : Below w.heap.size w w1 := ((Below.refl _ _).alloc (Nat.le_refl _) _).trans (HB1.out.mono (by simp))
    exact h1.trans (hVb.mono h1.size)
  have hY : Collects 17 #[.pointer (some ⟨w1.heap.size + 1, 0, none⟩), .pointer (some ⟨w.heap.size, 0, none⟩)] (w1.heap.size + 1) (stopAns stop) ((w1.alloc (.cells #[.int .i64 c, .int .i64 0, .int .i64 (f : Int)] 31)).alloc (.cells #[.slice none 0 0] 28)) := fun W v L t h hL hB =>
    stops1_any W (w1.heap.size + 1) w.heap.size stop v L t h hL (by omega) (by
      have : W.heap[w.heap.size]? = some (.cells #[.int .i64 stop] 3 (0, 0)) := by rw [hB.block w.heap.size (by omega)]; exact hqV
      simp [World.cell?, this])
  have eg : ∀ args w, (callFunc 17 args).run Tryd.prog w = .ok (.enter 17 args) w := enters_of Tryd.func17 (by kernel_rfl) rfl
  have hgl : 0 < w.heap.size ∧ 1 < w.heap.size ∧ 2 < w.heap.size := by
    refine ⟨lt_of_cell (HL.out.marks 0 _ rfl), ?_, ?_⟩
    · obtain ⟨t, q, e⟩ := HL.out.syn; exact lt_of_cell e
    · obtain ⟨t, q, e⟩ := HL.out.rng; exact lt_of_cell e
  have HE := hide (HEach.out 17 #[.pointer (some ⟨w1.heap.size + 1, 0, none⟩), .pointer (some ⟨w.heap.size, 0, none⟩)] (w1.heap.size + 1) (.slice none 0 0) _ eg hY (HL.out.kept hwV) (by omega) (coll_start w1 _))
  have hb7 : box3 w1.heap.size ((w1.alloc (.cells #[.int .i64 c, .int .i64 0, .int .i64 (f : Int)] 31)).alloc (.cells #[.slice none 0 0] 28)) c 0 f := by
    have h1 : box3 w1.heap.size (w1.alloc (.cells #[.int .i64 c, .int .i64 0, .int .i64 (f : Int)] 31)) c 0 f := heap_alloc_new w1 _
    exact h1.kept ((Below.refl _ _).alloc (Nat.le_refl _) _)
  have HQV := hide hqV
  have HWV := hide hwV
  have HB7 := hide hb7
  have HVb := hide hVb
  clear hVb hq1 hqV hwV hY eg hgl hb7 HEach HS HH
  by_cases hk : stop.toNat < L.length
  · rw [if_pos hk] at HE
    go_wp2_with (go_at_call 16; refine HE.out.mono ?_; rintro e X ⟨rfl, v', hcx, hbx⟩; have HCX := hide hcx; have HBX := hide hbx; clear hcx hbx HE)
    have hb7 : box3 w1.heap.size X c 0 f := by
      have h := HB7.out
      unfold box3 at h ⊢
      rw [HBX.out.block w1.heap.size (by omega)]; exact h
    have hq3 : X.heap[w.heap.size]? = some (.cells #[.int .i64 stop] 3 (0, 0)) := by rw [HBX.out.block w.heap.size (by omega)]; exact HQV.out
    have hq3c : X.cell? ⟨w.heap.size, 0, none⟩ = some (.int .i64 stop) := by simp [World.cell?, hq3]
    have hq3f : X.frozen? ⟨w.heap.size, 0, none⟩ = false := by simp [World.frozen?, hq3]
    have hrowX : ∀ i t, L[i]? = some t → TokAt X g (i * 6) t := fun i t hi => by
      have h := (HRow.out i t hi).kept HVb.out
      exact ⟨below_cell HBX.out h.c0 (by show g < _; omega), below_cell HBX.out h.c1 (by show g < _; omega), below_cell HBX.out h.c2 (by show g < _; omega), below_cell HBX.out h.c3 (by show g < _; omega), below_cell HBX.out h.c4 (by show g < _; omega), below_cell HBX.out h.c5 (by show g < _; omega)⟩
    have hpc := HCX.out.cell
    have hplt := HCX.out.lt
    obtain ⟨y0, y1, y2, _, _, _, y6⟩ := hb7.cells
    have hwX : Below w.heap.size w X := HWV.out.trans (HBX.out.mono (by omega))
    have hlaid : LexLaid X := HL.out.kept hwX
    have hUX : Below X.heap.size X (X.alloc (.cells #[.int .i64 0, .int .i64 0, .int .i64 ((0 : Nat) : Int)] 31)) := (Below.refl _ _).alloc (Nat.le_refl _) _
    have HNil2 : Hid (∀ y, Calls Tryd.prog 16 #[.string T0, .nilFunc] (over (X.alloc (.cells #[.int .i64 0, .int .i64 0, .int .i64 ((0 : Nat) : Int)] 31)) y) fun e w' => e = .returned (.agg #[.int .i64 c, .int .i64 0, .int .i64 (f : Int)]) ∧ Below (over (X.alloc (.cells #[.int .i64 0, .int .i64 0, .int .i64 ((0 : Nat) : Int)] 31)) y).heap.size (over (X.alloc (.cells #[.int .i64 0, .int .i64 0, .int .i64 ((0 : Nat) : Int)] 31)) y) w') := fun y =>
      HNil.out _ ((hlaid.kept hUX).kept (over_below _ y))
    have HRX := hide hrowX
    have HWX := hide hwX
    have HUX := hide hUX
    have HQ3 := hide hq3
    have HTok := hide (own_isToks HCX.out.row)
    clear hrowX hb7 hwX hlaid hUX hq3
    refine wp_region_over (fun W => W = X.alloc (.cells #[.int .i64 0, .int .i64 0, .int .i64 ((0 : Nat) : Int)] 31)) (by kernel_rfl) (by kernel_rfl) rfl ?_
    rintro W rfl
    have d0 := over_cell (kept_cell HUX.out y0)
    have d1 := over_cell (kept_cell HUX.out y1)
    have d2 := over_cell (kept_cell HUX.out y2)
    have hfs := fault_same c f
    repeat (go_big_quiet_step (first | (go_at_call 16; exact calls_over (HNil2.out _))))
    refine wpQuiet_nil ?_
    rintro _ ⟨y, rfl⟩
    obtain ⟨Y, hY⟩ : ∃ Y, Y = over (X.alloc (.cells #[.int .i64 0, .int .i64 0, .int .i64 ((0 : Nat) : Int)] 31)) y := ⟨_, rfl⟩
    have hYb : Below (X.alloc (.cells #[.int .i64 0, .int .i64 0, .int .i64 ((0 : Nat) : Int)] 31)).heap.size (X.alloc (.cells #[.int .i64 0, .int .i64 0, .int .i64 ((0 : Nat) : Int)] 31)) Y := hY ▸ over_below _ y
    have hYX : Below X.heap.size X Y := HUX.out.trans (hYb.mono (by simp))
    have a0 : Y.cell? ⟨X.heap.size, 0, none⟩ = some (.int .i64 0) := kept_cell hYb (by simp)
    have a1 : Y.cell? ⟨X.heap.size, 1, none⟩ = some (.int .i64 0) := kept_cell hYb (by simp)
    have a2 : Y.cell? ⟨X.heap.size, 2, none⟩ = some (.int .i64 ((0 : Nat) : Int)) := kept_cell hYb (by simp)
    have b0 := kept_cell hYX hq3c
    have b1 : Y.frozen? ⟨w.heap.size, 0, none⟩ = false := by rw [hYX.frozen (by show w.heap.size < _; omega)]; exact hq3f
    have b2 := kept_cell hYX hpc
    have k0 := kept_cell hYX y0
    have k1 := kept_cell hYX y1
    have k2 := kept_cell hYX y2
    have HYX := hide hYX
    have HTY := hide (HTok.out.kept hYX)
    have HWY := hide (HWX.out.trans (hYX.mono HWX.out.size))
    rw [← hY]
    clear hY hYb hYX d0 d1 d2 y0 y1 y2 hpc hq3c hq3f
    have hkn : stop.toNat < n := by rw [HN.out]; exact hk
    have hcap := HCap.out
    have hfe := fault_eq 0 0
    by_cases hneg : stop < 0
    · have hz : stop.toNat = 0 := by omega
      rw [hz] at HTY HCX
      have hn0' : (0 : Int) < (n : Int) := by omega
      have hc1 : (1 : Int) ≤ (cp : Int) := by omega
      have m1 : ¬ X.heap.size = w.heap.size := by omega
      have m2 : ¬ w1.heap.size + 1 = w.heap.size := by omega
      clear hfs
      go_wp2
      obtain ⟨Z, hZ⟩ : ∃ Z, Z = Y.setCell ⟨w.heap.size, 0, none⟩ (.int .i64 0) := ⟨_, rfl⟩
      have hZb : ∀ j, j ≠ w.heap.size → Z.heap[j]? = Y.heap[j]? := fun j hj => by rw [hZ]; exact Below.heap_setCell _ _ _ _ hj
      have hZc : ∀ j o, j ≠ w.heap.size → Z.cell? ⟨j, o, none⟩ = Y.cell? ⟨j, o, none⟩ := fun j o hj => World.cell?_of_block (w := Y) (hZb j hj)
      have hZ3 : Z.cell? ⟨w.heap.size, 0, none⟩ = some (.int .i64 0) := by
        have h3 : Y.heap[w.heap.size]? = some (.cells #[.int .i64 stop] 3 (0, 0)) := by rw [HYX.out.block w.heap.size (by omega)]; exact HQ3.out
        rw [hZ]
        simp [World.cell?, World.setCell, Array.getElem?_modify, h3]
      have hgne : g ≠ w.heap.size := by have := hg1; simp at this; omega
      have hTZ : IsToks Z v' (L.take (0 + 1)) := by
        have ho := own_kept HCX.out.row HYX.out
        refine own_isToks (base := w1.heap.size + 1) ⟨ho.1, ?_⟩
        rcases ho.2 with h0 | ⟨g', cap', cur, hv, hbase, hblk, rest⟩
        · exact .inl h0
        · exact .inr ⟨g', cap', cur, hv, hbase, by rw [hZb g' (by omega)]; exact hblk, rest⟩
      have hLZ : ∀ i t, L[i]? = some t → TokAt Z g (i * 6) t := fun i t hi => by
        have h := (HRX.out i t hi).kept HYX.out
        exact ⟨by rw [hZc _ _ hgne]; exact h.c0, by rw [hZc _ _ hgne]; exact h.c1, by rw [hZc _ _ hgne]; exact h.c2, by rw [hZc _ _ hgne]; exact h.c3, by rw [hZc _ _ hgne]; exact h.c4, by rw [hZc _ _ hgne]; exact h.c5⟩
      have HSame : Hid (∀ y, Calls Tryd.prog 18 #[v', .slice (some ⟨g, 0, none⟩) 1 cp] (over Z y) fun e w' => e = .returned (.bool true) ∧ Below (over Z y).heap.size (over Z y) w') := fun y =>
        same_self _ _ (L.take 1) _ (by rw [List.length_take]; omega) (hTZ.kept (over_below Z y)) ((take_isToks hLZ 1 (by omega)).kept (over_below Z y))
      have HWZ : Hid (Below w.heap.size w Z) := by rw [hZ]; exact HWY.out.setCell (p := ⟨w.heap.size, 0, none⟩) (Nat.le_refl _) _
      have d0 := over_cell ((hZc X.heap.size 0 (by omega)).trans a0)
      have d1 := over_cell ((hZc X.heap.size 1 (by omega)).trans a1)
      have d2 := over_cell ((hZc X.heap.size 2 (by omega)).trans a2)
      have d3 := over_cell hZ3
      have d4 := over_cell ((hZc (w1.heap.size + 1) 0 (by omega)).trans b2)
      rw [← hZ]
      clear hZ hZb hZc hZ3 hTZ hLZ a0 a1 a2 b0 b1 b2 k0 k1 k2 hneg hz
      refine wp_region_over (fun W => W = Z) (by kernel_rfl) (by kernel_rfl) rfl ?_
      rintro W rfl
      repeat (go_big_quiet_step (first | (go_at_call 18; exact calls_over (HSame.out _))))
      refine wpQuiet_nil ?_
      rintro _ ⟨z, rfl⟩
      go_wp2
      go_ret
      exact ⟨rfl, HWZ.out.trans ((over_below _ z).mono HWZ.out.size)⟩
    · obtain ⟨k, rfl⟩ : ∃ k : Nat, stop = k := ⟨stop.toNat, by omega⟩
      simp only [Int.toNat_natCast] at hk hkn HTY
      have hkn' : (k : Int) < (n : Int) := by omega
      have hkc : (k : Int) + 1 ≤ (cp : Int) := by omega
      clear hfs
      go_wp2
      have HSame : Hid (∀ y, Calls Tryd.prog 18 #[v', .slice (some ⟨g, 0, none⟩) (k + 1) cp] (over Y y) fun e w' => e = .returned (.bool true) ∧ Below (over Y y).heap.size (over Y y) w') := fun y =>
        same_self _ _ (L.take (k + 1)) _ (by rw [List.length_take]; omega) (HTY.out.kept (over_below Y y)) ((take_isToks (fun i t hi => (HRX.out i t hi).kept HYX.out) (k + 1) (by omega)).kept (over_below Y y))
      refine wp_region_over (fun W => W = Y) (by kernel_rfl) (by kernel_rfl) rfl ?_
      rintro W rfl
      have d0 := over_cell a0
      have d1 := over_cell a1
      have d2 := over_cell a2
      have d3 := over_cell b0
      have d4 := over_cell b2
      clear a0 a1 a2 b0 b1 b2 k0 k1 k2
      repeat (go_big_quiet_step (first | (go_at_call 18; exact calls_over (HSame.out _))))
      refine wpQuiet_nil ?_
      rintro _ ⟨z, rfl⟩
      go_wp2
      go_ret
      exact ⟨rfl, HWY.out.trans ((over_below _ z).mono HWY.out.size)⟩
  · rw [if_neg hk] at HE
    go_wp2_with (go_at_call 16; refine HE.out.mono ?_; rintro e X ⟨rfl, v', hcx, hbx⟩; have HCX := hide hcx; have HBX := hide hbx; clear hcx hbx HE)
    have hb7 : box3 w1.heap.size X c 0 f := by
      have h := HB7.out
      unfold box3 at h ⊢
      rw [HBX.out.block w1.heap.size (by omega)]; exact h
    have hq3 : X.heap[w.heap.size]? = some (.cells #[.int .i64 stop] 3 (0, 0)) := by rw [HBX.out.block w.heap.size (by omega)]; exact HQV.out
    have hq3c : X.cell? ⟨w.heap.size, 0, none⟩ = some (.int .i64 stop) := by simp [World.cell?, hq3]
    have hq3f : X.frozen? ⟨w.heap.size, 0, none⟩ = false := by simp [World.frozen?, hq3]
    have hrowX : ∀ i t, L[i]? = some t → TokAt X g (i * 6) t := fun i t hi => by
      have h := (HRow.out i t hi).kept HVb.out
      exact ⟨below_cell HBX.out h.c0 (by show g < _; omega), below_cell HBX.out h.c1 (by show g < _; omega), below_cell HBX.out h.c2 (by show g < _; omega), below_cell HBX.out h.c3 (by show g < _; omega), below_cell HBX.out h.c4 (by show g < _; omega), below_cell HBX.out h.c5 (by show g < _; omega)⟩
    have hpc := HCX.out.cell
    have hplt := HCX.out.lt
    obtain ⟨y0, y1, y2, _, _, _, y6⟩ := hb7.cells
    have hwX : Below w.heap.size w X := HWV.out.trans (HBX.out.mono (by omega))
    have hlaid : LexLaid X := HL.out.kept hwX
    have hUX : Below X.heap.size X (X.alloc (.cells #[.int .i64 c, .int .i64 0, .int .i64 (f : Int)] 31)) := (Below.refl _ _).alloc (Nat.le_refl _) _
    have HNil2 : Hid (∀ y, Calls Tryd.prog 16 #[.string T0, .nilFunc] (over (X.alloc (.cells #[.int .i64 c, .int .i64 0, .int .i64 (f : Int)] 31)) y) fun e w' => e = .returned (.agg #[.int .i64 c, .int .i64 0, .int .i64 (f : Int)]) ∧ Below (over (X.alloc (.cells #[.int .i64 c, .int .i64 0, .int .i64 (f : Int)] 31)) y).heap.size (over (X.alloc (.cells #[.int .i64 c, .int .i64 0, .int .i64 (f : Int)] 31)) y) w') := fun y =>
      HNil.out _ ((hlaid.kept hUX).kept (over_below _ y))
    have HRX := hide hrowX
    have HWX := hide hwX
    have HUX := hide hUX
    have HQ3 := hide hq3
    have HTok := hide (own_isToks HCX.out.row)
    clear hrowX hb7 hwX hlaid hUX hq3
    refine wp_region_over (fun W => W = X.alloc (.cells #[.int .i64 c, .int .i64 0, .int .i64 (f : Int)] 31)) (by kernel_rfl) (by kernel_rfl) rfl ?_
    rintro W rfl
    have d0 := over_cell (kept_cell HUX.out y0)
    have d1 := over_cell (kept_cell HUX.out y1)
    have d2 := over_cell (kept_cell HUX.out y2)
    have hfs := fault_same c f
    repeat (go_big_quiet_step (first | (go_at_call 16; exact calls_over (HNil2.out _))))
    refine wpQuiet_nil ?_
    rintro _ ⟨y, rfl⟩
    obtain ⟨Y, hY⟩ : ∃ Y, Y = over (X.alloc (.cells #[.int .i64 c, .int .i64 0, .int .i64 (f : Int)] 31)) y := ⟨_, rfl⟩
    have hYb : Below (X.alloc (.cells #[.int .i64 c, .int .i64 0, .int .i64 (f : Int)] 31)).heap.size (X.alloc (.cells #[.int .i64 c, .int .i64 0, .int .i64 (f : Int)] 31)) Y := hY ▸ over_below _ y
    have hYX : Below X.heap.size X Y := HUX.out.trans (hYb.mono (by simp))
    have a0 : Y.cell? ⟨X.heap.size, 0, none⟩ = some (.int .i64 c) := kept_cell hYb (by simp)
    have a1 : Y.cell? ⟨X.heap.size, 1, none⟩ = some (.int .i64 0) := kept_cell hYb (by simp)
    have a2 : Y.cell? ⟨X.heap.size, 2, none⟩ = some (.int .i64 (f : Int)) := kept_cell hYb (by simp)
    have b0 := kept_cell hYX hq3c
    have b1 : Y.frozen? ⟨w.heap.size, 0, none⟩ = false := by rw [hYX.frozen (by show w.heap.size < _; omega)]; exact hq3f
    have b2 := kept_cell hYX hpc
    have k0 := kept_cell hYX y0
    have k1 := kept_cell hYX y1
    have k2 := kept_cell hYX y2
    have HYX := hide hYX
    have HTY := hide (HTok.out.kept hYX)
    have HWY := hide (HWX.out.trans (hYX.mono HWX.out.size))
    rw [← hY]
    clear hY hYb hYX d0 d1 d2 y0 y1 y2 hpc hq3c hq3f
    have hkn : n ≤ stop.toNat := by rw [HN.out]; omega
    have hfe := fault_eq c f
    have hneg : ¬ stop < 0 := by omega
    have hge : ¬ stop < (n : Int) := by omega
    have HSame : Hid (Calls Tryd.prog 18 #[v', .slice (some ⟨g, 0, none⟩) n cp] Y fun e w' => e = .returned (.bool true) ∧ Below Y.heap.size Y w') := by
      have h1 := take_isToks (cp := cp) (fun i t hi => (HRX.out i t hi).kept HYX.out) L.length (Nat.le_refl _)
      rw [List.take_length] at h1
      rw [HN.out]
      exact same_self _ _ L _ (by have := HN.out; omega) HTY.out h1
    clear hfs
    go_wp2_with (go_at_call 18; refine HSame.out.mono ?_; rintro e w3 ⟨rfl, hb3⟩; have HB3 := hide hb3; clear hb3)
    go_ret
    exact ⟨rfl, HWY.out.trans (HB3.out.mono HWY.out.size)⟩

end Go.Proofs.YtaiehmfhhdnijaaDoor
