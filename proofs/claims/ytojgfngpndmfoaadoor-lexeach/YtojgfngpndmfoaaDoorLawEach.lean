/- edictlaw02.LexEach: lex.Each answers as the document lists. -/
import Derived.Test.YtojgfngpndmfoaaDoorProg
import Derived.Test.YtojgfngpndmfoaaDoorEachAt
namespace Go.Proofs.YtojgfngpndmfoaaDoor
set_option linter.unusedSimpArgs false
set_option linter.unusedVariables false
open Go.RowKit
attribute [local go_sem] over_cellAt over_frozenAt over_setAt

theorem each_box {V X : World} {b : Nat} {c f : Int} (h : box3 b V c 0 f) (hb : Below (b + 1) V X) :
    X.cell? ⟨b, 0, none⟩ = some (.int .i64 c) ∧ X.cell? ⟨b, 1, none⟩ = some (.int .i64 0) ∧ X.cell? ⟨b, 2, none⟩ = some (.int .i64 f) ∧ b < X.heap.size := by
  have h7 : box3 b X c 0 f := by
    unfold box3 at h ⊢
    rw [hb.block b (by omega)]; exact h
  obtain ⟨y0, y1, y2, _, _, _, y6⟩ := h7.cells
  exact ⟨y0, y1, y2, y6⟩

theorem IsToks.below {w w' : World} {v : Value} {L : List Tok} {B g cap : Nat} (h : ∀ i t, L[i]? = some t → TokAt w g (i * 6) t) (hb : Below B w w') (hg : g < B) : ∀ i t, L[i]? = some t → TokAt w' g (i * 6) t := fun i t hi => by
  have h := h i t hi
  exact ⟨below_cell hb h.c0 hg, below_cell hb h.c1 hg, below_cell hb h.c2 hg, below_cell hb h.c3 hg, below_cell hb h.c4 hg, below_cell hb h.c5 hg⟩

set_option maxHeartbeats 4000000 in
set_option maxRecDepth 100000 in
theorem lexEach_in (s : ByteArray) (stop : Int) (w : World) (hs : s.size ≤ 140737488351232) (hst : -9223372036854775808 ≤ stop ∧ stop ≤ 9223372036854775807) (hl : LexLaid w) (hk : 0 ≤ stop ∧ stop < ((scanX s).1.length : Int)) :
    Calls Tryd.prog 3 #[.string s, .int .i64 stop] w fun e w' => e = .returned (.bool true) ∧ Below w.heap.size w w' := by
  have HS := hide (fun W => rscan_any s W hs)
  have hat := at_scan s stop
  have hlen := scan_len s
  have HEach := hide (fun f cb p v0 W eg hY hW hp hC => each_any s f cb p (atAns stop) v0 W eg hY hW hp hs hC)
  rw [hat] at HEach
  clear hat
  generalize scanX s = R at *
  obtain ⟨L, c, f⟩ := R
  simp only at hlen HS HEach
  obtain ⟨n, hn⟩ : ∃ n, n = L.length := ⟨_, rfl⟩
  have hn1 : n ≤ 65537 := by omega
  have HN := hide hn
  have HL := hide hl
  clear hl hs
  unfold faultVal at HS HEach
  rw [if_pos hk] at HEach
  have HL0 : Hid (0 < L.length) := by show 0 < L.length; simp only at hk; omega
  obtain ⟨k, rfl⟩ : ∃ k : Nat, stop = k := ⟨stop.toNat, by omega⟩
  simp only [Int.toNat_natCast] at HEach
  have hk1 : (k : Int) < (n : Int) := by rw [hn]; exact hk.2
  clear hk hlen hn hst
  go_enter Tryd.func3, Tryd.ntmps3
  go_wp2_with (go_at_call 7; refine (HS.out _).mono ?_; rintro e w1 ⟨v, rfl, hown, hb1⟩; obtain ⟨g, cp, rfl, hg1, hg2, hrow⟩ := own_toks hown HL0.out; have hcap := own_cap hown; rw [← HN.out] at hcap ⊢; have HRow : Hid (∀ i t, L[i]? = some t → TokAt w1 g (i * 6) t) := hrow; have HB1 := hide hb1; clear hown hrow hb1)
  have hVb : Below w1.heap.size w1 ((w1.alloc (.cells #[.int .i64 c, .int .i64 0, .int .i64 (f : Int)] 25)).alloc (.cells #[.slice none 0 0] 22)) := below2 w1 _ _
  have hw1 : w.heap.size + 1 ≤ w1.heap.size := by have := HB1.out.size; simpa using this
  have hq1 : w1.heap[w.heap.size]? = some (.cells #[.int .i64 (k : Int)] 3 (0, 0)) := by
    rw [HB1.out.block w.heap.size (by simp)]; exact heap_alloc_new w _
  have hqV : ((w1.alloc (.cells #[.int .i64 c, .int .i64 0, .int .i64 (f : Int)] 25)).alloc (.cells #[.slice none 0 0] 22)).heap[w.heap.size]? = some (.cells #[.int .i64 (k : Int)] 3 (0, 0)) := by
    rw [hVb.block w.heap.size (by omega)]; exact hq1
  have hwV : Below w.heap.size w ((w1.alloc (.cells #[.int .i64 c, .int .i64 0, .int .i64 (f : Int)] 25)).alloc (.cells #[.slice none 0 0] 22)) := by
    have h1 : Below w.heap.size w w1 := ((Below.refl _ _).alloc (Nat.le_refl _) _).trans (HB1.out.mono (by simp))
    exact h1.trans (hVb.mono h1.size)
  have hY : Collects 9 #[.pointer (some ⟨w1.heap.size + 1, 0, none⟩), .pointer (some ⟨w.heap.size, 0, none⟩)] (w1.heap.size + 1) (atAns (k : Int)) ((w1.alloc (.cells #[.int .i64 c, .int .i64 0, .int .i64 (f : Int)] 25)).alloc (.cells #[.slice none 0 0] 22)) := fun W v L t h hL hB =>
    each1_any W (w1.heap.size + 1) w.heap.size (k : Int) v L t h hL (by omega) (by
      have : W.heap[w.heap.size]? = some (.cells #[.int .i64 (k : Int)] 3 (0, 0)) := by rw [hB.block w.heap.size (by omega)]; exact hqV
      simp [World.cell?, this])
  have eg : ∀ args w, (callFunc 9 args).run Tryd.prog w = .ok (.enter 9 args) w := enters_of Tryd.func9 (by kernel_rfl) rfl
  have hgl : 0 < w.heap.size ∧ 4 < w.heap.size ∧ 5 < w.heap.size := by
    refine ⟨lt_of_cell (HL.out.marks 0 _ rfl), ?_, ?_⟩
    · obtain ⟨t, q, e⟩ := HL.out.syn; exact lt_of_cell e
    · obtain ⟨t, q, e⟩ := HL.out.rng; exact lt_of_cell e
  have HE := hide (HEach.out 9 #[.pointer (some ⟨w1.heap.size + 1, 0, none⟩), .pointer (some ⟨w.heap.size, 0, none⟩)] (w1.heap.size + 1) (.slice none 0 0) _ eg hY (HL.out.kept hwV) (by omega) (coll_start w1 _))
  have hb7 : box3 w1.heap.size ((w1.alloc (.cells #[.int .i64 c, .int .i64 0, .int .i64 (f : Int)] 25)).alloc (.cells #[.slice none 0 0] 22)) c 0 f := by
    have h1 : box3 w1.heap.size (w1.alloc (.cells #[.int .i64 c, .int .i64 0, .int .i64 (f : Int)] 25)) c 0 f := heap_alloc_new w1 _
    exact h1.kept ((Below.refl _ _).alloc (Nat.le_refl _) _)
  have HQV := hide hqV
  have HWV := hide hwV
  have HB7 := hide hb7
  have HVb := hide hVb
  clear hVb hq1 hqV hwV hY eg hgl hb7 HEach HS
  go_wp2_with (go_at_call 8; refine HE.out.mono ?_; rintro e X ⟨rfl, v', hcx, hbx⟩; have HCX := hide hcx; have HBX := hide hbx; clear hcx hbx HE
               have hq3 : X.heap[w.heap.size]? = some (.cells #[.int .i64 (k : Int)] 3 (0, 0)) := (by rw [HBX.out.block w.heap.size (by omega)]; exact HQV.out)
               have hq3c : X.cell? ⟨w.heap.size, 0, none⟩ = some (.int .i64 (k : Int)) := (by simp [World.cell?, hq3])
               obtain ⟨y0, y1, y2, hxl⟩ := each_box HB7.out HBX.out
               have hpc := HCX.out.cell
               have hplt := HCX.out.lt
               have m1 : ¬ w.heap.size = X.heap.size := (by omega)
               have m4 : w.heap.size < X.heap.size := (by omega)
               have m2 : ¬ w1.heap.size = X.heap.size := (by omega)
               have m3 : ¬ w1.heap.size + 1 = X.heap.size := (by omega)
               have HWX : Hid (Below w.heap.size w X) := (HWV.out.trans (HBX.out.mono (by omega)))
               clear hq3)
  have hUX : ∀ o, Below X.heap.size X (X.alloc o) := fun o => (Below.refl _ _).alloc (Nat.le_refl _) _
  have hrowX := IsToks.below (v := .nilFunc) (cap := 0) (fun i t hi => (HRow.out i t hi).kept HVb.out) HBX.out (Nat.lt_succ_of_lt hg2)
  obtain ⟨Y, hY⟩ : ∃ Y, Y = X.alloc (.cells #[.int .i64 0, .int .i64 0, .int .i64 ((0 : Nat) : Int)] 25) := ⟨_, rfl⟩
  have a0 : Y.cell? ⟨X.heap.size, 0, none⟩ = some (.int .i64 0) := by rw [hY]; simp
  have a1 : Y.cell? ⟨X.heap.size, 1, none⟩ = some (.int .i64 0) := by rw [hY]; simp
  have a2 : Y.cell? ⟨X.heap.size, 2, none⟩ = some (.int .i64 ((0 : Nat) : Int)) := by rw [hY]; simp
  have hXY : Below X.heap.size X Y := by rw [hY]; exact hUX _
  have HTY := hide ((own_isToks HCX.out.row).kept hXY)
  have HWY : Hid (Below w.heap.size w Y) := HWX.out.trans (hXY.mono HWX.out.size)
  have HSame : Hid (∀ y, Calls Tryd.prog 10 #[v', .slice (some ⟨g, 0, none⟩) (k + 1) cp] (over Y y) fun e w' => e = .returned (.bool true) ∧ Below (over Y y).heap.size (over Y y) w') := fun y =>
    same_self _ _ (L.take (k + 1)) _ (by rw [List.length_take]; omega) (HTY.out.kept (over_below Y y)) ((take_isToks (fun i t hi => (hrowX i t hi).kept hXY) (k + 1) (by have := HN.out; omega)).kept (over_below Y y))
  have d0 := over_cell a0
  have d1 := over_cell a1
  have d2 := over_cell a2
  have d3 := over_cell (kept_cell hXY hq3c)
  have d4 := over_cell (kept_cell hXY hpc)
  have hkc : (k : Int) + 1 ≤ (cp : Int) := by omega
  have hfe := fault_eq 0 ((0 : Nat) : Int)
  first | rw [← hY] | (rw [show ((0 : Nat) : Int) = 0 from rfl] at hY; rw [← hY])
  clear hY hUX hrowX a0 a1 a2 hXY y0 y1 y2 hq3c hpc
  refine wp_region_over (fun W => W = Y) (by kernel_rfl) (by kernel_rfl) rfl ?_
  rintro W rfl
  repeat (go_big_quiet_step (first | (go_at_call 10; exact calls_over (HSame.out _))))
  refine wpQuiet_nil ?_
  rintro _ ⟨z, rfl⟩
  go_wp2
  go_ret
  exact ⟨rfl, HWY.out.trans ((over_below _ z).mono HWY.out.size)⟩

set_option maxHeartbeats 4000000 in
set_option maxRecDepth 100000 in
theorem lexEach_out (s : ByteArray) (stop : Int) (w : World) (hs : s.size ≤ 140737488351232) (hst : -9223372036854775808 ≤ stop ∧ stop ≤ 9223372036854775807) (hl : LexLaid w) (hk : ¬ (0 ≤ stop ∧ stop < ((scanX s).1.length : Int))) :
    Calls Tryd.prog 3 #[.string s, .int .i64 stop] w fun e w' => e = .returned (.bool true) ∧ Below w.heap.size w w' := by
  have HS := hide (fun W => rscan_any s W hs)
  have hat := at_scan s stop
  have hlen := scan_len s
  have HEach := hide (fun f cb p v0 W eg hY hW hp hC => each_any s f cb p (atAns stop) v0 W eg hY hW hp hs hC)
  rw [hat] at HEach
  clear hat
  generalize scanX s = R at *
  obtain ⟨L, c, f⟩ := R
  simp only at hlen HS HEach
  obtain ⟨n, hn⟩ : ∃ n, n = L.length := ⟨_, rfl⟩
  have hn1 : n ≤ 65537 := by omega
  have HN := hide hn
  have HL := hide hl
  clear hl hs
  unfold faultVal at HS HEach
  rw [if_neg hk] at HEach
  have HM := hide (fun v1 v2 W h1 h2 => same_self v1 v2 L W hlen h1 h2)
  have hfe := fault_eq c (f : Int)
  have hk1 : stop < 0 ∨ (¬ stop < 0 ∧ ¬ stop < (n : Int)) := by simp only at hk; omega
  clear hk hlen hst
  subst hn
  go_enter Tryd.func3, Tryd.ntmps3
  go_wp2_with (go_at_call 7; refine (HS.out _).mono ?_; rintro e w1 ⟨v, rfl, hown, hb1⟩; obtain ⟨ao, cp, rfl⟩ := own_shape hown; have HT1 := hide (own_isToks hown); have HB1 := hide hb1; clear hown hb1)
  have hVb : Below w1.heap.size w1 ((w1.alloc (.cells #[.int .i64 c, .int .i64 0, .int .i64 (f : Int)] 25)).alloc (.cells #[.slice none 0 0] 22)) := below2 w1 _ _
  have hw1 : w.heap.size + 1 ≤ w1.heap.size := by have := HB1.out.size; simpa using this
  have hq1 : w1.heap[w.heap.size]? = some (.cells #[.int .i64 stop] 3 (0, 0)) := by
    rw [HB1.out.block w.heap.size (by simp)]; exact heap_alloc_new w _
  have hqV : ((w1.alloc (.cells #[.int .i64 c, .int .i64 0, .int .i64 (f : Int)] 25)).alloc (.cells #[.slice none 0 0] 22)).heap[w.heap.size]? = some (.cells #[.int .i64 stop] 3 (0, 0)) := by
    rw [hVb.block w.heap.size (by omega)]; exact hq1
  have hwV : Below w.heap.size w ((w1.alloc (.cells #[.int .i64 c, .int .i64 0, .int .i64 (f : Int)] 25)).alloc (.cells #[.slice none 0 0] 22)) := by
    have h1 : Below w.heap.size w w1 := ((Below.refl _ _).alloc (Nat.le_refl _) _).trans (HB1.out.mono (by simp))
    exact h1.trans (hVb.mono h1.size)
  have hY : Collects 9 #[.pointer (some ⟨w1.heap.size + 1, 0, none⟩), .pointer (some ⟨w.heap.size, 0, none⟩)] (w1.heap.size + 1) (atAns stop) ((w1.alloc (.cells #[.int .i64 c, .int .i64 0, .int .i64 (f : Int)] 25)).alloc (.cells #[.slice none 0 0] 22)) := fun W v L t h hL hB =>
    each1_any W (w1.heap.size + 1) w.heap.size stop v L t h hL (by omega) (by
      have : W.heap[w.heap.size]? = some (.cells #[.int .i64 stop] 3 (0, 0)) := by rw [hB.block w.heap.size (by omega)]; exact hqV
      simp [World.cell?, this])
  have eg : ∀ args w, (callFunc 9 args).run Tryd.prog w = .ok (.enter 9 args) w := enters_of Tryd.func9 (by kernel_rfl) rfl
  have hgl : 0 < w.heap.size ∧ 4 < w.heap.size ∧ 5 < w.heap.size := by
    refine ⟨lt_of_cell (HL.out.marks 0 _ rfl), ?_, ?_⟩
    · obtain ⟨t, q, e⟩ := HL.out.syn; exact lt_of_cell e
    · obtain ⟨t, q, e⟩ := HL.out.rng; exact lt_of_cell e
  have HE := hide (HEach.out 9 #[.pointer (some ⟨w1.heap.size + 1, 0, none⟩), .pointer (some ⟨w.heap.size, 0, none⟩)] (w1.heap.size + 1) (.slice none 0 0) _ eg hY (HL.out.kept hwV) (by omega) (coll_start w1 _))
  have hb7 : box3 w1.heap.size ((w1.alloc (.cells #[.int .i64 c, .int .i64 0, .int .i64 (f : Int)] 25)).alloc (.cells #[.slice none 0 0] 22)) c 0 f := by
    have h1 : box3 w1.heap.size (w1.alloc (.cells #[.int .i64 c, .int .i64 0, .int .i64 (f : Int)] 25)) c 0 f := heap_alloc_new w1 _
    exact h1.kept ((Below.refl _ _).alloc (Nat.le_refl _) _)
  have HQV := hide hqV
  have HWV := hide hwV
  have HB7 := hide hb7
  have HVb := hide hVb
  clear hVb hq1 hqV hwV hY eg hgl hb7 HEach HS
  have HT2 : Hid (∀ X, Below (w1.heap.size + 1) ((w1.alloc (.cells #[.int .i64 c, .int .i64 0, .int .i64 (f : Int)] 25)).alloc (.cells #[.slice none 0 0] 22)) X → IsToks X (.slice ao L.length cp) L) := fun X hX => HT1.out.kept (HVb.out.trans (hX.mono (Nat.le_succ _)))
  rcases hk1 with hk1 | ⟨hk1, hk2⟩
  all_goals
    go_wp2_with (first
      | (go_at_call 8; refine HE.out.mono ?_; rintro e X ⟨rfl, v', hcx, hbx⟩; have HCX := hide hcx; have HBX := hide hbx; clear hcx hbx HE; have hq3 : X.heap[w.heap.size]? = some (.cells #[.int .i64 stop] 3 (0, 0)) := (by rw [HBX.out.block w.heap.size (by omega)]; exact HQV.out); have hq3c : X.cell? ⟨w.heap.size, 0, none⟩ = some (.int .i64 stop) := (by simp [World.cell?, hq3]); obtain ⟨y0, y1, y2, hxl⟩ := each_box HB7.out HBX.out; have hpc := HCX.out.cell; have hplt := HCX.out.lt; have m1 : ¬ w.heap.size = X.heap.size := (by omega); have m4 : w.heap.size < X.heap.size := (by omega); have m2 : ¬ w1.heap.size = X.heap.size := (by omega); have m3 : ¬ w1.heap.size + 1 = X.heap.size := (by omega); have HWX : Hid (Below w.heap.size w X) := (HWV.out.trans (HBX.out.mono (by omega))); clear hq3)
      | (go_at_call 10; refine (HM.out _ _ _ ((own_isToks HCX.out.row).kept ((Below.refl _ _).alloc (Nat.le_refl _) _)) ((HT2.out _ HBX.out).kept ((Below.refl _ _).alloc (Nat.le_refl _) _))).mono ?_; rintro e w3 ⟨rfl, hb3⟩; have HB3 := hide hb3; clear hb3))
    go_ret
    have h2 := HWX.out.alloc HWX.out.size (.cells #[.int .i64 c, .int .i64 0, .int .i64 (f : Int)] 25)
    exact ⟨rfl, h2.trans (HB3.out.mono h2.size)⟩

theorem lexEach_walk (s : ByteArray) (stop : Int) (w : World) (hs : s.size ≤ 140737488351232) (hst : -9223372036854775808 ≤ stop ∧ stop ≤ 9223372036854775807) (hl : LexLaid w) :
    Calls Tryd.prog 3 #[.string s, .int .i64 stop] w fun e w' => e = .returned (.bool true) ∧ Below w.heap.size w w' := by
  by_cases hk : 0 ≤ stop ∧ stop < ((scanX s).1.length : Int)
  · exact lexEach_in s stop w hs hst hl hk
  · exact lexEach_out s stop w hs hst hl hk

end Go.Proofs.YtojgfngpndmfoaaDoor
