/- edictlaw10.AlphaShapes: Shape, Valid of it and Distinct are the document's. -/
import Derived.Test.YtgligipgjakecaaDoorAlphaDist
import Derived.Test.YtgligipgjakecaaDoorRefDist
namespace Go.Proofs.YtgligipgjakecaaDoor
set_option linter.unusedSimpArgs false
set_option linter.unusedVariables false
open Go.RowKit

open Classical in
noncomputable def aQ (q : Int) (ss : List Slo) : Int := if ShapeOk q ss then q else -1
open Classical in
noncomputable def aC (q : Int) (ss : List Slo) : List Int := if ShapeOk q ss then shapeC ss else []
theorem ans_of {q : Int} {ss : List Slo} {w w' : World} {e : Ending} (h : ShapeAns q ss w w' e) : ∃ u, e = .returned (.agg #[.int .i64 (aQ q ss), u]) ∧ Has elInt w' u (aC q ss) := by
  rcases h with ⟨h1, u, h2, h3⟩ | ⟨h1, h2⟩
  · refine ⟨u, ?_, ?_⟩
    · unfold aQ; rw [if_pos h1]; exact h2
    · unfold aC; rw [if_pos h1]; exact h3.all
  · refine ⟨.slice none 0 0, ?_, ?_⟩
    · unfold aQ; rw [if_neg h1]; exact h2
    · unfold aC; rw [if_neg h1]; exact Lst.nil _ _ _
theorem shape_ans {w : World} {q : Int} {v : Value} {ss : List Slo} (h : Has elSlo w v ss) :
    Calls Tryd.prog 6 #[.agg #[.int .i64 q, v]] w fun e w' => ∃ u, e = .returned (.agg #[.int .i64 (aQ q ss), u]) ∧ Has elInt w' u (aC q ss) ∧ Below w.heap.size w w' :=
  (shape_any h).mono fun e w' ⟨ha, hb⟩ => by
    obtain ⟨u, h1, h2⟩ := ans_of ha
    exact ⟨u, h1, h2, hb⟩
theorem rshape_ans {w : World} {q : Int} {v : Value} {ss : List Slo} (h : Has elSlo w v ss) :
    Calls Tryd.prog 5 #[.agg #[.int .i64 q, v]] w fun e w' => ∃ u, e = .returned (.agg #[.int .i64 (aQ q ss), u]) ∧ Has elInt w' u (aC q ss) ∧ Below w.heap.size w w' :=
  (rshape_any h).mono fun e w' ⟨ha, hb⟩ => by
    obtain ⟨u, h1, h2⟩ := ans_of ha
    exact ⟨u, h1, h2, hb⟩
theorem box_new10 {X X' : World} {Q : Int} {v : Value} {t : TypeId} (h : X' = X.alloc (.cells #[.int .i64 Q, v] t)) : Below X.heap.size X X' ∧ X'.cell? ⟨X.heap.size, 0, none⟩ = some (.int .i64 Q) ∧ X'.cell? ⟨X.heap.size, 1, none⟩ = some v := by
  subst h
  exact ⟨belo1 _ _, new_cells (cs := #[.int .i64 Q, v]) 0 _ rfl, new_cells (cs := #[.int .i64 Q, v]) 1 _ rfl⟩

set_option maxRecDepth 100000 in
set_option maxHeartbeats 4000000 in
theorem alphaShapes_walk (v : Value) (ps : List Pat) (w : World) (h : Has elPat w v ps) (hb1 : ps.length ≤ 1048576) (ht : TabLaid w) :
    Calls Tryd.prog 3 #[v] w fun e w' => e = .returned (.bool true) ∧ Below w.heap.size w w' := by
  obtain ⟨va, vc, rfl, -, -, -⟩ := h.shape
  have HL0 := hide h
  have HT0 := hide ht
  clear h ht
  go_enter Tryd.func3, Tryd.ntmps3
  go_wp2
  go_loopw [3] (fun i wl => ∃ k : Nat, k ≤ ps.length ∧ i = .int .i64 k ∧ Hid (Below w.heap.size w wl)) (fun i _ => ps.length - (intOf i).toNat)
  case atStart => exact ⟨0, by omega, rfl, Below.refl _ _⟩
  case round =>
    obtain ⟨k, hk, rfl, HB⟩ := hrel
    by_cases hlt : k < ps.length
    · have hi : (k : Int) < (ps.length : Int) := by omega
      have hi0 : (0 : Int) ≤ (k : Int) := by omega
      obtain ⟨b, off, rfl, -, -, hrow⟩ := HL0.out.row (by omega)
      obtain ⟨p, hp⟩ : ∃ p, ps[k]? = some p := ⟨_, List.getElem?_eq_getElem hlt⟩
      have HC0 : Hid (∀ V : World, Below w.heap.size w V → V.cell? ⟨b, off + k * 2, none⟩ = some (.int .i64 p.q) ∧ V.cell? ⟨b, off + k * 2 + 1, none⟩ = some p.v) := fun V hV => by
        have y0 := kept_cell hV (hrow k p hp 0 _ rfl)
        have y1 := kept_cell hV (hrow k p hp 1 _ rfl)
        simp only [elPat, Nat.add_zero] at y0 y1
        exact ⟨y0, y1⟩
      have hpk := elPat_ok (HL0.out.ok (List.mem_of_getElem? hp))
      have HPs := hide hpk.2
      obtain ⟨pa, pc, hpv, -, -, -⟩ := hpk.2.shape
      obtain ⟨q, pv, ss⟩ := p
      dsimp only at HC0 hpk HPs hpv
      subst hpv
      clear hrow hp hpk
      obtain ⟨y0, y1⟩ := HC0.out _ HB.out
      have HS1 := hide (rshape_ans (q := q) (HPs.out.kept HB.out))
      obtain ⟨Q, hQ⟩ : ∃ Q, aQ q ss = Q := ⟨_, rfl⟩
      obtain ⟨C, hC⟩ : ∃ C, aC q ss = C := ⟨_, rfl⟩
      rw [hQ, hC] at HS1
      have HS2 : Hid (∀ V : World, Below w.heap.size w V → Calls Tryd.prog 6 #[.agg #[.int .i64 q, .slice pa ss.length pc]] V fun e w' => ∃ u, e = .returned (.agg #[.int .i64 Q, u]) ∧ Has elInt w' u C ∧ Below V.heap.size V w') := fun V hV => by
        have h := shape_ans (q := q) (HPs.out.kept hV)
        rw [hQ, hC] at h
        exact h
      clear hQ hC
      go_upto_region 5 with (go_at_call 5; refine HS1.out.mono ?_; rintro e w2 ⟨u, rfl, hl, hb⟩; have HL2 := hide hl; have HB2 := hide (HB.out.trans (hb.mono HB.out.size)); obtain ⟨ua, uc, hu, -⟩ := hl.shape; subst hu; clear hl hb)
      obtain ⟨V1, hV1⟩ : ∃ V1, V1 = w2.alloc (.cells #[.int .i64 Q, .slice ua C.length uc] 25) := ⟨_, rfl⟩
      obtain ⟨hVb, e0, e1⟩ := box_new10 hV1
      obtain ⟨B1, hB1⟩ : ∃ B, w2.heap.size = B := ⟨_, rfl⟩
      have HW1 : Hid (Below w.heap.size w V1) := belot HB2.out hVb
      have HL3 := hide (HL2.out.kept hVb)
      rw [← hV1]
      rw [hB1] at e0 e1 ⊢
      clear hV1 hB1 hVb HS1 HL2 HB2 y0 y1
      obtain ⟨y0, y1⟩ := HC0.out _ HW1.out
      have HS3 := hide (HS2.out _ HW1.out)
      go_upto_region 6 with (go_at_call 6; refine HS3.out.mono ?_; rintro e w3 ⟨u, rfl, hl, hb⟩; have HL4 := hide hl; have HB4 := hide hb; obtain ⟨xa, xc, hu, -⟩ := hl.shape; subst hu; clear hl hb)
      obtain ⟨V2, hV2⟩ : ∃ V2, V2 = w3.alloc (.cells #[.int .i64 Q, .slice xa C.length xc] 25) := ⟨_, rfl⟩
      obtain ⟨hVb, f0, f1⟩ := box_new10 hV2
      obtain ⟨B2, hB2⟩ : ∃ B, w3.heap.size = B := ⟨_, rfl⟩
      have HV12 : Hid (Below V1.heap.size V1 V2) := belot HB4.out hVb
      have HL5 := hide (HL4.out.kept hVb)
      have HL6 := hide (HL3.out.kept HV12.out)
      have g0 := kept_cell HV12.out e0
      have g1 := kept_cell HV12.out e1
      have HW2 : Hid (Below w.heap.size w V2) := belot HW1.out HV12.out
      rw [← hV2]
      rw [hB2] at f0 f1 ⊢
      clear hV2 hB2 hVb HS2 HS3 HL4 HB4 y0 y1 e0 e1
      have f0' := over_cell f0
      have f1' := over_cell f1
      have g0' := over_cell g0
      have g1' := over_cell g1
      have HX1 := hide (fun x => same_any (q := Q) (p := Q) (HL5.out.kept (over_below V2 x)) (HL6.out.kept (over_below V2 x)))
      rw [show decide (Q = Q ∧ C = C) = true by simp] at HX1
      have HX2 := hide (fun x => valid_any (q := Q) (HL5.out.kept (over_below V2 x)))
      have HX3 := hide (fun x => rvalid_any (q := Q) (HL6.out.kept (over_below V2 x)))
      obtain ⟨vb, hvb⟩ : ∃ vb, vldB Q C = vb := ⟨_, rfl⟩
      rw [hvb] at HX2 HX3
      clear hvb
      have hvv : (vb != vb) = false := by simp
      refine wp_region_over (fun W => V2 = W) (by kernel_rfl) (by kernel_rfl) rfl ?_
      rintro _ rfl
      repeat (go_big_quiet_step (first | (go_at_call 7; with_reducible exact calls_over (HX1.out _)) | (go_at_call 8; with_reducible exact calls_over (HX2.out _)) | (go_at_call 9; with_reducible exact calls_over (HX3.out _))))
      refine wpQuiet_nil ?_
      rintro _ ⟨z, rfl⟩
      have HBz : Hid (Below w.heap.size w (over V2 z)) := HW2.out.trans ((over_below V2 z).mono HW2.out.size)
      generalize over V2 z = V3 at HBz ⊢
      clear HX1 HX2 HX3 f0 f1 g0 g1 f0' f1' g0' g1' HL5 HL6
      go_wp2
      go_roundw
      case rel => exact ⟨k + 1, by omega, by go_num, HBz⟩
      case measure => simp [intOf]; omega
    · obtain rfl : k = ps.length := by omega
      have hi : ¬ (ps.length : Int) < (ps.length : Int) := by omega
      have HD1 := hide (rdistinct_any (HL0.out.kept HB.out))
      have HD2 := hide (fun V hV => distinct_any (w := V) (HL0.out.kept hV) (HT0.out.kept hV))
      obtain ⟨D, hD⟩ : ∃ D, distL ps = D := ⟨_, rfl⟩
      rw [hD] at HD1 HD2
      have hDl : D.length ≤ 1048576 := by
        have h := distL_len ps ps.length
        rw [List.take_of_length_le (Nat.le_refl _), hD] at h
        omega
      clear hD
      go_upto_region 10 with (first
        | (go_at_call 10; refine HD1.out.mono ?_; rintro e w2 ⟨mu, rfl, ml, hm, hmr, hb⟩; have HM2 := hide hm; have HMr := hide hmr; have HB2 := hide (HB.out.trans (hb.mono HB.out.size)); have HD3 := hide (HD2.out _ HB2.out); obtain ⟨ma, mc, hmu, -⟩ := hm.shape; subst hmu; clear hm hmr hb HD1 HD2)
        | (go_at_call 11; refine HD3.out.mono ?_; rintro e w3 ⟨lu, rfl, ll, hl, hlr, hb⟩; have HL3 := hide hl; have HLr := hide hlr; have HB3 := hide hb; obtain ⟨la, lc, hlu, -⟩ := hl.shape; subst hlu; clear hl hlr hb HD3))
      have HMl : Hid (ml.length = D.length) := by show _ = _; have := congrArg List.length HMr.out; simpa using this
      have HLl : Hid (ll.length = D.length) := by show _ = _; have := congrArg List.length HLr.out; simpa using this
      have HM3 := hide (HM2.out.kept HB3.out)
      have HW3 : Hid (Below w.heap.size w w3) := belot HB2.out HB3.out
      rw [HMl.out] at HM3 ⊢
      rw [HLl.out] at HL3 ⊢
      clear HM2 HB2 HB3
      go_wp2
      go_loopw [8] (fun i wl => ∃ k : Nat, k ≤ D.length ∧ i = .int .i64 k ∧ Hid (Below w3.heap.size w3 wl)) (fun i _ => D.length - (intOf i).toNat)
      case atStart => exact ⟨0, by omega, rfl, Below.refl _ _⟩
      case round =>
        obtain ⟨k, hk, rfl, HBk⟩ := hrel
        by_cases hlt : k < D.length
        · have hi : (k : Int) < (D.length : Int) := by omega
          have hi0 : (0 : Int) ≤ (k : Int) := by omega
          obtain ⟨b, off, rfl, -, -, hrow⟩ := HL3.out.row (by have := HLl.out; omega)
          obtain ⟨c, co, rfl, -, -, krow⟩ := HM3.out.row (by have := HMl.out; omega)
          obtain ⟨t, ht⟩ : ∃ t, ll[k]? = some t := ⟨_, List.getElem?_eq_getElem (by have := HLl.out; omega)⟩
          obtain ⟨s, hs⟩ : ∃ s, ml[k]? = some s := ⟨_, List.getElem?_eq_getElem (by have := HMl.out; omega)⟩
          have hts : rk t = rk s := by
            have h1 := congrArg (fun z => z[k]?) (HLr.out.trans HMr.out.symm)
            simp only [List.getElem?_map, ht, hs, Option.map_some, Option.some.injEq] at h1
            exact h1
          have hq : t.q = s.q := (Prod.mk.inj hts).1
          have hll : t.l = s.l := (Prod.mk.inj hts).2
          have y0 := over_cell (kept_cell HBk.out (hrow k t ht 0 _ rfl))
          have y1 := over_cell (kept_cell HBk.out (hrow k t ht 1 _ rfl))
          have z0 := over_cell (kept_cell HBk.out (krow k s hs 0 _ rfl))
          have z1 := over_cell (kept_cell HBk.out (krow k s hs 1 _ rfl))
          simp only [elRoe, Nat.add_zero] at y0 y1 z0 z1
          have htk := (elRoe_ok (HL3.out.ok (List.mem_of_getElem? ht))).2
          have hsk := (elRoe_ok (HM3.out.ok (List.mem_of_getElem? hs))).2
          have HC := hide (fun x => same_any (q := t.q) (p := s.q) ((htk.kept HBk.out).kept (over_below _ x)) ((hsk.kept HBk.out).kept (over_below _ x)))
          rw [show decide (t.q = s.q ∧ t.l = s.l) = true from decide_eq_true ⟨hq, hll⟩] at HC
          obtain ⟨ta, tc, htv, -⟩ := htk.shape
          obtain ⟨sa, sc, hsv, -⟩ := hsk.shape
          rw [htv] at HC y1
          rw [hsv] at HC z1
          clear hrow krow ht hs htk hsk htv hsv hts hq hll
          go_upto_region 15 with fail
          refine wp_region_over (fun W => wr = W) (by kernel_rfl) (by kernel_rfl) rfl ?_
          rintro _ rfl
          repeat (go_big_quiet_step (first | (go_at_call 7; with_reducible exact calls_over (HC.out _))))
          refine wpQuiet_nil ?_
          rintro _ ⟨z, rfl⟩
          have HBz : Hid (Below w3.heap.size w3 (over wr z)) := HBk.out.trans ((over_below wr z).mono HBk.out.size)
          generalize over wr z = V3 at HBz ⊢
          clear HC y0 y1 z0 z1
          go_wp2
          go_roundw
          case rel => exact ⟨k + 1, by omega, by go_num, HBz⟩
          case measure => simp [intOf]; omega
        · obtain rfl : k = D.length := by omega
          have hi : ¬ (D.length : Int) < (D.length : Int) := by omega
          go_wp2
          go_ret
          exact ⟨rfl, belot HW3.out HBk.out⟩
end Go.Proofs.YtgligipgjakecaaDoor
