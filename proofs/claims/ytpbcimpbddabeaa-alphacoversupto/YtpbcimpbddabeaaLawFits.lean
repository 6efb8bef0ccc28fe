/- edictlaw10.AlphaFits: Valid and Fits of any shapes and rows are the document's, and nothing that was handed in has changed. -/
import Derived.Test.YtpbcimpbddabeaaAlphaRef
import Derived.Test.YtpbcimpbddabeaaShapesOf
namespace Go.Proofs.Ytpbcimpbddabeaa
set_option linter.unusedSimpArgs false
set_option linter.unusedVariables false
open Go.RowKit

theorem map_rk_at {l m : List Roe} (h : l.map rk = m.map rk) {k : Nat} {s : Roe} (hs : m[k]? = some s) : ∃ t, l[k]? = some t ∧ t.q = s.q ∧ t.l = s.l := by
  have h1 := congrArg (fun z => z[k]?) h
  simp only [List.getElem?_map, hs, Option.map_some] at h1
  cases ht : l[k]? with
  | none => rw [ht] at h1; cases h1
  | some t =>
    rw [ht] at h1
    simp only [Option.map_some, Option.some.injEq] at h1
    exact ⟨t, rfl, (Prod.mk.inj h1).1, (Prod.mk.inj h1).2⟩

set_option maxRecDepth 100000 in
set_option maxHeartbeats 4000000 in
theorem alphaFits_walk (v1 : Value) (l1 : List Roe) (v2 : Value) (l2 : List Roe) (w : World) (h1 : Has elRoe w v1 l1) (hb1 : l1.length ≤ 1048576) (h2 : Has elRoe w v2 l2) (hb2 : l2.length ≤ 1048576) :
    Calls Try.prog 4 #[v1, v2] w fun e w' => e = .returned (.bool true) ∧ Below w.heap.size w w' := by
  obtain ⟨j0, hj0, hy0, hy1, hy2⟩ := info_parts Try.infoInt10
  have HSO := hide (shapesOf_any h1)
  obtain ⟨va, vc, rfl, -, -, -⟩ := h1.shape
  obtain ⟨ra, rc, rfl, -, -, -⟩ := h2.shape
  have H1 := hide h1
  have H2 := hide h2
  clear h1 h2
  go_enter Try.func4, Try.ntmps4
  go_wp2_with (go_at_call 13; refine HSO.out.mono ?_; rintro e W0 ⟨ov, rfl, ol, hg, hrk, hb⟩; have HG := hide hg; have HRk := hide hrk; have HB0 := hide hb; obtain ⟨oa, oc, hov, -, -⟩ := hg.shape; subst hov; clear hg hrk hb)
  have HLo : Hid (ol.length = l1.length) := by show _ = _; have := congrArg List.length HRk.out; simpa using this
  rw [HLo.out] at HG ⊢
  have HOw := hide (HG.out.list (by rw [HLo.out]; omega))
  have HA := hide (H1.out.kept HB0.out)
  have HR := hide (H2.out.kept HB0.out)
  clear HG H1 H2 HSO
  go_loopw [6] (fun i wl => ∃ k : Nat, k ≤ l1.length ∧ i = .int .i64 k ∧ Hid (Below W0.heap.size W0 wl)) (fun i _ => l1.length - (intOf i).toNat)
  case atStart => exact ⟨0, by omega, rfl, Below.refl _ _⟩
  case round =>
    obtain ⟨k, hk, rfl, HB⟩ := hrel
    by_cases hlt : k < l1.length
    · have hi : (k : Int) < (l1.length : Int) := by omega
      have hi0 : (0 : Int) ≤ (k : Int) := by omega
      obtain ⟨s, hs⟩ : ∃ s, l1[k]? = some s := ⟨_, List.getElem?_eq_getElem hlt⟩
      obtain ⟨t, ht, htq, htl⟩ := map_rk_at HRk.out hs
      obtain ⟨b, bo, rfl, -, -, hrow⟩ := HA.out.row (by omega)
      obtain ⟨c, co, rfl, -, -, krow⟩ := HOw.out.row (by have := HLo.out; omega)
      have y0 := hrow k s hs 0 _ rfl
      have y1 := hrow k s hs 1 _ rfl
      have z0 := krow k t ht 0 _ rfl
      have z1 := krow k t ht 1 _ rfl
      simp only [elRoe, Nat.add_zero] at y0 y1 z0 z1
      have hS := (elRoe_ok (HA.out.ok (List.mem_of_getElem? hs))).2
      have hT := (elRoe_ok (HOw.out.ok (List.mem_of_getElem? ht))).2
      obtain ⟨q, sv, sl⟩ := s
      obtain ⟨q', tv, tl⟩ := t
      dsimp only at y0 y1 z0 z1 hS hT htq htl
      subst htq htl
      obtain ⟨sa, sc, rfl, -⟩ := hS.shape
      obtain ⟨ta, tc, rfl, -⟩ := hT.shape
      have HS := hide hS
      have HT := hide hT
      have HCs : Hid (∀ V : World, Below W0.heap.size W0 V → V.cell? ⟨b, bo + k * 2, none⟩ = some (.int .i64 q') ∧ V.cell? ⟨b, bo + k * 2 + 1, none⟩ = some (.slice sa tl.length sc) ∧ V.cell? ⟨c, co + k * 2, none⟩ = some (.int .i64 q') ∧ V.cell? ⟨c, co + k * 2 + 1, none⟩ = some (.slice ta tl.length tc)) := fun V hV => ⟨kept_cell hV y0, kept_cell hV y1, kept_cell hV z0, kept_cell hV z1⟩
      clear hrow krow hs ht hS hT y0 y1 z0 z1
      obtain ⟨y0, y1, z0, z1⟩ := HCs.out _ HB.out
      have y0' := over_cell y0
      have y1' := over_cell y1
      have z0' := over_cell z0
      have z1' := over_cell z1
      have HV1 := hide (fun x => valid_any (q := q') (HT.out.kept (over_bel (x := x) HB.out HB.out.size)))
      have HV2 := hide (fun x => rvalid_any (q := q') (HS.out.kept (over_bel (x := x) HB.out HB.out.size)))
      obtain ⟨vb, hvb⟩ : ∃ vb, vldB q' tl = vb := ⟨_, rfl⟩
      rw [hvb] at HV1 HV2
      clear hvb
      go_upto_region 5 with fail
      refine wp_region_over (fun W => W = wr) (by kernel_rfl) (by kernel_rfl) rfl ?_
      rintro W rfl
      repeat (go_big_quiet_step (first | (go_at_call 9; exact calls_over (HV1.out _)) | (go_at_call 14; exact calls_over (HV2.out _))))
      refine wpQuiet_nil ?_
      rintro _ ⟨z, rfl⟩
      have HB1 : Hid (Below W0.heap.size W0 (over W z)) := HB.out.trans ((over_below W z).mono HB.out.size)
      generalize over W z = W1 at HB1 ⊢
      clear HV1 HV2 y0 y1 z0 z1 y0' y1' z0' z1' HB
      have hvv : (vb != vb) = false := by simp
      go_wp2
      go_loopw [7, 8] (fun j _ wl => ∃ i : Nat, i ≤ l2.length ∧ j = .int .i64 i ∧ Hid (Below W0.heap.size W0 wl)) (fun j _ _ => l2.length - (intOf j).toNat)
      case atStart => exact ⟨0, by omega, rfl, HB1⟩
      case round =>
        obtain ⟨i, hil, rfl, HBi⟩ := hrel
        by_cases hlt2 : i < l2.length
        · have hi1 : (i : Int) < (l2.length : Int) := by omega
          have hi10 : (0 : Int) ≤ (i : Int) := by omega
          obtain ⟨r, hr⟩ : ∃ r, l2[i]? = some r := ⟨_, List.getElem?_eq_getElem hlt2⟩
          obtain ⟨rb, ro, rfl, -, -, rrow⟩ := HR.out.row (by omega)
          have x0 := rrow i r hr 0 _ rfl
          have x1 := rrow i r hr 1 _ rfl
          simp only [elRoe, Nat.add_zero] at x0 x1
          have hRr := (elRoe_ok (HR.out.ok (List.mem_of_getElem? hr))).2
          obtain ⟨p, pv, pl⟩ := r
          dsimp only at x0 x1 hRr
          obtain ⟨pa, pc, rfl, -, -, hpl⟩ := hRr.shape
          have HP := hide hRr
          have HCr : Hid (∀ V : World, Below W0.heap.size W0 V → V.cell? ⟨rb, ro + i * 2, none⟩ = some (.int .i64 p) ∧ V.cell? ⟨rb, ro + i * 2 + 1, none⟩ = some (.slice pa pl.length pc)) := fun V hV => ⟨kept_cell hV x0, kept_cell hV x1⟩
          have HOx : Hid (∀ y ∈ pl, ∀ (V : World) G, elInt.ok V G y) := fun y hy V G => HP.out.ok hy
          clear rrow hr hRr x0 x1
          have HBe : Hid (Below W0.heap.size W0 (wr.alloc (.cells #[] 3))) := HBi.out.alloc HBi.out.size _
          have HBr : Hid (Below wr.heap.size wr (wr.alloc (.cells #[] 3))) := belo1 _ _
          have HGe : Hid (Grow elInt 3 wr.heap.size (wr.alloc (.cells #[] 3)) (.slice (some ⟨wr.heap.size, 0, none⟩) 0 0) []) := Grow.empty elInt 3 wr.heap.size wr (Nat.le_refl _)
          have HXe := hide (HP.out.kept HBe.out)
          obtain ⟨x0, x1⟩ := HCr.out _ HBe.out
          obtain ⟨x0i, x1i⟩ := HCr.out _ HBi.out
          go_upto_region 11 with (at_builtin; refine wpList_spread (w0 := wr) elInt rfl _ _ 25 rfl wr.heap.size 3 j0 _ 8 Try.underlying25 hj0 hy0 hy1 hy2 rfl (by decide) _ [] rfl HGe.out (fun _ => True) _ pl.length _ pl rfl rfl HXe.out HOx.out (by simpa using hpl) HBr.out (by simp) ?_; intro v2 w2 HG2 HB2 HGr2; clear HGr2)
          have HBw : Hid (Below W0.heap.size W0 w2) := HBi.out.trans (HB2.out.mono HBi.out.size)
          obtain ⟨ga, gc, hgv, -, -⟩ := HG2.out.shape
          subst hgv
          have HN := hide (HG2.out.list hpl)
          simp only [List.nil_append] at HN
          clear x0 x1 x0i x1i HXe HGe HBr HBe HG2 HB2
          obtain ⟨x0, x1⟩ := HCr.out _ HBw.out
          obtain ⟨y0, y1, z0, z1⟩ := HCs.out _ HBw.out
          have x0' := over_cell x0
          have x1' := over_cell x1
          have y0' := over_cell y0
          have y1' := over_cell y1
          have z0' := over_cell z0
          have z1' := over_cell z1
          have HF1 := hide (fun x => fits_any (q := q') (p := p) (HT.out.kept (over_bel (x := x) HBw.out HBw.out.size)) (HN.out.kept (over_below w2 x)))
          have HF2 := hide (fun x => rfits_any (q := q') (p := p) (HS.out.kept (over_bel (x := x) HBw.out HBw.out.size)) (HP.out.kept (over_bel (x := x) HBw.out HBw.out.size)))
          have HF3 := hide (fun x => ints_any (HN.out.kept (over_below w2 x)) (HP.out.kept (over_bel (x := x) HBw.out HBw.out.size)))
          obtain ⟨vb2, hvb2⟩ : ∃ vb, fitB q' tl p pl = vb := ⟨_, rfl⟩
          rw [hvb2] at HF1 HF2
          rw [show decide (pl = pl) = true from decide_eq_true rfl] at HF3
          clear hvb2
          have hvv2 : (vb2 != vb2) = false := by simp
          refine wp_region_over (fun W => W = w2) (by kernel_rfl) (by kernel_rfl) rfl ?_
          rintro W rfl
          repeat (go_big_quiet_step (first | (go_at_call 10; exact calls_over (HF1.out _)) | (go_at_call 15; exact calls_over (HF2.out _)) | (go_at_call 16; exact calls_over (HF3.out _))))
          refine wpQuiet_nil ?_
          rintro _ ⟨z, rfl⟩
          have HBz : Hid (Below W0.heap.size W0 (over W z)) := HBw.out.trans ((over_below W z).mono HBw.out.size)
          generalize over W z = W2 at HBz ⊢
          clear HF1 HF2 HF3 x0 x1 x0' x1' y0 y1 z0 z1 y0' y1' z0' z1' HN HBw
          go_wp2
          go_roundw
          case rel => exact ⟨i + 1, by omega, by go_num, HBz⟩
          case measure => simp [intOf]; omega
        · obtain rfl : i = l2.length := by omega
          have hi1 : ¬ (l2.length : Int) < (l2.length : Int) := by omega
          go_wp2
          go_roundw
          case rel => exact ⟨k + 1, by omega, by go_num, HBi⟩
          case measure => simp [intOf]; omega
    · obtain rfl : k = l1.length := by omega
      have hi : ¬ (l1.length : Int) < (l1.length : Int) := by omega
      have HC := hide (shapes_any (HOw.out.kept HB.out) (HA.out.kept HB.out) HRk.out)
      go_wp2_with (go_at_call 17; refine HC.out.mono ?_; rintro e w3 ⟨rfl, h3⟩; have HB3 := hide (belot HB0.out (HB.out.trans (h3.mono HB.out.size))); clear h3)
      go_ret
      exact ⟨rfl, HB3.out⟩
end Go.Proofs.Ytpbcimpbddabeaa
