/- The document's has and Distinct. -/
import Derived.Test.YtgligipgjakecaaDoorRefShape
import Derived.Test.YtgligipgjakecaaDoorAlphaFit
import Derived.Test.YtgligipgjakecaaDoorDistPure
import Derived.Test.YtgligipgjakecaaDoorPush
namespace Go.Proofs.YtgligipgjakecaaDoor
set_option linter.unusedSimpArgs false
set_option linter.unusedVariables false
open Go.RowKit

theorem Tryd.infoShp11 : (Tryd.prog.info? 25).map (fun i => (i.zero, i.size, i.bytes)) = some (some (.agg #[.int .i64 0, .slice none 0 0]), 2, 32) := by kernel_rfl

set_option maxHeartbeats 2000000 in
theorem rhas_any {w : World} {v u : Value} {l : List Roe} {q : Int} {cs : List Int} (h : Has elRoe w v l) (h2 : Has elInt w u cs) :
    Calls Tryd.prog 19 #[v, .agg #[.int .i64 q, u]] w fun e w' => e = .returned (.bool (decide ((q, cs) ∈ l.map rk))) ∧ Below w.heap.size w w' := by
  obtain ⟨va, vc, rfl, -, -, hlen⟩ := h.shape
  obtain ⟨ua, uc, rfl, -, -, -⟩ := h2.shape
  obtain ⟨r, hr⟩ : ∃ r, decide ((q, cs) ∈ l.map rk) = r := ⟨_, rfl⟩
  rw [hr]
  have HR := hide hr
  have HB0 := hide (belo1 w (.cells #[.int .i64 q, .slice ua cs.length uc] 25))
  have b0 : (w.alloc (.cells #[.int .i64 q, .slice ua cs.length uc] 25)).cell? ⟨w.heap.size, 0, none⟩ = some (.int .i64 q) := new_cells (cs := #[.int .i64 q, .slice ua cs.length uc]) 0 _ rfl
  have b1 : (w.alloc (.cells #[.int .i64 q, .slice ua cs.length uc] 25)).cell? ⟨w.heap.size, 1, none⟩ = some (.slice ua cs.length uc) := new_cells (cs := #[.int .i64 q, .slice ua cs.length uc]) 1 _ rfl
  obtain ⟨W, hW⟩ : ∃ W, W = w.alloc (.cells #[.int .i64 q, .slice ua cs.length uc] 25) := ⟨_, rfl⟩
  rw [← hW] at HB0 b0 b1
  have HL := hide (h.kept HB0.out)
  have HU := hide (h2.kept HB0.out)
  have HWd := hide hW
  clear h h2 hr hW
  go_enter Tryd.func19, Tryd.ntmps19
  go_wp2
  rw [← HWd.out]
  clear HWd
  go_loopw [5] (fun i wl => ∃ k : Nat, k ≤ l.length ∧ i = .int .i64 k ∧ Hid ((q, cs) ∉ (l.take k).map rk) ∧ Hid (Below W.heap.size W wl)) (fun i _ => l.length - (intOf i).toNat)
  case atStart => exact ⟨0, by omega, rfl, by show (q, cs) ∉ _; simp, Below.refl _ _⟩
  case round =>
    obtain ⟨k, hk, rfl, HK, HB⟩ := hrel
    by_cases hlt : k < l.length
    · have hi : (k : Int) < (l.length : Int) := by omega
      have hi0 : (0 : Int) ≤ (k : Int) := by omega
      obtain ⟨b, off, rfl, -, -, hrow⟩ := HL.out.row (by omega)
      obtain ⟨t, hx⟩ : ∃ t, l[k]? = some t := ⟨_, List.getElem?_eq_getElem hlt⟩
      have y0 := over_cell (kept_cell HB.out (hrow k t hx 0 _ rfl))
      have y1 := over_cell (kept_cell HB.out (hrow k t hx 1 _ rfl))
      have z0 := over_cell (kept_cell HB.out b0)
      have z1 := over_cell (kept_cell HB.out b1)
      simp only [elRoe, Nat.add_zero] at y0 y1
      have htl := (elRoe_ok (HL.out.ok (List.mem_of_getElem? hx))).2
      have HC := hide (fun x => same_any (q := t.q) (p := q) ((htl.kept HB.out).kept (over_below _ x)) ((HU.out.kept HB.out).kept (over_below _ x)))
      have HX := hide hx
      have HTk : Hid (l.take (k + 1) = l.take k ++ [t]) := by show _ = _; rw [List.take_add_one, hx]; rfl
      obtain ⟨ta, tc, htv, -⟩ := htl.shape
      rw [htv] at HC y1
      clear hrow hx htl htv
      by_cases he : t.q = q ∧ t.l = cs
      · rw [show decide (t.q = q ∧ t.l = cs) = true from decide_eq_true he] at HC
        have HN : Hid (r = true) := by
          show _ = _
          rw [← HR.out]
          refine decide_eq_true (List.mem_map.2 ⟨t, List.mem_of_getElem? HX.out, ?_⟩)
          unfold rk
          rw [he.1, he.2]
        clear HR he
        go_upto_region 4 with fail
        refine wp_region_over (fun W => wr = W) (by kernel_rfl) (by kernel_rfl) rfl ?_
        rintro _ rfl
        repeat (go_big_quiet_step (first | (go_at_call 7; exact calls_over (HC.out _))))
        refine wpQuiet_nil ?_
        rintro _ ⟨z, rfl⟩
        have HBz : Hid (Below W.heap.size W (over wr z)) := HB.out.trans ((over_below wr z).mono HB.out.size)
        generalize over wr z = V2 at HBz ⊢
        clear y0 y1 z0 z1
        go_wp2
        go_ret
        exact ⟨by rw [HN.out]; rfl, belot HB0.out HBz.out⟩
      · rw [show decide (t.q = q ∧ t.l = cs) = false from decide_eq_false he] at HC
        have HN : Hid ((q, cs) ∉ (l.take (k + 1)).map rk) := by
          show (q, cs) ∉ _
          rw [HTk.out, List.map_append]
          intro hm
          rcases List.mem_append.1 hm with h1 | h1
          · exact HK.out h1
          · simp only [List.map_cons, List.map_nil, List.mem_singleton, rk, Prod.mk.injEq] at h1
            exact he ⟨h1.1.symm, h1.2.symm⟩
        clear he
        go_upto_region 4 with fail
        refine wp_region_over (fun W => wr = W) (by kernel_rfl) (by kernel_rfl) rfl ?_
        rintro _ rfl
        repeat (go_big_quiet_step (first | (go_at_call 7; exact calls_over (HC.out _))))
        refine wpQuiet_nil ?_
        rintro _ ⟨z, rfl⟩
        have HBz : Hid (Below W.heap.size W (over wr z)) := HB.out.trans ((over_below wr z).mono HB.out.size)
        generalize over wr z = V2 at HBz ⊢
        clear y0 y1 z0 z1
        go_wp2
        go_roundw
        case rel => exact ⟨k + 1, by omega, by go_num, HN, HBz⟩
        case measure => simp [intOf]; omega
    · obtain rfl : k = l.length := by omega
      have hi : ¬ (l.length : Int) < (l.length : Int) := by omega
      have HN : Hid (r = false) := by
        show _ = _
        have h1 := HK.out
        rw [List.take_of_length_le (Nat.le_refl _)] at h1
        rw [← HR.out]
        exact decide_eq_false h1
      clear HR
      go_wp2
      go_ret
      exact ⟨by rw [HN.out]; rfl, belot HB0.out HB.out⟩

set_option maxRecDepth 100000 in
set_option maxHeartbeats 4000000 in
theorem rdistinct_any {w : World} {v : Value} {ps : List Pat} (h : Has elPat w v ps) :
    Calls Tryd.prog 10 #[v] w fun e w' => ∃ u, e = .returned u ∧ ∃ l, Has elRoe w' u l ∧ l.map rk = distL ps ∧ Below w.heap.size w w' := by
  obtain ⟨i0, hi0', hz0, hz1, hz2⟩ := info_parts Tryd.infoShp11
  obtain ⟨va, vc, rfl, -, -, hlen⟩ := h.shape
  have HL0 := hide h
  clear h
  go_enter Tryd.func10, Tryd.ntmps10
  go_wp2
  go_loopw [3, 4] (fun s i wl => ∃ (k : Nat) (l : List Roe), k ≤ ps.length ∧ i = .int .i64 k ∧ Hid (l.map rk = distL (ps.take k)) ∧ Hid (Grow elRoe 25 w.heap.size wl s l) ∧ Hid (Below w.heap.size w wl)) (fun _ i _ => ps.length - (intOf i).toNat)
  case atStart => exact ⟨0, [], by omega, rfl, rfl, Grow.nil _ _ _ _, Below.refl _ _⟩
  case round =>
    obtain ⟨k, l, hk, rfl, HE, HG, HB⟩ := hrel
    have HLn : Hid (l.length ≤ k) := by
      show _ ≤ _
      have h1 := congrArg List.length HE.out
      have h2 := distL_len ps k
      rw [List.length_map] at h1
      omega
    obtain ⟨ga, gc, hgv, -, -⟩ := HG.out.shape
    subst hgv
    by_cases hlt : k < ps.length
    · have hi : (k : Int) < (ps.length : Int) := by omega
      have hi0 : (0 : Int) ≤ (k : Int) := by omega
      obtain ⟨b, off, rfl, -, -, hrow⟩ := HL0.out.row (by omega)
      obtain ⟨p, hp⟩ : ∃ p, ps[k]? = some p := ⟨_, List.getElem?_eq_getElem hlt⟩
      have y0 := kept_cell HB.out (hrow k p hp 0 _ rfl)
      have y1 := kept_cell HB.out (hrow k p hp 1 _ rfl)
      simp only [elPat, Nat.add_zero] at y0 y1
      have hpk := elPat_ok (HL0.out.ok (List.mem_of_getElem? hp))
      have HPs := hide (hpk.2.kept HB.out)
      have hpq := hpk.1
      obtain ⟨pa, pc, hpv, -, -, -⟩ := hpk.2.shape
      have HTk := hide (distL_snoc hp)
      obtain ⟨q, pv, ss⟩ := p
      dsimp only at y0 y1 hpk HPs hpq hpv
      subst hpv
      clear hrow hp hpk
      have HSh := hide (rshape_any (q := q) HPs.out)
      by_cases hok : ShapeOk q ss
      · have HSk : Hid (Calls Tryd.prog 5 #[.agg #[.int .i64 q, .slice pa ss.length pc]] wr fun e w' => ∃ u, e = .returned (.agg #[.int .i64 q, u]) ∧ Lst elInt w' (fun b => wr.heap.size ≤ b) u (shapeC ss) ∧ Below wr.heap.size wr w') := HSh.out.mono fun e w' ⟨ha, hb⟩ => by
          rcases ha with ⟨_, u, he, hl⟩ | ⟨hno, _⟩
          · exact ⟨u, he, hl, hb⟩
          · exact absurd hok hno
        have HVd := hide (vldB_yes (shape_vld hok))
        clear HSh
        go_upto_region 6 with (go_at_call 5; refine HSk.out.mono ?_; rintro e w2 ⟨u, rfl, hl, hb⟩; have HL2 := hide hl; have HB2 := hide hb; obtain ⟨ua, uc, hu, -⟩ := hl.shape; subst hu; clear hl hb)
        obtain ⟨V1, hV1⟩ : ∃ V1, V1 = w2.alloc (.cells #[.int .i64 q, .slice ua (shapeC ss).length uc] 25) := ⟨_, rfl⟩
        have HV1b : Hid (Below w2.heap.size w2 V1) := by rw [hV1]; exact belo1 _ _
        have e0 : V1.cell? ⟨w2.heap.size, 0, none⟩ = some (.int .i64 q) := by rw [hV1]; exact new_cells (cs := #[.int .i64 q, .slice ua (shapeC ss).length uc]) 0 _ rfl
        have e1 : V1.cell? ⟨w2.heap.size, 1, none⟩ = some (.slice ua (shapeC ss).length uc) := by rw [hV1]; exact new_cells (cs := #[.int .i64 q, .slice ua (shapeC ss).length uc]) 1 _ rfl
        obtain ⟨SB, hSB⟩ : ∃ SB, w2.heap.size = SB := ⟨_, rfl⟩
        have HVb : Hid (Below wr.heap.size wr V1) := belot HB2.out HV1b.out
        have HL3 : Hid (Lst elInt V1 (fun b => wr.heap.size ≤ b) (.slice ua (shapeC ss).length uc) (shapeC ss)) := HL2.out.move fun b hb hF => ⟨hF, HV1b.out.block b hb⟩
        have HG1 := hide (HG.out.kept HVb.out)
        rw [← hV1]
        rw [hSB] at e0 e1 ⊢
        clear hV1 hSB y0 y1 HSk HL2 HB2 HV1b
        have HCv := hide (rvalid_any (q := q) HL3.out.all)
        rw [HVd.out] at HCv
        obtain ⟨cs, hcs⟩ : ∃ cs, shapeC ss = cs := ⟨_, rfl⟩
        have HCs := hide hcs
        rw [hcs] at HCv HL3 e1 ⊢
        clear hcs
        have HLi := hide (HG1.out.list (by have := HLn.out; omega))
        have HHas := hide (fun V hV => rhas_any (w := V) (q := q) (HLi.out.kept hV) (HL3.out.all.kept hV))
        rw [HE.out] at HHas
        by_cases hin : (q, cs) ∈ distL (ps.take k)
        · have HEq : Hid (distL (ps.take (k + 1)) = distL (ps.take k)) := by show _ = _; rw [HTk.out]; exact distS_old (by dsimp only; rw [HCs.out]; exact hin)
          rw [show decide ((q, cs) ∈ distL (ps.take k)) = true from decide_eq_true hin] at HHas
          go_wp2_with (first
            | (go_at_call 9; refine HCv.out.mono ?_; rintro e w3 ⟨rfl, h3⟩; have HY3 := hide h3; have HC3 := hide (HHas.out _ h3); have f0 := kept_cell h3 e0; have f1 := kept_cell h3 e1; clear h3 e0 e1)
            | (go_at_call 19; refine HC3.out.mono ?_; rintro e w4 ⟨rfl, h4⟩; have HY4 := hide (belot HY3.out h4); clear h4 HC3))
          go_roundw
          case rel => exact ⟨k + 1, l, by omega, by go_num, by rw [HEq.out]; exact HE, HG1.out.kept HY4.out, HB.out.trans ((belot HVb.out HY4.out).mono HB.out.size)⟩
          case measure => simp [intOf]; omega
        · have HEq : Hid (distL (ps.take (k + 1)) = distL (ps.take k) ++ [(q, cs)]) := by show _ = _; rw [HTk.out, ← HCs.out]; exact distS_new hok (by dsimp only; rw [HCs.out]; exact hin)
          rw [show decide ((q, cs) ∈ distL (ps.take k)) = false from decide_eq_false hin] at HHas
          have hl30 : l.length + 1 < 1073741824 := by have := HLn.out; omega
          go_upto_region 7 with (first
            | (go_at_call 9; refine HCv.out.mono ?_; rintro e w3 ⟨rfl, h3⟩; have HY3 := hide h3; have HC3 := hide (HHas.out _ h3); have f0 := kept_cell h3 e0; have f1 := kept_cell h3 e1; clear h3 e0 e1)
            | (go_at_call 19; refine HC3.out.mono ?_; rintro e w4 ⟨rfl, h4⟩; have HY4 := hide (belot HY3.out h4); have g0 := kept_cell h4 f0; have g1 := kept_cell h4 f1; clear h4 HC3 f0 f1))
          have HG4 := hide (HG1.out.kept HY4.out)
          have HL4 : Hid (Lst elInt w4 (fun b => wr.heap.size ≤ b) (.slice ua cs.length uc) cs) := HL3.out.move fun b hb hF => ⟨hF, HY4.out.block b hb⟩
          have HOw : Hid (∀ j, (Value.slice ga l.length gc).ownBlock = some j → j < wr.heap.size) := fun j hj => own_lt6 HG.out.1 j hj
          have HOk : Hid (elRoe.ok (w4.alloc (.cells #[.int .i64 q, .slice ua cs.length uc] 25)) (fun b => w.heap.size ≤ b ∧ (Value.slice ga l.length gc).ownBlock ≠ some b) ⟨q, .slice ua cs.length uc, cs⟩) := ⟨hpq, HL4.out.move fun b hb hF => ⟨⟨by have := HB.out.size; omega, fun e => by have := HOw.out b e; omega⟩, (belo1 w4 _).block b hb⟩⟩
          have HG5 := hide (HG4.out.kept (belo1 w4 (.cells #[.int .i64 q, .slice ua cs.length uc] 25)))
          have HBw4 : Hid (Below w.heap.size w w4) := HB.out.trans ((belot HVb.out HY4.out).mono HB.out.size)
          have HB5 : Hid (Below w.heap.size w (w4.alloc (.cells #[.int .i64 q, .slice ua cs.length uc] 25))) := belot HBw4.out (belo1 w4 _)
          go_wp2_with (at_builtin; refine wpList_push (w0 := w) elRoe rfl _ _ 32 rfl w.heap.size 25 i0 _ 32 Tryd.underlying32 hi0' hz0 hz1 hz2 rfl (by decide) _ l l.length rfl rfl HG5.out ⟨q, .slice ua cs.length uc, cs⟩ w4.heap.size 1 rfl (fun j u hu => new_cells (cs := #[.int .i64 q, .slice ua cs.length uc]) j u hu) HOk.out hl30 HB5.out HB5.out.size ?_; intro g cap' w5 HG6 HB6 HGr; clear HGr)
          go_roundw
          case rel => exact ⟨k + 1, _, by omega, by go_num, by show _ = _; rw [HEq.out, List.map_append, HE.out]; rfl, HG6, HB6⟩
          case measure => simp [intOf]; omega
      · have HSk : Hid (Calls Tryd.prog 5 #[.agg #[.int .i64 q, .slice pa ss.length pc]] wr fun e w' => e = .returned (.agg #[.int .i64 (-1), .slice none 0 0]) ∧ Below wr.heap.size wr w') := HSh.out.mono fun e w' ⟨ha, hb⟩ => by
          rcases ha with ⟨hyes, _⟩ | ⟨_, he⟩
          · exact absurd hyes hok
          · exact ⟨he, hb⟩
        have HEq : Hid (distL (ps.take (k + 1)) = distL (ps.take k)) := by show _ = _; rw [HTk.out]; exact distS_no hok
        have HVn := hide (fun V : World => rvalid_any (q := -1) (Lst.nil elInt V (fun _ => True)))
        rw [show vldB (-1) [] = false from vldB_no fun h => by have := h.1; omega] at HVn
        clear HSh
        go_wp2_with (first
          | (go_at_call 5; refine HSk.out.mono ?_; rintro e w2 ⟨rfl, hb⟩; have HB2 := hide hb; clear hb)
          | (go_at_call 9; refine (HVn.out _).mono ?_; rintro e w3 ⟨rfl, h3⟩; have HB3 := hide (belot HB2.out (belot (belo1 w2 _) h3)); clear h3))
        go_roundw
        case rel => exact ⟨k + 1, l, by omega, by go_num, by rw [HEq.out]; exact HE, HG.out.kept HB3.out, HB.out.trans (HB3.out.mono HB.out.size)⟩
        case measure => simp [intOf]; omega
    · obtain rfl : k = ps.length := by omega
      have hi : ¬ (ps.length : Int) < (ps.length : Int) := by omega
      rw [List.take_of_length_le (Nat.le_refl _)] at HE
      go_wp2
      go_ret
      exact ⟨_, rfl, l, HG.out.list (by have := HLn.out; omega), HE.out, HB.out⟩
end Go.Proofs.YtgligipgjakecaaDoor
