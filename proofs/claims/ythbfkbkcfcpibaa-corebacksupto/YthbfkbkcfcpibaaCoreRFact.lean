/- What the document's Fact answers. -/
import Derived.Test.YthbfkbkcfcpibaaCoreFact2
import Derived.Test.YthbfkbkcfcpibaaRegionLast
namespace Go.Proofs.Ythbfkbkcfcpibaa
set_option linter.unusedSimpArgs false
set_option linter.unusedVariables false
open Go.RowKit

def arP (ps : List Prd) (q : Int) (n : Nat) : Bool := match idx ps q with
  | none => false
  | some p => ((n : Int) == p.n)
theorem rowW_eq (ps : List Prd) (cs : List Con) (r : Roe) : rowW ps cs r = (arP ps r.q r.l.length && r.l.all (inC cs)) := by
  unfold rowW arP
  cases idx ps r.q <;> simp

set_option maxRecDepth 100000 in
set_option maxHeartbeats 2000000 in
theorem rfact_any {w : World} {pv cv rv fv : Value} {ps : List Prd} {cs : List Con} {r : Roe} (hp : Has elPrd w pv ps) (hc : Has elCon w cv cs) (hr : elRoe.ok w (fun _ => True) r) :
    Calls Try.prog 9 #[.agg #[pv, cv, rv, fv], .agg #[.int .i64 r.q, r.v]] w fun e w' => FactRes w w' ps cs r e ∧ Below w.heap.size w w' := by
  obtain ⟨q, v, l⟩ := r
  have hl := (elRoe_ok hr).2
  clear hr
  dsimp only at hl ⊢
  obtain ⟨la, lc, rfl, -, -, hlen⟩ := hl.shape
  obtain ⟨pa, pc, rfl, -, -, -⟩ := hp.shape
  obtain ⟨ca, cc, rfl, -, -, -⟩ := hc.shape
  have HL := hide hl
  have HC := hide hc
  have HP := hide hp
  have HR := hide (rowW_eq ps cs ⟨q, .slice la l.length lc, l⟩)
  dsimp only at HR
  clear hl hc hp
  go_enter Try.func9, Try.ntmps9
  go_upto_region 1 with fail
  obtain ⟨Y, hY⟩ : ∃ Y, Y = (((w.alloc (.cells #[.slice pa ps.length pc, .slice ca cs.length cc, rv, fv] 27)).alloc (.cells #[.int .i64 q, .slice la l.length lc] 44)).alloc (.cells #[.string ⟨#[]⟩, .slice none 0 0] 39)) := ⟨_, rfl⟩
  have HSz : Hid (Y.heap.size = w.heap.size + 1 + 1 + 1) := by show _ = _; rw [hY]; simp
  have HB0 : Hid (Below w.heap.size w Y) := by rw [hY]; exact below3 w _ _ _
  have HX : Hid (coreAt Y w.heap.size (.slice pa ps.length pc) (.slice ca cs.length cc) rv fv ∧ twoAt Y (w.heap.size + 1) (.int .i64 q) (.slice la l.length lc) ∧ Y.heap[w.heap.size + 1 + 1]? = some (.cells #[.string ⟨#[]⟩, .slice none 0 0] 39 (0, 0))) := by
    show _ ∧ _
    rw [hY]
    refine ⟨(coreAt_new _ _ _ _ _ _).kept (belo2 _ _ _), (twoAt_new _ _ _ _ (by simp)).kept (belo1 _ _), ?_⟩
    have h1 := heap_alloc_new ((w.alloc (.cells #[.slice pa ps.length pc, .slice ca cs.length cc, rv, fv] 27)).alloc (.cells #[.int .i64 q, .slice la l.length lc] 44)) (.cells #[.string ⟨#[]⟩, .slice none 0 0] 39)
    rw [size_alloc1, size_alloc1] at h1
    exact h1
  rw [← hY]
  clear hY
  obtain ⟨b1, hb1⟩ : ∃ x, arP ps q l.length = x := ⟨_, rfl⟩
  rw [hb1] at HR
  have HB1e := hide hb1
  clear hb1
  go_cut [31] (fun t wx => t = .bool (!b1) ∧ Hid (Below Y.heap.size Y wx))
  case first =>
    have p0 := over_cell HX.out.1.1
    have r0 := over_cell HX.out.2.1.1
    have r1 := over_cell HX.out.2.1.2
    have hb1 := HB1e.out
    unfold arP at hb1
    cases hx : idx ps q with
    | none =>
      rw [hx] at hb1
      dsimp only at hb1
      subst hb1
      rcases idx_none hx with hn | ⟨k, rfl, hk⟩
      · have hd : decide (q < 0) = true := by simpa using hn
        clear hx hn
        refine wp_region_over (fun W => W = Y) (by kernel_rfl) (by kernel_rfl) rfl ?_
        rintro W rfl
        repeat (go_big_quiet_step (first | fail))
        refine wpQuiet_nil ?_
        rintro _ ⟨z, rfl⟩
        go_wp2
        go_meet
        exact ⟨rfl, over_below _ _⟩
      · have hd : decide ((k : Int) < 0) = false := by simp
        have hd2 : decide ((ps.length : Int) ≤ (k : Int)) = true := by simpa using hk
        have hd3 : decide (ps.length ≤ k) = true := by simpa using hk
        clear hx hk
        refine wp_region_over (fun W => W = Y) (by kernel_rfl) (by kernel_rfl) rfl ?_
        rintro W rfl
        repeat (go_big_quiet_step (first | fail))
        refine wpQuiet_nil ?_
        rintro _ ⟨z, rfl⟩
        go_wp2
        go_meet
        exact ⟨rfl, over_below _ _⟩
    | some x =>
      rw [hx] at hb1
      dsimp only at hb1
      obtain ⟨k0, rfl, hk0, hx⟩ := idx_some hx
      obtain ⟨pb, po, rfl, -, -, hprow⟩ := HP.out.row (by omega)
      have c1 := over_cell (kept_cell HB0.out (hprow k0 x hx 1 _ rfl))
      simp only [elPrd] at c1
      have hd : decide ((k0 : Int) < 0) = false := by simp
      have hd2 : decide ((ps.length : Int) ≤ (k0 : Int)) = false := by simpa using hk0
      have hd3 : decide (ps.length ≤ k0) = false := by simpa using hk0
      have hk0' : (k0 : Int) < (ps.length : Int) := by omega
      have hk00 : (0 : Int) ≤ (k0 : Int) := by omega
      have hn' : ((l.length : Int) != x.n) = !b1 := by rw [← hb1]; rfl
      clear hx hprow hb1 HB1e HR
      cases b1
      · simp only [Bool.not_false] at hn'
        refine wp_region_over (fun W => W = Y) (by kernel_rfl) (by kernel_rfl) rfl ?_
        rintro W rfl
        repeat (go_big_quiet_step (first | fail))
        refine wpQuiet_nil ?_
        rintro _ ⟨z, rfl⟩
        go_wp2
        go_meet
        exact ⟨rfl, over_below _ _⟩
      · simp only [Bool.not_true] at hn'
        refine wp_region_over (fun W => W = Y) (by kernel_rfl) (by kernel_rfl) rfl ?_
        rintro W rfl
        repeat (go_big_quiet_step (first | fail))
        refine wpQuiet_nil ?_
        rintro _ ⟨z, rfl⟩
        go_wp2
        go_meet
        exact ⟨rfl, over_below _ _⟩
  case rest =>
    obtain ⟨rfl, HBc⟩ := hcut
    have HBw := hide (HB0.out.trans (HBc.out.mono HB0.out.size))
    have hszc : w.heap.size + 1 + 1 + 1 ≤ wc.heap.size := by have := HBc.out.size; rw [HSz.out] at this; exact this
    have HXc := hide (And.intro (HX.out.1.kept HBc.out) (HX.out.2.1.kept HBc.out))
    have HRb : Hid (wc.heap[w.heap.size + 1 + 1]? = some (.cells #[.string ⟨#[]⟩, .slice none 0 0] 39 (0, 0))) := by show _ = _; rw [HBc.out.block _ (by rw [HSz.out]; omega)]; exact HX.out.2.2
    clear HBc HX HB0 HSz
    cases b1 with
    | false =>
      have hb0 : wc.cell? ⟨w.heap.size + 1 + 1, 0, none⟩ = some (.string ⟨#[]⟩) := by simp [World.cell?, HRb.out]
      have hb1 : wc.cell? ⟨w.heap.size + 1 + 1, 1, none⟩ = some (.slice none 0 0) := by simp [World.cell?, HRb.out]
      have hf0 : wc.frozen? ⟨w.heap.size + 1 + 1, 0, none⟩ = false := by simp [World.frozen?, HRb.out]
      have hf1 : wc.frozen? ⟨w.heap.size + 1 + 1, 1, none⟩ = false := by simp [World.frozen?, HRb.out]
      go_wp2
      exact bodyPost_ret (v := .tuple #[.agg #[.string ⟨#[]⟩, .slice none 0 0], .int .i64 2]) (by simp [results, Try.results9, go_sem, hb0, hb1]) rfl ⟨.inl ⟨by rw [HR.out]; rfl, rfl⟩, (HBw.out.setCell (by dsimp only; omega) _).setCell (by dsimp only; omega) _⟩
    | true =>
      rw [Bool.not_true]
      have hb1 := HB1e.out
      unfold arP at hb1
      cases hx : idx ps q with
      | none => rw [hx] at hb1; cases hb1
      | some x =>
      have HN : Hid (nameP ps q = x.s) := by show _ = _; unfold nameP; rw [hx]; rfl
      clear hb1 HB1e
      obtain ⟨k0, rfl, hk0, hx⟩ := idx_some hx
      obtain ⟨pb, po, rfl, -, -, hprow⟩ := HP.out.row (by omega)
      have c0 := kept_cell HBw.out (hprow k0 x hx 0 _ rfl)
      simp only [elPrd, Nat.add_zero] at c0
      have hk0' : (k0 : Int) < (ps.length : Int) := by omega
      have hk00 : (0 : Int) ≤ (k0 : Int) := by omega
      obtain ⟨⟨p0, p1, p2, p3⟩, r0, r1⟩ := HXc.out
      clear hx hprow HP
      go_wp2
      clear c0 p0 p1 p2 p3 r0 r1
      obtain ⟨B, hB⟩ : ∃ B, B = wc.heap.size := ⟨_, rfl⟩
      have HA0 : Hid ((wc.alloc (.cells #[.string x.s, .slice none 0 0] 39)).heap[B]? = some (.cells #[.string x.s, .slice none 0 0] 39 (0, 0))) := by rw [hB]; exact heap_alloc_new _ _
      have HBz0 : Hid (Below B wc (wc.alloc (.cells #[.string x.s, .slice none 0 0] 39))) := by rw [hB]; exact belo1 _ _
      rw [← hB] at hszc ⊢
      have HBe := hide hB
      clear hB
      go_loopw [7] (fun i wl => ∃ k : Nat, ∃ ba bc, k ≤ l.length ∧ i = .int .i64 k ∧ Hid (Grow elCon 46 (B + 1) wl (.slice ba k bc) ((l.take k).map (cP cs))) ∧ Hid (wl.heap[B]? = some (.cells #[.string x.s, .slice ba k bc] 39 (0, 0))) ∧ Hid ((l.take k).all (inC cs) = true) ∧ Hid (Below B wc wl)) (fun i _ => l.length - (intOf i).toNat)
      case atStart => exact ⟨0, none, 0, by omega, rfl, Grow.nil _ _ _ _, HA0, by show (l.take 0).all _ = true; simp, HBz0⟩
      case round =>
        obtain ⟨k, ba, bc, hk, rfl, HG, HA, HK, HB⟩ := hrel
        have hsz : B + 1 ≤ wr.heap.size := lt_of_heap HA.out
        have HBv : Hid (Below wc.heap.size wc wr) := by rw [← HBe.out]; exact HB.out
        have HBw2 := hide (HBw.out.trans (HBv.out.mono HBw.out.size))
        have HXr := hide (And.intro (HXc.out.1.kept HBv.out) (HXc.out.2.kept HBv.out))
        have HRb2 : Hid (wr.heap[w.heap.size + 1 + 1]? = some (.cells #[.string ⟨#[]⟩, .slice none 0 0] 39 (0, 0))) := by show _ = _; rw [HB.out.block _ (by omega)]; exact HRb.out
        have hr1 := HXr.out.2.2
        by_cases hlt : k < l.length
        · have hi : (k : Int) < (l.length : Int) := by omega
          have hi0 : (0 : Int) ≤ (k : Int) := by omega
          obtain ⟨lb, lo, rfl, -, -, hrow⟩ := HL.out.row (by omega)
          obtain ⟨n, hn⟩ : ∃ s, l[k]? = some s := ⟨_, List.getElem?_eq_getElem hlt⟩
          have x0 := kept_cell HBw2.out (hrow k n hn 0 _ rfl)
          simp only [elInt, Nat.add_zero, Nat.mul_one] at x0
          have HTk : Hid ((l.take (k + 1)).map (cP cs) = (l.take k).map (cP cs) ++ [cP cs n]) := by show _ = _; rw [List.take_add_one, hn, List.map_append]; rfl
          have HLn : Hid (((l.take k).map (cP cs)).length = k) := by show _ = _; rw [List.length_map, List.length_take]; omega
          have HTa : Hid ((l.take (k + 1)).all (inC cs) = inC cs n) := by show _ = _; rw [List.take_add_one, hn, List.all_append, HK.out]; simp
          have HAt : Hid (inC cs n = false → l.all (inC cs) = false) := fun h => by
            rw [List.all_eq_false]
            exact ⟨n, List.mem_of_getElem? hn, by rw [h]; simp⟩
          have HCo := hide (cP_ok (cs := cs) (fun c hc => HC.out.ok hc) n)
          have hlb : lb < w.heap.size := by obtain ⟨b', o', e', hb', -⟩ := HL.out.row (by omega); cases e'; exact hb'
          clear hrow hn
          obtain ⟨gw, hgw⟩ : ∃ x, inC cs n = x := ⟨_, rfl⟩
          rw [hgw] at HTa HAt
          go_upto_region 7 with fail
          go_cut [64] (fun t wx => t = .bool (!gw) ∧ Hid (Below wr.heap.size wr wx))
          case first =>
            have hg2 := hgw
            rw [inC_eq] at hg2
            have p1 := over_cell HXr.out.1.2.1
            have r1' := over_cell hr1
            have x0' := over_cell x0
            clear hr1 x0
            by_cases hn0 : n < 0
            · have hd : decide (n < 0) = true := by simpa using hn0
              have hgf : gw = false := by rw [← hg2, decide_eq_false (by omega)]; rfl
              subst hgf
              clear hg2 hgw hn0 HTa HAt
              refine wp_region_over (fun W => W = wr) (by kernel_rfl) (by kernel_rfl) rfl ?_
              rintro W rfl
              repeat (go_big_quiet_step (first | fail))
              refine wpQuiet_nil ?_
              rintro _ ⟨z, rfl⟩
              go_wp2
              go_meet
              exact ⟨rfl, over_below _ _⟩
            · have hd : decide (n < 0) = false := by simpa using hn0
              have hd2 : decide ((cs.length : Int) ≤ n) = !gw := by
                rw [← hg2, decide_eq_true (show (0 : Int) ≤ n by omega), Bool.true_and]
                by_cases h3 : n < (cs.length : Int)
                · rw [decide_eq_true h3, decide_eq_false (by omega)]; rfl
                · rw [decide_eq_false h3, decide_eq_true (by omega)]; rfl
              clear hg2 hgw hn0 HTa HAt
              cases gw
              · simp only [Bool.not_false] at hd2
                refine wp_region_over (fun W => W = wr) (by kernel_rfl) (by kernel_rfl) rfl ?_
                rintro W rfl
                repeat (go_big_quiet_step (first | fail))
                refine wpQuiet_nil ?_
                rintro _ ⟨z, rfl⟩
                go_wp2
                go_meet
                exact ⟨rfl, over_below _ _⟩
              · simp only [Bool.not_true] at hd2
                refine wp_region_over (fun W => W = wr) (by kernel_rfl) (by kernel_rfl) rfl ?_
                rintro W rfl
                repeat (go_big_quiet_step (first | fail))
                refine wpQuiet_nil ?_
                rintro _ ⟨z, rfl⟩
                go_wp2
                go_meet
                exact ⟨rfl, over_below _ _⟩
          case rest =>
            obtain ⟨rfl, HBu⟩ := hcut
            have HG1 := hide (HG.out.kept HBu.out)
            have HA1 : Hid (wc.heap[B]? = some (.cells #[.string x.s, .slice ba k bc] 39 (0, 0))) := by show _ = _; rw [HBu.out.block _ (lt_of_heap HA.out)]; exact HA.out
            have HBw3 := hide (HBw2.out.trans (HBu.out.mono HBw2.out.size))
            have HXu := hide (And.intro (HXr.out.1.kept HBu.out) (HXr.out.2.kept HBu.out))
            have x0u := kept_cell HBu.out x0
            have hszu := HBu.out.size
            cases gw with
            | false =>
              have HRb3 : Hid (wc.heap[w.heap.size + 1 + 1]? = some (.cells #[.string ⟨#[]⟩, .slice none 0 0] 39 (0, 0))) := by show _ = _; rw [HBu.out.block _ (by omega)]; exact HRb2.out
              have hb0 : wc.cell? ⟨w.heap.size + 1 + 1, 0, none⟩ = some (.string ⟨#[]⟩) := by simp [World.cell?, HRb3.out]
              have hb1 : wc.cell? ⟨w.heap.size + 1 + 1, 1, none⟩ = some (.slice none 0 0) := by simp [World.cell?, HRb3.out]
              have hf0 : wc.frozen? ⟨w.heap.size + 1 + 1, 0, none⟩ = false := by simp [World.frozen?, HRb3.out]
              have hf1 : wc.frozen? ⟨w.heap.size + 1 + 1, 1, none⟩ = false := by simp [World.frozen?, HRb3.out]
              clear x0u hgw hr1 x0
              go_wp2
              exact bodyPost_ret (v := .tuple #[.agg #[.string ⟨#[]⟩, .slice none 0 0], .int .i64 2]) (by simp [results, Try.results9, go_sem, hb0, hb1]) rfl ⟨.inl ⟨by rw [HR.out, HAt.out (by first | rfl | trivial)]; rfl, rfl⟩, (HBw3.out.setCell (by dsimp only; omega) _).setCell (by dsimp only; omega) _⟩
            | true =>
              obtain ⟨c, hc⟩ := Option.isSome_iff_exists.1 hgw
              have hcp : cP cs n = c := by unfold cP; rw [hc]; rfl
              rw [hcp] at HTk HCo
              obtain ⟨m, rfl, hm, hc⟩ := idx_some hc
              obtain ⟨cb, co, rfl, hcb, -, hcrow⟩ := HC.out.row (by omega)
              have y0 := kept_cell HBw3.out (hcrow m c hc 0 _ rfl)
              have y1 := kept_cell HBw3.out (hcrow m c hc 1 _ rfl)
              have y2 := kept_cell HBw3.out (hcrow m c hc 2 _ rfl)
              simp only [elCon, Nat.add_zero] at y0 y1 y2
              have hm1 : (m : Int) < (cs.length : Int) := by omega
              have hm0 : (0 : Int) ≤ (m : Int) := by omega
              clear hgw hcp hc hcrow hr1 x0
              obtain ⟨ck, cn, cx⟩ := c
              dsimp only at y0 y1 y2
              have HSc : Hid (∀ V : World, Below wc.heap.size wc V → V.cell? ⟨B, 1, none⟩ = some (.slice ba k bc) ∧ V.cell? ⟨w.heap.size, 1, none⟩ = some (.slice (some ⟨cb, co, none⟩) cs.length cc) ∧ V.cell? ⟨w.heap.size + 1, 1, none⟩ = some (.slice (some ⟨lb, lo, none⟩) l.length lc) ∧ V.cell? ⟨lb, lo + k, none⟩ = some (.int .i64 m) ∧ V.cell? ⟨cb, co + m * 3, none⟩ = some (.int .i64 ck) ∧ V.cell? ⟨cb, co + m * 3 + 1, none⟩ = some (.int .i64 cn) ∧ V.cell? ⟨cb, co + m * 3 + 2, none⟩ = some (.string cx)) := fun V hV => ⟨kept_cell hV (by simp [World.cell?, HA1.out]), kept_cell hV HXu.out.1.2.1, kept_cell hV HXu.out.2.2, kept_cell hV x0u, kept_cell hV y0, kept_cell hV y1, kept_cell hV y2⟩
              obtain ⟨i0, hi0', hz0, hz1, hz2⟩ := info_parts Try.infoCon7
              have hlew := HBw.out.size
              clear y0 y1 y2 x0u
              go_upto_region 9 with fail
              refine wp_region_last (by kernel_rfl) (fun V => V.cell? ⟨B, 1, none⟩ = some (.slice ba k bc) ∧ V.cell? ⟨w.heap.size, 1, none⟩ = some (.slice (some ⟨cb, co, none⟩) cs.length cc) ∧ V.cell? ⟨w.heap.size + 1, 1, none⟩ = some (.slice (some ⟨lb, lo, none⟩) l.length lc) ∧ V.cell? ⟨lb, lo + k, none⟩ = some (.int .i64 m) ∧ V.cell? ⟨cb, co + m * 3, none⟩ = some (.int .i64 ck) ∧ V.cell? ⟨cb, co + m * 3 + 1, none⟩ = some (.int .i64 cn) ∧ V.cell? ⟨cb, co + m * 3 + 2, none⟩ = some (.string cx)) 14 ?_
              have HS1 := HSc.out wc.drew (Below.refl _ wc).drew
              refine wpAnyM_take (i := 0) (v := ?_) rfl (by kernel_rfl) (by kernel_rfl) (by kernel_rfl) (by kernel_rfl) (fun _ _ _ h => h) HS1 (Or.inl ⟨by rfl, ?_⟩) ?_
              rotate_left
              · (intro w hSw; (try dsimp only at hSw); go_simp; try with_reducible rfl)
              simp only [Act.put, List.setIfInBounds_toArray, List.set_cons_zero, List.set_cons_succ]
              refine wpAnyM_take (i := 1) (v := ?_) rfl (by kernel_rfl) (by kernel_rfl) (by kernel_rfl) (by kernel_rfl) (fun _ _ _ h => h) HS1 (Or.inl ⟨by rfl, ?_⟩) ?_
              rotate_left
              · (intro w hSw; (try dsimp only at hSw); go_simp; try with_reducible rfl)
              simp only [Act.put, List.setIfInBounds_toArray, List.set_cons_zero, List.set_cons_succ]
              refine wpAnyM_take (i := 2) (v := ?_) rfl (by kernel_rfl) (by kernel_rfl) (by kernel_rfl) (by kernel_rfl) (fun _ _ _ h => h) HS1 (Or.inl ⟨by rfl, ?_⟩) ?_
              rotate_left
              · (intro w hSw; (try dsimp only at hSw); go_simp; try with_reducible rfl)
              simp only [Act.put, List.setIfInBounds_toArray, List.set_cons_zero, List.set_cons_succ]
              refine wpAnyM_take (i := 3) (v := ?_) rfl (by kernel_rfl) (by kernel_rfl) (by kernel_rfl) (by kernel_rfl) (fun _ _ _ h => h) HS1 (Or.inl ⟨by rfl, ?_⟩) ?_
              rotate_left
              · (intro w hSw; (try dsimp only at hSw); go_simp; try with_reducible rfl)
              simp only [Act.put, List.setIfInBounds_toArray, List.set_cons_zero, List.set_cons_succ]
              refine wpAnyM_take (i := 4) (v := ?_) rfl (by kernel_rfl) (by kernel_rfl) (by kernel_rfl) (by kernel_rfl) (fun _ _ _ h => h) HS1 (Or.inl ⟨by rfl, ?_⟩) ?_
              rotate_left
              · (intro w hSw; (try dsimp only at hSw); go_simp; try with_reducible rfl)
              simp only [Act.put, List.setIfInBounds_toArray, List.set_cons_zero, List.set_cons_succ]
              refine wpAnyM_take (i := 5) (v := ?_) rfl (by kernel_rfl) (by kernel_rfl) (by kernel_rfl) (by kernel_rfl) (fun _ _ _ h => h) HS1 (Or.inl ⟨by rfl, ?_⟩) ?_
              rotate_left
              · (intro w hSw; (try dsimp only at hSw); go_simp; try with_reducible rfl)
              simp only [Act.put, List.setIfInBounds_toArray, List.set_cons_zero, List.set_cons_succ]
              refine wpAnyM_take (i := 6) (v := ?_) rfl (by kernel_rfl) (by kernel_rfl) (by kernel_rfl) (by kernel_rfl) (fun _ _ _ h => h) HS1 (Or.inl ⟨by rfl, ?_⟩) ?_
              rotate_left
              · (intro w hSw; (try dsimp only at hSw); go_simp; try with_reducible rfl)
              simp only [Act.put, List.setIfInBounds_toArray, List.set_cons_zero, List.set_cons_succ]
              refine wpAnyM_take (i := 7) (v := ?_) rfl (by kernel_rfl) (by kernel_rfl) (by kernel_rfl) (by kernel_rfl) (fun _ _ _ h => h) HS1 (Or.inl ⟨by rfl, ?_⟩) ?_
              rotate_left
              · (intro w hSw; (try dsimp only at hSw); go_simp; try with_reducible rfl)
              simp only [Act.put, List.setIfInBounds_toArray, List.set_cons_zero, List.set_cons_succ]
              refine wpAnyM_take (i := 8) (v := ?_) rfl (by kernel_rfl) (by kernel_rfl) (by kernel_rfl) (by kernel_rfl) (fun _ _ _ h => h) HS1 (Or.inl ⟨by rfl, ?_⟩) ?_
              rotate_left
              · (intro w hSw; (try dsimp only at hSw); go_simp; try with_reducible rfl)
              simp only [Act.put, List.setIfInBounds_toArray, List.set_cons_zero, List.set_cons_succ]
              refine wpAnyM_take (i := 9) (v := ?_) rfl (by kernel_rfl) (by kernel_rfl) (by kernel_rfl) (by kernel_rfl) (fun _ _ _ h => h) HS1 (Or.inl ⟨by rfl, ?_⟩) ?_
              rotate_left
              · (intro w hSw; (try dsimp only at hSw); go_simp; try with_reducible rfl)
              simp only [Act.put, List.setIfInBounds_toArray, List.set_cons_zero, List.set_cons_succ]
              refine wpAnyM_take (i := 10) (v := ?_) rfl (by kernel_rfl) (by kernel_rfl) (by kernel_rfl) (by kernel_rfl) (fun _ _ _ h => h) HS1 (Or.inl ⟨by rfl, ?_⟩) ?_
              rotate_left
              · (intro w hSw; (try dsimp only at hSw); go_simp; try with_reducible rfl)
              simp only [Act.put, List.setIfInBounds_toArray, List.set_cons_zero, List.set_cons_succ]
              have HS3 := HSc.out (wc.alloc (.cells #[.int .i64 ck, .int .i64 cn, .string cx] 46)).drew (belo1 wc _).drew
              refine wpAnyM_one (i := 11) (by kernel_rfl) rfl (fun K hK => ?_)
              go_simp
              refine hK.out _ _ HS3 (fun _ => ?_)
              clear hK K
              have HOw := hide (HG1.out.kept ((belo1 wc (.cells #[.int .i64 ck, .int .i64 cn, .string cx] 46)).drew))
              have hown := HOw.out.1
              rw [HLn.out] at hown
              refine wpAnyM_one (i := 12) (by kernel_rfl) rfl (fun K hK => ?_)
              refine step_append_lies _ (by rfl) _ _ _ (by rfl) (B + 1) 46 i0 _ 3 32 Try.underlying23 hi0' hz0 hz1 hz2 rfl (by decide) (.slice ba k bc) k (((l.take k).map (cP cs)).flatMap elCon.cells) (by rfl) hown ⟨wc.heap.size, 0, none⟩ 1 1 [.int .i64 ck, .int .i64 cn, .string cx] (by rfl) (by rfl) (World.news_of_block (cs := #[.int .i64 ck, .int .i64 cn, .string cx]) (t := 46) (fr := (0, 0)) (heap_alloc_new wc _)) (by simp [Value.oneCell']) (by omega) (by unfold maxLen; omega) (by omega) (by simp; omega) (wc.heap.size + 1) (by simp) ?_
              intro gg cap2 w5 hown5 hgrow hat hlt5
              have HG5 := hide (HOw.out.push (x := ⟨ck, cn, cx⟩) HCo.out HLn.out (size_alloc1 wc _) hown5 hgrow hat)
              have hlow : ∀ b, b < B + 1 → w5.heap[b]? = wc.heap[b]? := fun b hb => by rw [HOw.out.low hgrow hb (by simp; omega)]; exact heap_alloc_old _ _ (by omega)
              have HA5 : Hid (w5.heap[B]? = some (.cells #[.string x.s, .slice ba k bc] 39 (0, 0))) := by show _ = _; rw [hlow _ (by omega)]; exact HA1.out
              have HB5 := hide ((((HB.out.trans (HBu.out.mono (by omega))).alloc (by omega) _).drew).grown hgrow (by simp; omega) (fun j hj => by have := own_new hown j hj; omega))
              have HS5 : w5.cell? ⟨B, 1, none⟩ = some (.slice ba k bc) ∧ w5.cell? ⟨w.heap.size, 1, none⟩ = some (.slice (some ⟨cb, co, none⟩) cs.length cc) ∧ w5.cell? ⟨w.heap.size + 1, 1, none⟩ = some (.slice (some ⟨lb, lo, none⟩) l.length lc) ∧ w5.cell? ⟨lb, lo + k, none⟩ = some (.int .i64 m) ∧ w5.cell? ⟨cb, co + m * 3, none⟩ = some (.int .i64 ck) ∧ w5.cell? ⟨cb, co + m * 3 + 1, none⟩ = some (.int .i64 cn) ∧ w5.cell? ⟨cb, co + m * 3 + 2, none⟩ = some (.string cx) := by
                have hx := HSc.out wc (Below.refl _ _)
                have hcell : ∀ b o, b < B + 1 → w5.cell? ⟨b, o, none⟩ = wc.cell? ⟨b, o, none⟩ := fun b o hb => World.cell?_of_block (hlow b hb)
                refine ⟨?_, ?_, ?_, ?_, ?_, ?_, ?_⟩ <;> (rw [hcell _ _ (by omega)]; simp only [hx])
              clear hown5 hgrow hat hlt5 HS3 hlow hown
              have ha5 : w5.cell? ⟨B, 1, none⟩ = some (.slice ba k bc) := by simp [World.cell?, HA5.out]
              have hf5 : w5.frozen? ⟨B, 1, none⟩ = false := by simp [World.frozen?, HA5.out]
              refine hK.out _ _ HS5 (fun _ => ?_)
              clear hK K
              try simp only [Act.put, List.setIfInBounds_toArray, List.set_cons_zero, List.set_cons_succ]
              refine wpAnyM_one (i := 13) (by kernel_rfl) rfl (fun K hK => ?_)
              go_simp
              refine hK.out _ _ HS5 (fun _ => ?_)
              clear hK K
              clear HS5 HSc
              refine wpAnyM_end (by kernel_rfl) rfl (by kernel_rfl) (fun K hK => ?_)
              go_simp
              refine hK.out _ _ ?_
              clear hK K
              go_wp2
              go_roundw
              case rel =>
                refine ⟨k + 1, some ⟨gg, 0, none⟩, cap2, by omega, by go_num, ?_, ?_, HTa, HB5.out.setCell (by dsimp only; omega) _⟩
                · show Grow _ _ _ _ _ _
                  rw [HTk.out]
                  exact HG5.out.above fun b hb _ => heap_other (by omega)
                · show _ = _
                  exact heap_set1 HA5.out
              case measure => simp [intOf]; omega
        · obtain rfl : k = l.length := by omega
          have hi : ¬ (l.length : Int) < (l.length : Int) := by omega
          rw [List.take_of_length_le (Nat.le_refl _)] at HG HK
          have ha0 : wr.cell? ⟨B, 0, none⟩ = some (.string x.s) := by simp [World.cell?, HA.out]
          have ha1 : wr.cell? ⟨B, 1, none⟩ = some (.slice ba l.length bc) := by simp [World.cell?, HA.out]
          have hb0 : wr.cell? ⟨w.heap.size + 1 + 1, 0, none⟩ = some (.string ⟨#[]⟩) := by simp [World.cell?, HRb2.out]
          have hb1 : wr.cell? ⟨w.heap.size + 1 + 1, 1, none⟩ = some (.slice none 0 0) := by simp [World.cell?, HRb2.out]
          have hf0 : wr.frozen? ⟨w.heap.size + 1 + 1, 0, none⟩ = false := by simp [World.frozen?, HRb2.out]
          have hf1 : wr.frozen? ⟨w.heap.size + 1 + 1, 1, none⟩ = false := by simp [World.frozen?, HRb2.out]
          go_wp2
          refine bodyPost_ret (v := .tuple #[.agg #[.string x.s, .slice ba l.length bc], .int .i64 0]) (by simp [results, Try.results9, go_sem, hb0, hb1]) rfl ⟨.inr ⟨by rw [HR.out, HK.out]; rfl, _, by rw [HN.out], ?_⟩, (HBw2.out.setCell (by dsimp only; omega) _).setCell (by dsimp only; omega) _⟩
          refine (HG.out.new (by simpa using hlen)).move fun b hb hF => ?_
          have hF' : B + 1 ≤ b := hF
          refine ⟨by omega, ?_⟩
          rw [heap_other (by omega), heap_other (by omega)]
end Go.Proofs.Ythbfkbkcfcpibaa
