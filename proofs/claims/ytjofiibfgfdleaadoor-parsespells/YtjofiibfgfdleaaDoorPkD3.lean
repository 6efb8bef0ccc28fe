/- ParseSpells: the tokens of an accepted text are those that the trees spell; a refused text's fault is lex's own or stands at a token. -/
import Derived.Test.YtjofiibfgfdleaaDoorProg
import Derived.Test.YtjofiibfgfdleaaDoorPkA3
import Derived.Test.YtjofiibfgfdleaaDoorPkB3
import Derived.Test.YtjofiibfgfdleaaDoorPkC3

namespace Go.Proofs.YtjofiibfgfdleaaDoor
set_option linter.unusedSimpArgs false
set_option linter.unusedVariables false
open Go.RowKit

theorem spl_neq (c o : Int) (h : c ≠ 0) (w : World) : (binOp .neq 25 (.agg #[.int .i64 c, .int .i64 0, .int .i64 o]) (.agg #[.int .i64 0, .int .i64 0, .int .i64 0])).run Tryd.prog w = .ok (.bool true) w := by
  have hc : (c == 0) = false := by simpa using h
  have h1 := run_equalIn_struct (P := Tryd.prog) w 9999 25 #[.int .i64 c, .int .i64 0, .int .i64 o] #[.int .i64 0, .int .i64 0, .int .i64 0] (by kernel_rfl) (by kernel_rfl)
  simp only [binOp]
  simp only [Op.equal, Op.maxDepth, Sem.run_bind]
  go_simp
set_option maxRecDepth 100000 in
set_option maxHeartbeats 4000000 in
theorem spells_bad (s : ByteArray) (w : World) (hl : LexLaid w) (hs : s.size ≤ 140737488351232) {c o : Int} (hP : progP (scanX s).2.1 ((scanX s).2.2 : Int) (scanX s).1 = .bad c o) (hc : c ≠ 0) :
    Calls Tryd.prog 6 #[.string s] w fun e w' => e = .returned (.bool true) ∧ Below w.heap.size w w' := by
  have HSc := hide (scan_any s w hl hs)
  have HPr := hide (fun (W : World) (hb : Below w.heap.size w W) => parseProgram_any s W (hl.kept hb) hs)
  have HTk := hide (fun (W : World) (hb : Below w.heap.size w W) => taken_any W (hl.kept hb))
  obtain ⟨-, hlen⟩ := scan_good s
  unfold faultVal at HSc
  have HWho := hide (who (s := s) (first := 0) rfl ((prog_meet (scan_wf s)).1 _ _ hP))
  have HPb := hide (fun (W W' : World) (e : Ending) (h : ReadProg W s e W') => readProg_bad h hP)
  have hq1 := spl_neq c o hc
  clear hl hs hP hc
  generalize scanX s = R at *
  obtain ⟨L, ec, eo⟩ := R
  simp only at hlen HSc HWho
  have HLn := hide hlen
  have HRf : Hid (∀ (W : World) (v : Value), Has elTk W v L → Calls Tryd.prog 16 #[v, .agg #[.int .i64 ec, .int .i64 0, .int .i64 (eo : Int)], .agg #[.int .i64 c, .int .i64 0, .int .i64 o]] W fun e w' => e = .returned (.bool true) ∧ Below W.heap.size W w') := fun W v hv => by
    rcases HWho.out with ⟨h1, rfl, rfl⟩ | ⟨h1, h2, q, t, h3, h4, h5⟩
    · exact refused_own W v _ _ h1
    · exact refused_at W hv (by have := HLn.out; omega) _ _ _ _ h1 h2 h3 h4 h5
  clear hlen HWho
  go_enter Tryd.func6, Tryd.ntmps6
  go_upto_region 2 with (go_at_call 9; refine HSc.out.mono ?_; intro e w1 hq; obtain ⟨v, rfl, hown, hb1⟩ := hq; have hgr : Grow elTk 30 w.heap.size w1 v L := ⟨hown, fun _ _ => trivial⟩; have hli := hgr.list (by have := HLn.out; omega); obtain ⟨va, vc, rfl, -⟩ := hli.shape; have HL1 := hide hli; have HB1 := hide hb1; clear hown hgr hli hb1)
  obtain ⟨Y, hY⟩ : ∃ Y, Y = w1.alloc (.cells #[.int .i64 ec, .int .i64 0, .int .i64 (eo : Int)] 25) := ⟨_, rfl⟩
  have HLY : Hid (Has elTk Y (.slice va L.length vc) L) := by rw [hY]; exact HL1.out.kept (belowA _ _)
  have HBY : Hid (Below w.heap.size w Y) := by rw [hY]; exact belowt2 HB1.out (belowA _ _)
  have HFY : Hid (Y.heap[w1.heap.size]? = some (.cells #[.int .i64 ec, .int .i64 0, .int .i64 (eo : Int)] 25 (0, 0))) := by rw [hY]; exact heap_alloc_new w1 _
  rw [← hY]
  clear hY HL1 HB1 HSc
  generalize w1.heap.size = g at *
  go_upto_region 3 with (go_at_call 15; refine (HPr.out _ HBY.out).mono ?_; intro e w2 hq; obtain ⟨rfl, hb2⟩ := HPb.out _ _ _ hq; clear hq; have HB2 := hide hb2; clear hb2; unfold faultV)
  obtain ⟨X, hX⟩ : ∃ X, X = (w2.alloc (.cells #[.slice none 0 0] 41)).alloc (.cells #[.int .i64 c, .int .i64 0, .int .i64 o] 25) := ⟨_, rfl⟩
  have HBX : Hid (Below Y.heap.size Y X) := by rw [hX]; exact belowt2 HB2.out (below2a _ _ _)
  have hbp : X.heap[w2.heap.size]? = some (.cells #[.slice none 0 0] 41 (0, 0)) := by rw [hX, (belowA (w2.alloc _) _).block _ (by simp)]; exact heap_alloc_new w2 _
  have hbf : X.heap[w2.heap.size + 1]? = some (.cells #[.int .i64 c, .int .i64 0, .int .i64 o] 25 (0, 0)) := by rw [hX]; exact second_new w2 _ _
  have hbo : X.heap[g]? = some (.cells #[.int .i64 ec, .int .i64 0, .int .i64 (eo : Int)] 25 (0, 0)) := by rw [HBX.out.block _ (Array.getElem?_eq_some_iff.1 HFY.out).1]; exact HFY.out
  have HLX := hide (HLY.out.kept HBX.out)
  have p0 : X.cell? ⟨w2.heap.size, 0, none⟩ = some (.slice none 0 0) := by simp [World.cell?, hbp]
  have q0 : X.cell? ⟨w2.heap.size + 1, 0, none⟩ = some (.int .i64 c) := by simp [World.cell?, hbf]
  have q1 : X.cell? ⟨w2.heap.size + 1, 1, none⟩ = some (.int .i64 0) := by simp [World.cell?, hbf]
  have q2 : X.cell? ⟨w2.heap.size + 1, 2, none⟩ = some (.int .i64 o) := by simp [World.cell?, hbf]
  have r0 : X.cell? ⟨g, 0, none⟩ = some (.int .i64 ec) := by simp [World.cell?, hbo]
  have r1 : X.cell? ⟨g, 1, none⟩ = some (.int .i64 0) := by simp [World.cell?, hbo]
  have r2 : X.cell? ⟨g, 2, none⟩ = some (.int .i64 (eo : Int)) := by simp [World.cell?, hbo]
  rw [← hX]
  clear hX hbp hbf hbo HB2 HFY
  generalize w2.heap.size = d at *
  go_wp2_with (first
    | (go_at_call 16; refine (HRf.out _ _ HLX.out).mono ?_; rintro e w4 ⟨rfl, hb4⟩; have HB4 := hide (belowt2 (belowt2 HBY.out HBX.out) hb4); clear hb4)
    | (go_at_call 11; refine (HTk.out _ HB4.out).mono ?_; rintro e w9 ⟨rfl, hb9⟩; have HB9 := hide (belowt2 HB4.out hb9); clear hb9))
  go_ret
  exact ⟨rfl, HB9.out⟩
set_option maxRecDepth 100000 in
set_option maxHeartbeats 4000000 in
theorem spells_ok (s : ByteArray) (w : World) (hl : LexLaid w) (hs : s.size ≤ 140737488351232) {b : List PCls} {r : List Tok} (hP : progP (scanX s).2.1 ((scanX s).2.2 : Int) (scanX s).1 = .ok b r) :
    Calls Tryd.prog 6 #[.string s] w fun e w' => e = .returned (.bool true) ∧ Below w.heap.size w w' := by
  have HSc := hide (scan_any s w hl hs)
  have HPr := hide (fun (W : World) (hb : Below w.heap.size w W) => parseProgram_any s W (hl.kept hb) hs)
  have HTk := hide (fun (W : World) (hb : Below w.heap.size w W) => taken_any W (hl.kept hb))
  obtain ⟨-, hlen⟩ := scan_good s
  unfold faultVal at HSc
  obtain ⟨e, hsp, -⟩ := prog_sp (L := (scanX s).1) _ [] _ r b (fun _ => 0) hP (by simp) rfl (fun j x hj => by simp at hj) rfl
  obtain ⟨h512, ⟨pl, hp0, hpl, hpe⟩, ⟨f0, hf0, hk0⟩⟩ := hsp
  obtain ⟨hend, hec⟩ := wf_end _ _ _ (scan_wf s) hf0 hk0
  have HPo := hide (fun (W W' : World) (e : Ending) (h : ReadProg W s e W') => readProg_ok h hP)
  have hz1 := fault_self
  have HCl := hide hpl
  clear hl hs hP hpl
  generalize scanX s = R at *
  obtain ⟨L, ec, eo⟩ := R
  simp only at hlen HSc HCl hf0 hend hec
  subst hec
  have HLn := hide hlen
  have HF0 := hide hf0
  have HK0 := hide hk0
  have HEn := hide hend
  have HPe := hide hpe
  have HP0 := hide hp0
  clear hlen hf0 hk0 hend hpe hp0
  go_enter Tryd.func6, Tryd.ntmps6
  go_upto_region 2 with (go_at_call 9; refine HSc.out.mono ?_; intro e w1 hq; obtain ⟨v, rfl, hown, hb1⟩ := hq; have hgr : Grow elTk 30 w.heap.size w1 v L := ⟨hown, fun _ _ => trivial⟩; have hli := hgr.list (by have := HLn.out; omega); obtain ⟨va, vc, rfl, -⟩ := hli.shape; have HL1 := hide hli; have HB1 := hide hb1; clear hown hgr hli hb1)
  obtain ⟨Y, hY⟩ : ∃ Y, Y = w1.alloc (.cells #[.int .i64 0, .int .i64 0, .int .i64 (eo : Int)] 25) := ⟨_, rfl⟩
  have HLY : Hid (Has elTk Y (.slice va L.length vc) L) := by rw [hY]; exact HL1.out.kept (belowA _ _)
  have HBY : Hid (Below w.heap.size w Y) := by rw [hY]; exact belowt2 HB1.out (belowA _ _)
  have HFY : Hid (Y.heap[w1.heap.size]? = some (.cells #[.int .i64 0, .int .i64 0, .int .i64 (eo : Int)] 25 (0, 0))) := by rw [hY]; exact heap_alloc_new w1 _
  rw [← hY]
  clear hY HL1 HB1 HSc
  generalize w1.heap.size = g at *
  go_upto_region 3 with (go_at_call 15; refine (HPr.out _ HBY.out).mono ?_; intro e w2 hq; obtain ⟨v, cs, rfl, hpur, hcl, hls, hb2⟩ := HPo.out _ _ _ hq; clear hq; obtain ⟨ca, cc, rfl, -⟩ := hls.shape; have HB2 := hide hb2; have HLs := hide hls.all; have HPu := hide hpur; have HCn := hide hcl; clear hb2 hls hpur hcl; unfold faultV)
  obtain ⟨X, hX⟩ : ∃ X, X = (w2.alloc (.cells #[.slice ca cs.length cc] 41)).alloc (.cells #[.int .i64 0, .int .i64 0, .int .i64 0] 25) := ⟨_, rfl⟩
  have HBX : Hid (Below Y.heap.size Y X) := by rw [hX]; exact belowt2 HB2.out (below2a _ _ _)
  have HLs2 : Hid (Has elClx X (.slice ca cs.length cc) cs) := by rw [hX]; exact HLs.out.kept (below2a _ _ _)
  have hbp : X.heap[w2.heap.size]? = some (.cells #[.slice ca cs.length cc] 41 (0, 0)) := by rw [hX, (belowA (w2.alloc _) _).block _ (by simp)]; exact heap_alloc_new w2 _
  have hbf : X.heap[w2.heap.size + 1]? = some (.cells #[.int .i64 0, .int .i64 0, .int .i64 0] 25 (0, 0)) := by rw [hX]; exact second_new w2 _ _
  have hbo : X.heap[g]? = some (.cells #[.int .i64 0, .int .i64 0, .int .i64 (eo : Int)] 25 (0, 0)) := by rw [HBX.out.block _ (Array.getElem?_eq_some_iff.1 HFY.out).1]; exact HFY.out
  have HLX := hide (HLY.out.kept HBX.out)
  have HBp := hide hbp
  have p0 : X.cell? ⟨w2.heap.size, 0, none⟩ = some (.slice ca cs.length cc) := by simp [World.cell?, hbp]
  have q0 : X.cell? ⟨w2.heap.size + 1, 0, none⟩ = some (.int .i64 0) := by simp [World.cell?, hbf]
  have q1 : X.cell? ⟨w2.heap.size + 1, 1, none⟩ = some (.int .i64 0) := by simp [World.cell?, hbf]
  have q2 : X.cell? ⟨w2.heap.size + 1, 2, none⟩ = some (.int .i64 0) := by simp [World.cell?, hbf]
  have r0 : X.cell? ⟨g, 0, none⟩ = some (.int .i64 0) := by simp [World.cell?, hbo]
  have k512 : decide ((cs.length : Int) ≤ 512) = true := decide_eq_true (by have := HCn.out; omega)
  have k512' : decide (cs.length ≤ 512) = true := decide_eq_true HCn.out
  rw [← hX]
  clear hX hbp hbf hbo HB2 HFY HLs
  generalize w2.heap.size = d at *
  go_upto_region 6 with fail
  obtain ⟨Z, hZ⟩ : ∃ Z, Z = X.alloc (.cells #[.slice va L.length vc, .int .i64 0, .bool true] 47) := ⟨_, rfl⟩
  obtain ⟨p, hp⟩ : ∃ p, p = X.heap.size := ⟨_, rfl⟩
  have hBZ : Below X.heap.size X Z := by rw [hZ]; exact belowA _ _
  have HWZ : Hid (Wk Z p va vc L (pl 0)) := by
    rw [HP0.out, hp]
    exact ⟨by rw [hZ]; exact heap_alloc_new X _, HLX.out.move fun b hl _ => ⟨hl, hBZ.block b hl⟩⟩
  have HCZ : Hid (Lst elClx Z (fun b => b < p) (.slice ca cs.length cc) cs) := by
    rw [hp]
    exact HLs2.out.move fun b hl _ => ⟨hl, hBZ.block b hl⟩
  have HBZ : Hid (Below w.heap.size w Z) := belowt2 (belowt2 HBY.out HBX.out) hBZ
  have HPw : Hid (w.heap.size ≤ p) := by rw [hp]; exact (belowt2 HBY.out HBX.out).size
  have hdl : d < p := by rw [hp]; exact (Array.getElem?_eq_some_iff.1 HBp.out).1
  have z0 : Z.cell? ⟨d, 0, none⟩ = some (.slice ca cs.length cc) := kept_cell hBZ p0
  rw [← hZ]
  have HZl : Hid (p < Z.heap.size) := HWZ.out.lt
  have e9 : X.heap.size = p := hp.symm
  rw [e9]
  clear e9 hp hZ hBZ p0 q0 q1 q2 r0 k512 k512' HLs2 HLX HBp HBX HLY HBY HPr
  go_wp2
  clear z0
  obtain ⟨m, hm⟩ : ∃ m, m = cs.length := ⟨_, rfl⟩
  rw [← hm] at HCZ HCn ⊢
  have HM := hide hm
  clear hm
  have HPm : Hid (pl m = e) := by show _ = _; rw [HM.out, ← HPe.out, ← HPu.out, List.length_map]
  go_loopw [51] (fun iv wl => ∃ j : Nat, j ≤ m ∧ iv = .int .i64 (j : Int) ∧ Hid (Wk wl p va vc L (pl j)) ∧ Hid (Only (fun k => k = p) Z wl)) (fun iv _ => m - (intOf iv).toNat)
  case atStart => exact ⟨0, by omega, rfl, HWZ.out, Only.refl _ _⟩
  case round =>
    obtain ⟨j, hj, rfl, HWl, HOl⟩ := hrel
    have hmm := HCn.out
    by_cases hlt : j < m
    · have hi : (j : Int) < (m : Int) := by omega
      have hi0 : (0 : Int) ≤ (j : Int) := by omega
      obtain ⟨x, hx⟩ : ∃ x, cs[j]? = some x := ⟨_, List.getElem?_eq_getElem (by rw [← HM.out]; exact hlt)⟩
      have hAl := lst_only HCZ.out HOl.out
      have hokx := elClx_ok (hAl.ok (List.mem_of_getElem? hx))
      have hoh := (elAtx_ok hokx.1).2.2
      have hob := hokx.2
      obtain ⟨k1, hsa, sp, hsp, hcase⟩ := HCl.out j x.pur (by rw [← HPu.out, List.getElem?_map, hx]; rfl)
      have HAt := hide (fun (W : World) (hw : Wk W p va vc L (pl j)) (hl : Lst elTrm W (fun b => b < p) x.h.v x.h.ts) => spAtom_ok hw (by have := HLn.out; omega) x.h hsa hl)
      have HE := hide (fun (W : World) (hw : Wk W p va vc L k1) => eat_ok hw hsp (by have := HLn.out; omega))
      obtain ⟨b3, o3, rfl, -, hF3, hr3⟩ := hAl.row (by rw [← HM.out]; omega)
      have y0 := hr3 j _ hx 0 _ rfl
      have y1 := hr3 j _ hx 1 _ rfl
      have y2 := hr3 j _ hx 2 _ rfl
      have y3 := hr3 j _ hx 3 _ rfl
      simp only [elClx, Nat.add_zero] at y0 y1 y2 y3
      obtain ⟨⟨xp, xv, xo, xts⟩, bv, ls⟩ := x
      unfold Clx.pur at hcase
      unfold Atx.val at HAt
      unfold tokV at HE
      simp only at hoh hob hcase HAt y0 y1 y2 y3
      obtain ⟨xa, xc, rfl, -⟩ := hoh.shape
      obtain ⟨ba, bc, rfl, -⟩ := hob.shape
      obtain ⟨n, hn⟩ : ∃ n, n = ls.length := ⟨_, rfl⟩
      have HOh := hide hoh
      have HOb := hide hob
      have HN := hide hn
      rw [← hn] at y3
      obtain ⟨Q, hQ⟩ : ∃ Q, Q = wr.alloc (.cells #[.string xp, .slice xa xts.length xc, .int .i64 xo, .slice ba n bc] 53) := ⟨_, rfl⟩
      have HBQ : Hid (Below wr.heap.size wr Q) := by rw [hQ]; exact belowA _ _
      have hbq : Q.heap[wr.heap.size]? = some (.cells #[.string xp, .slice xa xts.length xc, .int .i64 xo, .slice ba n bc] 53 (0, 0)) := by rw [hQ]; exact heap_alloc_new wr _
      have hpr := HWl.out.lt
      have t0 : Q.cell? ⟨wr.heap.size, 0, none⟩ = some (.string xp) := by simp [World.cell?, hbq]
      have t1 : Q.cell? ⟨wr.heap.size, 1, none⟩ = some (.slice xa xts.length xc) := by simp [World.cell?, hbq]
      have t2 : Q.cell? ⟨wr.heap.size, 2, none⟩ = some (.int .i64 xo) := by simp [World.cell?, hbq]
      have t3 : Q.cell? ⟨wr.heap.size, 3, none⟩ = some (.slice ba n bc) := by simp [World.cell?, hbq]
      have HWQ := hide (HWl.out.kept HBQ.out)
      have HOQ : Hid (Only (fun k => k = p) wr Q) := Only.of_below HBQ.out _
      have HHQ := hide (lst_only HOh.out HOQ.out)
      have HGQ := hide (lst_only HOb.out HOQ.out)
      have hnp : ¬ wr.heap.size = p := by omega
      clear hr3 hAl hF3 hx hokx hoh hob hsa hsp hn hbq
      go_upto_region 9 with fail
      rw [← hQ]
      clear hQ y0 y1 y2 y3 hpr
      rcases hcase with ⟨c1, c2, c3⟩ | ⟨c2, c3⟩
      · have hn0 : n = 0 := by rw [HN.out]; have := congrArg List.length c1; simpa using this
        subst hn0
        rw [c2] at HE
        have HC3 := hide c3
        clear c1 c2 c3
        go_wp2_with (first
          | (go_at_call 17; refine (HAt.out _ HWQ.out HHQ.out).mono ?_; rintro e w2 ⟨rfl, hw2, ho2⟩; have HW2 := hide hw2; have HO2 := hide ((HOl.out.trans HOQ.out).trans ho2); have v3 := ho2.cell t3 hnp; clear hw2 ho2)
          | (go_at_call 18; refine (HE.out _ HW2.out).mono ?_; rintro e w3 ⟨rfl, hw3, ho3⟩; have HW3 := hide hw3; have HO3 := hide (HO2.out.trans ho3); clear hw3 ho3))
        go_roundw
        case rel => exact ⟨j + 1, by omega, by go_num, by show Wk _ _ _ _ _ _; rw [HC3.out]; exact HW3.out, HO3⟩
        case measure => simp [intOf]; omega
      · have hn1 : ((n : Int) == 0) = false := beq_eq_false_iff_ne.2 (by have := c3.few.1; rw [List.length_map, ← HN.out] at this; omega)
        have hn1' : (n == 0) = false := beq_eq_false_iff_ne.2 (by have := c3.few.1; rw [List.length_map, ← HN.out] at this; omega)
        have hn2 : ¬ n = 0 := by have := c3.few.1; rw [List.length_map, ← HN.out] at this; omega
        rw [c2] at HE
        have HBd := hide (fun (W : World) (hw : Wk W p va vc L (k1 + 1)) (hl : Lst elLix W (fun b => b < p) (.slice ba ls.length bc) ls) => spBody_ok hw (by have := HLn.out; omega) _ ls c3 hl)
        rw [← HN.out] at HBd
        have HGn : Hid (Lst elLix Q (fun b => b < p) (.slice ba n bc) ls) := by rw [HN.out]; exact HGQ.out
        clear c2 c3
        go_wp2_with (first
          | (go_at_call 17; refine (HAt.out _ HWQ.out HHQ.out).mono ?_; rintro e w2 ⟨rfl, hw2, ho2⟩; have HW2 := hide hw2; have HO2 := hide ((HOl.out.trans HOQ.out).trans ho2); have HG2 := hide (lst_only HGn.out ho2); have v3 := ho2.cell t3 hnp; clear hw2 ho2)
          | (go_at_call 18; refine (HE.out _ HW2.out).mono ?_; rintro e w3 ⟨rfl, hw3, ho3⟩; have HW3 := hide hw3; have HO3 := hide (HO2.out.trans ho3); have HG3 := hide (lst_only HG2.out ho3); have x3 := ho3.cell v3 hnp; clear hw3 ho3)
          | (go_at_call 19; refine (HBd.out _ HW3.out HG3.out).mono ?_; rintro e w4 ⟨rfl, hw4, ho4⟩; have HW4 := hide hw4; have HO4 := hide (HO3.out.trans ho4); clear hw4 ho4))
        go_roundw
        case rel => exact ⟨j + 1, by omega, by go_num, HW4, HO4⟩
        case measure => simp [intOf]; omega
    · obtain rfl : j = m := by omega
      have hi : ¬ (j : Int) < (j : Int) := by omega
      have HE := hide (eat_ok HWl.out (by rw [HPm.out]; exact HF0.out) (by have := HLn.out; omega))
      unfold tokV at HE
      rw [HK0.out, HPm.out, HEn.out] at HE
      go_wp2_with (first
        | (go_at_call 18; refine HE.out.mono ?_; rintro e w2 ⟨rfl, hw2, ho2⟩; have HO2 := hide (HOl.out.trans ho2); obtain ⟨⟨s0, s1, s2⟩, -⟩ := hw2.cells; have HB2 := hide (belowt2 HBZ.out (Below.refl _ _)); clear hw2 ho2)
        | (go_at_call 11; refine (HTk.out _ (HBZ.out.trans (HO2.out.below HBZ.out.size (fun k hk e => by have := HPw.out; omega)))).mono ?_; rintro e w9 ⟨rfl, hb9⟩; have HB9 := hide hb9; clear hb9))
      go_ret
      exact ⟨rfl, belowt2 (HBZ.out.trans (HO2.out.below HBZ.out.size (fun k hk e => by have := HPw.out; omega))) HB9.out⟩
theorem parseSpells_walk (s : ByteArray) (w : World) (hs : s.size ≤ 140737488351232) (hl : LexLaid w) :
    Calls Tryd.prog 6 #[.string s] w fun e w' => e = .returned (.bool true) ∧ Below w.heap.size w w' := by
  cases hP : progP (scanX s).2.1 ((scanX s).2.2 : Int) (scanX s).1 with
  | bad c o => exact spells_bad s w hl hs hP (prog_ne _ _ _ (by omega) (scan_ne s) hP)
  | ok b r => exact spells_ok s w hl hs hP
end Go.Proofs.YtjofiibfgfdleaaDoor
