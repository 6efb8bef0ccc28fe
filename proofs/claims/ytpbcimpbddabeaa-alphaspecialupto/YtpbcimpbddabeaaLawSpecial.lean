/- edictlaw10.AlphaSpecial: a pattern covers its special cases, and is covered by one only where it is the same. (By mk_special.py.) -/
import Derived.Test.YtpbcimpbddabeaaLawMeans
import Derived.Test.YtpbcimpbddabeaaAlphaCov
namespace Go.Proofs.Ytpbcimpbddabeaa
set_option linter.unusedSimpArgs false
set_option linter.unusedVariables false
open Go.RowKit

theorem merge_ok {q a b : Int} {ss : List Slo} (h : ShapeOk q ss) : ShapeOk q (ss.map (mergeS a b)) := by
  refine ⟨h.1, fun s hs hv => ?_⟩
  obtain ⟨t, ht, rfl⟩ := List.mem_map.1 hs
  cases htv : t.v with
  | false => rw [merge_con htv]; exact h.2 t ht htv
  | true =>
    by_cases hn : t.n = a
    · rw [merge_hit htv hn] at hv; cases hv
    · rw [merge_miss htv hn] at hv; rw [hv] at htv; cases htv
theorem put_ok {q a b : Int} {ss : List Slo} (h : ShapeOk q ss) : ShapeOk q (ss.map (putS a b)) := by
  refine ⟨h.1, fun s hs hv => ?_⟩
  obtain ⟨t, ht, rfl⟩ := List.mem_map.1 hs
  cases htv : t.v with
  | false => rw [put_con htv]; exact h.2 t ht htv
  | true =>
    by_cases hn : t.n = a
    · rw [put_hit htv hn]; dsimp only; omega
    · rw [put_miss htv hn] at hv; rw [hv] at htv; cases htv
theorem merge_inst {a b : Int} {ss : List Slo} {l : List Int} (h : Inst (ss.map (mergeS a b)) l) : Inst ss l := sub_inst (g := fun n => if n = a then ⟨true, b⟩ else ⟨true, n⟩) h
theorem put_inst {a b : Int} {ss : List Slo} {l : List Int} (h : Inst (ss.map (putS a b)) l) : Inst ss l := sub_inst (g := fun n => if n = a then ⟨false, max b 0⟩ else ⟨true, n⟩) h
theorem cov_of {q : Int} {s1 s2 : List Slo} (h1 : ShapeOk q s1) (h2 : ShapeOk q s2) (h : Inst s1 (shapeC s2)) : covB q (shapeC s1) q (shapeC s2) = true := by
  unfold covB
  rw [vldB_yes (shape_vld h2), Bool.true_and]
  exact fitB_iff.2 ⟨shape_vld h1, rfl, (fit_inst h1).2 h⟩
theorem cov_back {q : Int} {s1 s2 : List Slo} (h1 : ShapeOk q s1) (h2 : ShapeOk q s2) (h : Inst s1 (shapeC s2)) : covB q (shapeC s2) q (shapeC s1) = decide (shapeC s1 = shapeC s2) := by
  rw [Bool.eq_iff_iff, decide_eq_true_iff]
  constructor
  · intro hc
    unfold covB at hc
    rw [Bool.and_eq_true] at hc
    exact cover_anti (shape_vld h1) (shape_vld h2) ((fit_inst h1).2 h) (fitB_iff.1 hc.2).2.2
  · intro e
    unfold covB
    rw [vldB_yes (shape_vld h1), Bool.true_and]
    exact fitB_iff.2 ⟨shape_vld h2, rfl, by rw [e]; exact (fit_inst h2).2 (shape_inst_self _)⟩
theorem fit_up {q p : Int} {s1 s2 : List Slo} {rs : List Int} (h1 : ShapeOk q s1) (h2 : ShapeOk q s2) (h : ∀ l, Inst s2 l → Inst s1 l) (hf : fitB q (shapeC s2) p rs = true) : fitB q (shapeC s1) p rs = true := by
  rw [fit_instB h2, instB_iff] at hf
  rw [fit_instB h1, instB_iff]
  exact ⟨hf.1, h _ hf.2⟩
/-- A struct of a number and a slice in a box of its own. -/
theorem box_new {X X' : World} {Q : Int} {v : Value} {t : TypeId} (h : X' = X.alloc (.cells #[.int .i64 Q, v] t)) : Below X.heap.size X X' ∧ X'.cell? ⟨X.heap.size, 0, none⟩ = some (.int .i64 Q) ∧ X'.cell? ⟨X.heap.size, 1, none⟩ = some v := by
  subst h
  exact ⟨belo1 _ _, new_cells (cs := #[.int .i64 Q, v]) 0 _ rfl, new_cells (cs := #[.int .i64 Q, v]) 1 _ rfl⟩

set_option maxRecDepth 100000 in
set_option maxHeartbeats 16000000 in
theorem alphaSpecial_walk (q : Int) (u : Value) (ss : List Slo) (ta tb tc : Int) (p : Int) (v : Value) (rs : List Int) (w : World) (hq : I64 q) (h1 : Has elSlo w u ss) (hb1 : ss.length ≤ 1048576) (hta : I64 ta) (htb : I64 tb) (htc : I64 tc) (hp : I64 p) (h2 : Has elInt w v rs) (hb2 : rs.length ≤ 1048576) :
    Calls Try.prog 6 #[.agg #[.int .i64 q, u], .agg #[.int .i64 ta, .int .i64 tb, .int .i64 tc], .agg #[.int .i64 p, v]] w fun e w' => e = .returned (.bool true) ∧ Below w.heap.size w w' := by
  obtain ⟨ua, uc, rfl, -, -, -⟩ := h1.shape
  obtain ⟨va, vc, rfl, -, -, -⟩ := h2.shape
  obtain ⟨W, hW⟩ : ∃ W, W = ((w.alloc (.cells #[.int .i64 q, .slice ua ss.length uc] 24)).alloc (.cells #[.int .i64 ta, .int .i64 tb, .int .i64 tc] 29)).alloc (.cells #[.int .i64 p, .slice va rs.length vc] 27) := ⟨_, rfl⟩
  have HWb : Hid (Below w.heap.size w W) := by rw [hW]; exact belot (belot (belo1 w _) (belo1 _ _)) (belo1 _ _)
  have HWc : Hid (W.cell? ⟨w.heap.size + 1, 0, none⟩ = some (.int .i64 ta) ∧ W.cell? ⟨w.heap.size + 1, 1, none⟩ = some (.int .i64 tb) ∧ W.cell? ⟨w.heap.size + 1, 2, none⟩ = some (.int .i64 tc) ∧ W.cell? ⟨w.heap.size + 1 + 1, 0, none⟩ = some (.int .i64 p) ∧ W.cell? ⟨w.heap.size + 1 + 1, 1, none⟩ = some (.slice va rs.length vc)) := by
    have g0 := new_cells (w := w.alloc (.cells #[.int .i64 q, .slice ua ss.length uc] 24)) (t := 29) (cs := #[.int .i64 ta, .int .i64 tb, .int .i64 tc]) 0 _ rfl
    have g1 := new_cells (w := w.alloc (.cells #[.int .i64 q, .slice ua ss.length uc] 24)) (t := 29) (cs := #[.int .i64 ta, .int .i64 tb, .int .i64 tc]) 1 _ rfl
    have g2 := new_cells (w := w.alloc (.cells #[.int .i64 q, .slice ua ss.length uc] 24)) (t := 29) (cs := #[.int .i64 ta, .int .i64 tb, .int .i64 tc]) 2 _ rfl
    have g3 := new_cells (w := (w.alloc (.cells #[.int .i64 q, .slice ua ss.length uc] 24)).alloc (.cells #[.int .i64 ta, .int .i64 tb, .int .i64 tc] 29)) (t := 27) (cs := #[.int .i64 p, .slice va rs.length vc]) 0 _ rfl
    have g4 := new_cells (w := (w.alloc (.cells #[.int .i64 q, .slice ua ss.length uc] 24)).alloc (.cells #[.int .i64 ta, .int .i64 tb, .int .i64 tc] 29)) (t := 27) (cs := #[.int .i64 p, .slice va rs.length vc]) 1 _ rfl
    simp only [size_alloc10] at g0 g1 g2 g3 g4
    rw [hW]
    exact ⟨kept_cell (belo1 _ _) g0, kept_cell (belo1 _ _) g1, kept_cell (belo1 _ _) g2, g3, g4⟩
  have HPr := hide (proper_any hq (h1.kept HWb.out))
  have HR := hide (h2.kept HWb.out)
  have HOk := hide (proper_ok q ss)
  have HWd := hide hW
  clear h1 h2 hW
  obtain ⟨Q, hQ⟩ : ∃ Q, max q 0 = Q := ⟨_, rfl⟩
  have hQi : I64 Q := by rw [← hQ]; exact max0_i64 hq
  rw [hQ] at HPr HOk
  obtain ⟨sp, hsp⟩ : ∃ sp, ss.map properS = sp := ⟨_, rfl⟩
  rw [hsp] at HPr HOk
  have HSp : Hid (sp.length = ss.length) := by show _ = _; rw [← hsp]; simp
  clear hsp hQ
  rw [HWd.out] at HPr
  have HMk : Hid (ShapeOk Q (sp.map (mergeS ta tb)) ∧ (∀ l, Inst (sp.map (mergeS ta tb)) l → Inst sp l) ∧ (sp.map (mergeS ta tb)).length = sp.length) := ⟨merge_ok HOk.out, fun l h => merge_inst h, List.length_map _⟩
  obtain ⟨sm, hsm⟩ : ∃ sm, sp.map (mergeS ta tb) = sm := ⟨_, rfl⟩
  have HSm := hide hsm
  rw [hsm] at HMk
  clear hsm
  have HCk : Hid (ShapeOk Q (sm.map (putS tb tc)) ∧ (∀ l, Inst (sm.map (putS tb tc)) l → Inst sm l) ∧ (sm.map (putS tb tc)).length = sm.length) := ⟨put_ok HMk.out.1, fun l h => put_inst h, List.length_map _⟩
  obtain ⟨sc, hsc⟩ : ∃ sc, sm.map (putS tb tc) = sc := ⟨_, rfl⟩
  have HSc := hide hsc
  rw [hsc] at HCk
  clear hsc
  go_enter Try.func6, Try.ntmps6
  go_upto_region 2 with (go_at_call 7; refine HPr.out.mono ?_; rintro e w1 ⟨pv, rfl, hg, hb⟩; have HG := hide hg; have HB1 := hide hb; obtain ⟨pa, pc, hpv, -, -⟩ := hg.shape; subst hpv; clear hg hb)
  have HBW1 : Hid (Below W.heap.size W w1) := by have h := HB1.out; rw [← HWd.out] at h; exact h
  have HL0 := hide (HG.out.list (by have := HSp.out; omega))
  clear HG HB1 HPr HWd
  obtain ⟨X1, hX1⟩ : ∃ X, X = w1.alloc (.cells #[.int .i64 Q, .slice pa sp.length pc] 24) := ⟨_, rfl⟩
  obtain ⟨hBX, e1, f1⟩ := box_new hX1
  obtain ⟨B1, hB1⟩ : ∃ B, w1.heap.size = B := ⟨_, rfl⟩
  have HX1 := hide hBX
  rw [← hX1]
  rw [hB1] at e1 f1 ⊢
  clear hX1 hB1 hBX
  have HW1 : Hid (Below W.heap.size W X1) := belot HBW1.out HX1.out
  have HL1 := hide (HL0.out.kept HX1.out)
  clear HL0 HX1 HBW1
  have HSh := hide (shape_ok HL1.out HOk.out)
  go_upto_region 3 with (go_at_call 8; refine HSh.out.mono ?_; rintro e w2 ⟨sv, rfl, hl, hb⟩; have HLa := hide hl.all; have HB2 := hide hb; obtain ⟨aa, ac, hsv, -, -, -⟩ := hl.shape; subst hsv; clear hl hb)
  obtain ⟨X2, hX2⟩ : ∃ X, X = w2.alloc (.cells #[.int .i64 Q, .slice aa (shapeC sp).length ac] 32) := ⟨_, rfl⟩
  obtain ⟨hBX, e2, f2⟩ := box_new hX2
  obtain ⟨B2, hB2⟩ : ∃ B, w2.heap.size = B := ⟨_, rfl⟩
  have HX2 := hide hBX
  rw [← hX2]
  rw [hB2] at e2 f2 ⊢
  clear hX2 hB2 hBX
  have HX12 : Hid (Below X1.heap.size X1 X2) := belot HB2.out HX2.out
  have HW2 : Hid (Below W.heap.size W X2) := belot HW1.out HX12.out
  have HL2 := hide (HL1.out.kept HX12.out)
  have HA2 := hide (HLa.out.kept HX2.out)
  have g1 := kept_cell HX12.out e1
  have k1 := kept_cell HX12.out f1
  clear e1 f1 HLa HX2 HB2 HX12 HW1 HL1 HSh
  have HMe := hide (merged_any (x := ta) (y := tb) hQi hta htb HL2.out)
  rw [HSm.out] at HMe
  have t0 := kept_cell HW2.out HWc.out.1
  have t1 := kept_cell HW2.out HWc.out.2.1
  go_upto_region 4 with (go_at_call 20; refine HMe.out.mono ?_; rintro e w3 ⟨mv, rfl, hg, hb⟩; have HG := hide hg; have HB3 := hide hb; obtain ⟨ma, mc, hmv, -, -⟩ := hg.shape; subst hmv; clear hg hb)
  have HM0 := hide (HG.out.list (by have := HSp.out; have := HMk.out.2.2; omega))
  clear t0 t1 HMe
  obtain ⟨X3, hX3⟩ : ∃ X, X = w3.alloc (.cells #[.int .i64 Q, .slice ma sm.length mc] 24) := ⟨_, rfl⟩
  obtain ⟨hBX, e3, f3⟩ := box_new hX3
  obtain ⟨B3, hB3⟩ : ∃ B, w3.heap.size = B := ⟨_, rfl⟩
  have HX3 := hide hBX
  rw [← hX3]
  rw [hB3] at e3 f3 ⊢
  clear hX3 hB3 hBX
  have HX23 : Hid (Below X2.heap.size X2 X3) := belot HB3.out HX3.out
  have HW3 : Hid (Below W.heap.size W X3) := belot HW2.out HX23.out
  have HM3 := hide (HM0.out.kept HX3.out)
  have HA3 := hide (HA2.out.kept HX23.out)
  have g1' := kept_cell HX23.out g1
  have k1' := kept_cell HX23.out k1
  have g2 := kept_cell HX23.out e2
  have k2 := kept_cell HX23.out f2
  clear e2 f2 g1 k1 HG HM0 HX3 HB3 HX23 HW2 HL2 HA2
  have HSh := hide (shape_ok HM3.out HMk.out.1)
  go_upto_region 5 with (go_at_call 8; refine HSh.out.mono ?_; rintro e w4 ⟨sv, rfl, hl, hb⟩; have HLb := hide hl.all; have HB4 := hide hb; obtain ⟨ba, bc, hsv, -, -, -⟩ := hl.shape; subst hsv; clear hl hb)
  obtain ⟨X4, hX4⟩ : ∃ X, X = w4.alloc (.cells #[.int .i64 Q, .slice ba (shapeC sm).length bc] 32) := ⟨_, rfl⟩
  obtain ⟨hBX, e4, f4⟩ := box_new hX4
  obtain ⟨B4, hB4⟩ : ∃ B, w4.heap.size = B := ⟨_, rfl⟩
  have HX4 := hide hBX
  rw [← hX4]
  rw [hB4] at e4 f4 ⊢
  clear hX4 hB4 hBX
  have HX34 : Hid (Below X3.heap.size X3 X4) := belot HB4.out HX4.out
  have HW4 : Hid (Below W.heap.size W X4) := belot HW3.out HX34.out
  have HM4 := hide (HM3.out.kept HX34.out)
  have HA4 := hide (HA3.out.kept HX34.out)
  have HB4l := hide (HLb.out.kept HX4.out)
  have g1 := kept_cell HX34.out g1'
  have k1 := kept_cell HX34.out k1'
  have g2' := kept_cell HX34.out g2
  have k2' := kept_cell HX34.out k2
  have g3 := kept_cell HX34.out e3
  have k3 := kept_cell HX34.out f3
  clear e3 f3 g1' k1' g2 k2 HX4 HB4 HX34 HW3 HM3 HA3 HSh HLb
  have HPu := hide (put_any (x := tb) (y := tc) hQi htb htc HM4.out)
  rw [HSc.out] at HPu
  have t1 := kept_cell HW4.out HWc.out.2.1
  have t2 := kept_cell HW4.out HWc.out.2.2.1
  go_upto_region 6 with (first
    | (go_at_call 21; refine HPu.out.mono ?_; rintro e w5 ⟨mv, rfl, hg, hb⟩; have HB5 := hide hb; obtain ⟨ca, cc, hmv, -, -⟩ := hg.shape; subst hmv; have HSh := hide (shape_ok (hg.list (by have := HSp.out; have := HMk.out.2.2; have := HCk.out.2.2; omega)) HCk.out.1); clear hg hb)
    | (go_at_call 8; refine HSh.out.mono ?_; rintro e w6 ⟨sv, rfl, hl, hb⟩; have HLc := hide hl.all; have HB6 := hide (belot HB5.out hb); obtain ⟨da, dc, hsv, -, -, -⟩ := hl.shape; subst hsv; clear hl hb))
  clear t1 t2 HPu HB5 HSh
  obtain ⟨X5, hX5⟩ : ∃ X, X = w6.alloc (.cells #[.int .i64 Q, .slice da (shapeC sc).length dc] 32) := ⟨_, rfl⟩
  obtain ⟨hBX, e5, f5⟩ := box_new hX5
  obtain ⟨B5, hB5⟩ : ∃ B, w6.heap.size = B := ⟨_, rfl⟩
  have HX5 := hide hBX
  rw [← hX5]
  rw [hB5] at e5 f5 ⊢
  clear hX5 hB5 hBX
  have HX45 : Hid (Below X4.heap.size X4 X5) := belot HB6.out HX5.out
  have HW5 : Hid (Below W.heap.size W X5) := belot HW4.out HX45.out
  have HA5 := hide (HA4.out.kept HX45.out)
  have HB5 := hide (HB4l.out.kept HX45.out)
  have HC5 := hide (HLc.out.kept HX5.out)
  have HM5 := hide (HM4.out.kept HX45.out)
  have HBx : Hid (∀ V : World, Below X5.heap.size X5 V → V.cell? ⟨B1, 0, none⟩ = some (.int .i64 Q) ∧ V.cell? ⟨B1, 1, none⟩ = some (.slice pa sp.length pc) ∧ V.cell? ⟨B2, 0, none⟩ = some (.int .i64 Q) ∧ V.cell? ⟨B2, 1, none⟩ = some (.slice aa (shapeC sp).length ac) ∧ V.cell? ⟨B3, 0, none⟩ = some (.int .i64 Q) ∧ V.cell? ⟨B3, 1, none⟩ = some (.slice ma sm.length mc) ∧ V.cell? ⟨B4, 0, none⟩ = some (.int .i64 Q) ∧ V.cell? ⟨B4, 1, none⟩ = some (.slice ba (shapeC sm).length bc) ∧ V.cell? ⟨B5, 0, none⟩ = some (.int .i64 Q) ∧ V.cell? ⟨B5, 1, none⟩ = some (.slice da (shapeC sc).length dc)) := fun V hV => by
    have h := belot HX45.out hV
    exact ⟨kept_cell h g1, kept_cell h k1, kept_cell h g2', kept_cell h k2', kept_cell h g3, kept_cell h k3, kept_cell h e4, kept_cell h f4, kept_cell hV e5, kept_cell hV f5⟩
  clear g1 k1 g2' k2' g3 k3 e4 f4 e5 f5 HA4 HB4l HLc HM4 HX45 HX5 HB6 HW4
  have HCaa := hide (cov_of HOk.out HOk.out (shape_inst_self _))
  have hIab : Inst sp (shapeC sm) := HMk.out.2.1 _ (shape_inst_self _)
  have hIbc : Inst sm (shapeC sc) := HCk.out.2.1 _ (shape_inst_self _)
  have hIac : Inst sp (shapeC sc) := HMk.out.2.1 _ hIbc
  have HCab := hide (cov_of HOk.out HMk.out.1 hIab)
  have HCbc := hide (cov_of HMk.out.1 HCk.out.1 hIbc)
  have HCac := hide (cov_of HOk.out HCk.out.1 hIac)
  have HKba := hide (cov_back HOk.out HMk.out.1 hIab)
  have HKcb := hide (cov_back HMk.out.1 HCk.out.1 hIbc)
  have HKca := hide (cov_back HOk.out HCk.out.1 hIac)
  have HUcb := hide (fun (hf : fitB Q (shapeC sc) p rs = true) => fit_up HMk.out.1 HCk.out.1 HCk.out.2.1 hf)
  have HUba := hide (fun (hf : fitB Q (shapeC sm) p rs = true) => fit_up HOk.out HMk.out.1 HMk.out.2.1 hf)
  have HFi : Hid (∀ l, Inst sc l → fitB Q (shapeC sc) Q l = true ∧ fitB Q (shapeC sm) Q l = true ∧ fitB Q (shapeC sp) Q l = true) := fun l h => by
    have h2 := HCk.out.2.1 l h
    have h3 := HMk.out.2.1 l h2
    rw [fit_instB HCk.out.1, fit_instB HMk.out.1, fit_instB HOk.out]
    exact ⟨instB_yes ⟨rfl, h⟩, instB_yes ⟨rfl, h2⟩, instB_yes ⟨rfl, h3⟩⟩
  clear hIab hIbc hIac
  have HCl : Hid (sc.length < 1073741824) := by show _ < _; have := HSp.out; have := HMk.out.2.2; have := HCk.out.2.2; omega
  obtain ⟨A, hA⟩ : ∃ A, shapeC sp = A := ⟨_, rfl⟩
  obtain ⟨B, hB⟩ : ∃ B, shapeC sm = B := ⟨_, rfl⟩
  obtain ⟨C, hC⟩ : ∃ C, shapeC sc = C := ⟨_, rfl⟩
  rw [hA] at HA5 HBx HCaa HCab HCac HKba HKca HUba HFi ⊢
  rw [hB] at HB5 HBx HCab HCbc HKba HKcb HUcb HUba HFi ⊢
  rw [hC] at HC5 HBx HCbc HCac HKcb HKca HUcb HFi ⊢
  clear hA hB hC HOk HMk HCk
  obtain ⟨c1, c2, c3, c4, c5, c6, c7, c8, c9, c10⟩ := HBx.out _ (Below.refl _ X5)
  have HV1 := hide (cov_any (p := Q) (q := Q) HA5.out HA5.out)
  have HV2 := hide (fun V hV => cov_any (w := V) (p := Q) (q := Q) (HA5.out.kept hV) (HB5.out.kept hV))
  have HV3 := hide (fun V hV => cov_any (w := V) (p := Q) (q := Q) (HB5.out.kept hV) (HC5.out.kept hV))
  have HV4 := hide (fun V hV => cov_any (w := V) (p := Q) (q := Q) (HA5.out.kept hV) (HC5.out.kept hV))
  rw [HCaa.out] at HV1
  rw [HCab.out] at HV2
  rw [HCbc.out] at HV3
  rw [HCac.out] at HV4
  go_upto_region 8 with (first
    | (go_at_call 18; refine HV1.out.mono ?_; rintro e y1 ⟨rfl, h⟩; have HY1 := hide h; obtain ⟨a1, a2, a3, a4, a5, a6, a7, a8, a9, a10⟩ := HBx.out _ h; have HV2' := hide (HV2.out _ h); clear h HV1 HV2 c1 c2 c3 c4 c5 c6 c7 c8 c9 c10)
    | (go_at_call 18; refine HV2'.out.mono ?_; rintro e y2 ⟨rfl, h⟩; have HY2 := hide (belot HY1.out h); obtain ⟨c1, c2, c3, c4, c5, c6, c7, c8, c9, c10⟩ := HBx.out _ HY2.out; have HV3' := hide (HV3.out _ HY2.out); clear h HV2' HV3 HY1 a1 a2 a3 a4 a5 a6 a7 a8 a9 a10)
    | (go_at_call 18; refine HV3'.out.mono ?_; rintro e y3 ⟨rfl, h⟩; have HY3 := hide (belot HY2.out h); obtain ⟨a1, a2, a3, a4, a5, a6, a7, a8, a9, a10⟩ := HBx.out _ HY3.out; have HV4' := hide (HV4.out _ HY3.out); clear h HV3' HV4 HY2 c1 c2 c3 c4 c5 c6 c7 c8 c9 c10)
    | (go_at_call 18; refine HV4'.out.mono ?_; rintro e y4 ⟨rfl, h⟩; have HY4 := hide (belot HY3.out h); clear h HV4' HY3 a1 a2 a3 a4 a5 a6 a7 a8 a9 a10))
  obtain ⟨c1, c2, c3, c4, c5, c6, c7, c8, c9, c10⟩ := HBx.out _ HY4.out
  have c3' := over_cell c3
  have c4' := over_cell c4
  have c7' := over_cell c7
  have c8' := over_cell c8
  have c9' := over_cell c9
  have c10' := over_cell c10
  have HA6 := hide (HA5.out.kept HY4.out)
  have HB6 := hide (HB5.out.kept HY4.out)
  have HC6 := hide (HC5.out.kept HY4.out)
  have HZ1 := hide (fun x => cov_any (p := Q) (q := Q) (HB6.out.kept (over_below y4 x)) (HA6.out.kept (over_below y4 x)))
  have HZ2 := hide (fun x => cov_any (p := Q) (q := Q) (HC6.out.kept (over_below y4 x)) (HB6.out.kept (over_below y4 x)))
  have HZ3 := hide (fun x => cov_any (p := Q) (q := Q) (HC6.out.kept (over_below y4 x)) (HA6.out.kept (over_below y4 x)))
  have HQ1 := hide (fun x => lsame_any (q := Q) (p := Q) (HA6.out.kept (over_below y4 x)) (HB6.out.kept (over_below y4 x)))
  have HQ2 := hide (fun x => lsame_any (q := Q) (p := Q) (HB6.out.kept (over_below y4 x)) (HC6.out.kept (over_below y4 x)))
  have HQ3 := hide (fun x => lsame_any (q := Q) (p := Q) (HA6.out.kept (over_below y4 x)) (HC6.out.kept (over_below y4 x)))
  rw [show decide (Q = Q ∧ A = B) = decide (A = B) by simp] at HQ1
  rw [show decide (Q = Q ∧ B = C) = decide (B = C) by simp] at HQ2
  rw [show decide (Q = Q ∧ A = C) = decide (A = C) by simp] at HQ3
  rw [HKba.out] at HZ1
  rw [HKcb.out] at HZ2
  rw [HKca.out] at HZ3
  obtain ⟨x1, hx1⟩ : ∃ x, decide (A = B) = x := ⟨_, rfl⟩
  obtain ⟨x2, hx2⟩ : ∃ x, decide (B = C) = x := ⟨_, rfl⟩
  obtain ⟨x3, hx3⟩ : ∃ x, decide (A = C) = x := ⟨_, rfl⟩
  rw [hx1] at HZ1 HQ1
  rw [hx2] at HZ2 HQ2
  rw [hx3] at HZ3 HQ3
  clear hx1 hx2 hx3 HKba HKcb HKca HCaa HCab HCbc HCac
  have hn1 : (x1 != x1) = false := by simp
  have hn2 : (x2 != x2) = false := by simp
  have hn3 : (x3 != x3) = false := by simp
  refine wp_region_over (fun W => y4 = W) (by kernel_rfl) (by kernel_rfl) rfl ?_
  rintro _ rfl
  repeat (go_big_quiet_step (first | (go_at_call 18; with_reducible exact calls_over (HZ1.out _)) | (go_at_call 18; with_reducible exact calls_over (HZ2.out _)) | (go_at_call 18; with_reducible exact calls_over (HZ3.out _)) | (go_at_call 22; with_reducible exact calls_over (HQ1.out _)) | (go_at_call 22; with_reducible exact calls_over (HQ2.out _)) | (go_at_call 22; with_reducible exact calls_over (HQ3.out _))))
  refine wpQuiet_nil ?_
  rintro _ ⟨z, rfl⟩
  have HY5 : Hid (Below X5.heap.size X5 (over y4 z)) := HY4.out.trans ((over_below y4 z).mono HY4.out.size)
  generalize over y4 z = y5 at HY5 ⊢
  clear HZ1 HZ2 HZ3 HQ1 HQ2 HQ3 c3' c4' c7' c8' c9' c10' c1 c2 c3 c4 c5 c6 c7 c8 c9 c10 HA6 HB6 HC6 HY4
  obtain ⟨c1, c2, c3, c4, c5, c6, c7, c8, c9, c10⟩ := HBx.out _ HY5.out
  have HW6 : Hid (∀ V : World, Below X5.heap.size X5 V → V.cell? ⟨w.heap.size + 1, 0, none⟩ = some (.int .i64 ta) ∧ V.cell? ⟨w.heap.size + 1, 1, none⟩ = some (.int .i64 tb) ∧ V.cell? ⟨w.heap.size + 1, 2, none⟩ = some (.int .i64 tc) ∧ V.cell? ⟨w.heap.size + 1 + 1, 0, none⟩ = some (.int .i64 p) ∧ V.cell? ⟨w.heap.size + 1 + 1, 1, none⟩ = some (.slice va rs.length vc)) := fun V hV => by
    have h := belot HW5.out hV
    exact ⟨kept_cell h HWc.out.1, kept_cell h HWc.out.2.1, kept_cell h HWc.out.2.2.1, kept_cell h HWc.out.2.2.2.1, kept_cell h HWc.out.2.2.2.2⟩
  have HR5 := hide (HR.out.kept HW5.out)
  have HBw5 : Hid (Below w.heap.size w X5) := belot HWb.out HW5.out
  clear HWc HR HW5
  obtain ⟨r1, r2, r3, r4, r5⟩ := HW6.out _ HY5.out
  have HU1 := hide (fits_any (q := Q) (p := p) (HA5.out.kept HY5.out) (HR5.out.kept HY5.out))
  have HU2 := hide (fun V hV => fits_any (w := V) (q := Q) (p := p) (HB5.out.kept hV) (HR5.out.kept hV))
  have HU3 := hide (fun V hV => fits_any (w := V) (q := Q) (p := p) (HC5.out.kept hV) (HR5.out.kept hV))
  obtain ⟨fa, hfa⟩ : ∃ f, fitB Q A p rs = f := ⟨_, rfl⟩
  obtain ⟨fb, hfb⟩ : ∃ f, fitB Q B p rs = f := ⟨_, rfl⟩
  obtain ⟨fc, hfc⟩ : ∃ f, fitB Q C p rs = f := ⟨_, rfl⟩
  rw [hfa] at HU1 HUba
  rw [hfb] at HU2 HUba HUcb
  rw [hfc] at HU3 HUcb
  clear hfa hfb hfc
  go_upto_region 13 with (first
    | (go_at_call 10; refine HU1.out.mono ?_; rintro e y6 ⟨rfl, h⟩; have HY6 := hide (belot HY5.out h); obtain ⟨a1, a2, a3, a4, a5, a6, a7, a8, a9, a10⟩ := HBx.out _ HY6.out; obtain ⟨s1, s2, s3, s4, s5⟩ := HW6.out _ HY6.out; have HU2' := hide (HU2.out _ HY6.out); clear h HU1 HU2 HY5 c1 c2 c3 c4 c5 c6 c7 c8 c9 c10 r1 r2 r3 r4 r5)
    | (go_at_call 10; refine HU2'.out.mono ?_; rintro e y7 ⟨rfl, h⟩; have HY7 := hide (belot HY6.out h); obtain ⟨c1, c2, c3, c4, c5, c6, c7, c8, c9, c10⟩ := HBx.out _ HY7.out; obtain ⟨r1, r2, r3, r4, r5⟩ := HW6.out _ HY7.out; have HU3' := hide (HU3.out _ HY7.out); clear h HU2' HU3 HY6 a1 a2 a3 a4 a5 a6 a7 a8 a9 a10 s1 s2 s3 s4 s5)
    | (go_at_call 10; refine HU3'.out.mono ?_; rintro e y8 ⟨rfl, h⟩; have HY8 := hide (belot HY7.out h); clear h HU3' HY7 c1 c2 c3 c4 c5 c6 c7 c8 c9 c10 r1 r2 r3 r4 r5))
  have HPu := hide (fun V hV => put_any (w := V) (x := tb) (y := tc) hQi htb htc (HM5.out.kept hV))
  rw [HSc.out] at HPu
  obtain ⟨c1, c2, c3, c4, c5, c6, c7, c8, c9, c10⟩ := HBx.out _ HY8.out
  obtain ⟨r1, r2, r3, r4, r5⟩ := HW6.out _ HY8.out
  have HIn : Hid (Inst sc (sc.map (valS (fillN ta)))) := ⟨_, rfl⟩
  have HLl : Hid ((sc.map (valS (fillN ta))).length < 1073741824) := by show _ < _; rw [List.length_map]; exact HCl.out
  obtain ⟨L, hL⟩ : ∃ L, sc.map (valS (fillN ta)) = L := ⟨_, rfl⟩
  have HLd := hide hL
  rw [hL] at HIn HLl
  clear hL
  obtain ⟨F1, F2, F3⟩ := HFi.out L HIn.out
  have HF1 := hide F1
  have HF2 := hide F2
  have HF3 := hide F3
  clear F1 F2 F3 HFi HIn
  have hcases : (fc = true ∧ fb = true ∧ fa = true) ∨ (fc = false ∧ fb = true ∧ fa = true) ∨ (fc = false ∧ fb = false ∧ fa = true) ∨ (fc = false ∧ fb = false ∧ fa = false) := by
    have h1 := HUcb.out
    have h2 := HUba.out
    cases fc <;> cases fb <;> cases fa <;> simp_all
  clear HUcb HUba
  rcases hcases with ⟨rfl, rfl, rfl⟩ | ⟨rfl, rfl, rfl⟩ | ⟨rfl, rfl, rfl⟩ | ⟨rfl, rfl, rfl⟩
  all_goals
    go_upto_region 15 with fail
    go_region_held3 (fun V => V.cell? ⟨B3, 0, none⟩ = some (.int .i64 Q) ∧ V.cell? ⟨B3, 1, none⟩ = some (.slice ma sm.length mc) ∧ V.cell? ⟨w.heap.size + 1, 0, none⟩ = some (.int .i64 ta) ∧ V.cell? ⟨w.heap.size + 1, 1, none⟩ = some (.int .i64 tb) ∧ V.cell? ⟨w.heap.size + 1, 2, none⟩ = some (.int .i64 tc))
      (first
        | exact ⟨c5, c6, r1, r2, r3⟩
        | exact HS9.out
        | exact HS10.out)
      (first
        | (go_at_call 21; refine (HPu.out _ HY8.out.drew).mono ?_; rintro e y9 ⟨pv, rfl, hg, hb⟩; have HY9 := hide (belot HY8.out.drew hb); obtain ⟨pa9, pc9, hpv, -, -⟩ := hg.shape; subst hpv; have HFl := hide (filled_any (q := Q) (x := ta) (hg.list HCl.out)); rw [HLd.out] at HFl; have HS9 : Hid (y9.cell? ⟨B3, 0, none⟩ = some (.int .i64 Q) ∧ y9.cell? ⟨B3, 1, none⟩ = some (.slice ma sm.length mc) ∧ y9.cell? ⟨w.heap.size + 1, 0, none⟩ = some (.int .i64 ta) ∧ y9.cell? ⟨w.heap.size + 1, 1, none⟩ = some (.int .i64 tb) ∧ y9.cell? ⟨w.heap.size + 1, 2, none⟩ = some (.int .i64 tc)) := ⟨(HBx.out _ HY9.out).2.2.2.2.1, (HBx.out _ HY9.out).2.2.2.2.2.1, (HW6.out _ HY9.out).1, (HW6.out _ HY9.out).2.1, (HW6.out _ HY9.out).2.2.1⟩; clear hg hb)
        | (go_at_call 12; refine HFl.out.mono ?_; rintro e y10 ⟨lv, rfl, hg, hb⟩; have HY10 := hide (belot HY9.out hb); obtain ⟨la, lc, hlv, -, -⟩ := hg.shape; subst hlv; have HLi := hide (hg.list HLl.out); have HS10 : Hid (y10.cell? ⟨B3, 0, none⟩ = some (.int .i64 Q) ∧ y10.cell? ⟨B3, 1, none⟩ = some (.slice ma sm.length mc) ∧ y10.cell? ⟨w.heap.size + 1, 0, none⟩ = some (.int .i64 ta) ∧ y10.cell? ⟨w.heap.size + 1, 1, none⟩ = some (.int .i64 tb) ∧ y10.cell? ⟨w.heap.size + 1, 2, none⟩ = some (.int .i64 tc)) := ⟨(HBx.out _ HY10.out).2.2.2.2.1, (HBx.out _ HY10.out).2.2.2.2.2.1, (HW6.out _ HY10.out).1, (HW6.out _ HY10.out).2.1, (HW6.out _ HY10.out).2.2.1⟩; clear hg hb))
    clear c1 c2 c3 c4 c5 c6 c7 c8 c9 c10 r1 r2 r3 r4 r5
    obtain ⟨c1, c2, c3, c4, c5, c6, c7, c8, c9, c10⟩ := HBx.out _ HY10.out
    have HV1 := hide (fits_any (q := Q) (p := Q) (HC5.out.kept HY10.out) HLi.out)
    have HV2 := hide (fun V hV hV2 => fits_any (w := V) (q := Q) (p := Q) (HB5.out.kept hV) (HLi.out.kept hV2))
    have HV3 := hide (fun V hV hV2 => fits_any (w := V) (q := Q) (p := Q) (HA5.out.kept hV) (HLi.out.kept hV2))
    rw [HF1.out] at HV1
    rw [HF2.out] at HV2
    rw [HF3.out] at HV3
    go_wp2_with (first
      | (go_at_call 10; refine HV1.out.mono ?_; rintro e z1 ⟨rfl, h⟩; have HZ1 := hide (belot HY10.out h); have HZ1a := hide h; obtain ⟨a1, a2, a3, a4, a5, a6, a7, a8, a9, a10⟩ := HBx.out _ HZ1.out; have HV2' := hide (HV2.out _ HZ1.out h); clear h HV1 HV2 c1 c2 c3 c4 c5 c6 c7 c8 c9 c10)
      | (go_at_call 10; refine HV2'.out.mono ?_; rintro e z2 ⟨rfl, h⟩; have HZ2 := hide (belot HZ1.out h); obtain ⟨c1, c2, c3, c4, c5, c6, c7, c8, c9, c10⟩ := HBx.out _ HZ2.out; have HV3' := hide (HV3.out _ HZ2.out (belot HZ1a.out h)); clear h HV2' HV3 HZ1 HZ1a a1 a2 a3 a4 a5 a6 a7 a8 a9 a10)
      | (go_at_call 10; refine HV3'.out.mono ?_; rintro e z3 ⟨rfl, h⟩; have HZ3 := hide (belot HZ2.out h); clear h HV3'))
    go_ret
    exact ⟨rfl, belot HBw5.out HZ3.out⟩
end Go.Proofs.Ytpbcimpbddabeaa
