/- edictlaw10.AlphaMeans: a row fits a pattern's shape just if some numbers in place of its variables make it the row. -/
import Derived.Test.YtpbcimpbddabeaaAlphaShape
import Derived.Test.YtpbcimpbddabeaaAlphaFit
import Derived.Test.YtpbcimpbddabeaaLawProper
import Derived.Test.YtpbcimpbddabeaaLawFilled
import Derived.Test.YtpbcimpbddabeaaLawInst
import Derived.Test.YtpbcimpbddabeaaPushKeep
namespace Go.Proofs.Ytpbcimpbddabeaa
set_option linter.unusedSimpArgs false
set_option linter.unusedVariables false
open Go.RowKit

theorem shape_ok {w : World} {q : Int} {v : Value} {ss : List Slo} (h : Has elSlo w v ss) (hok : ShapeOk q ss) :
    Calls Try.prog 8 #[.agg #[.int .i64 q, v]] w fun e w' => ∃ u, e = .returned (.agg #[.int .i64 q, u]) ∧ Lst elInt w' (fun b => w.heap.size ≤ b) u (shapeC ss) ∧ Below w.heap.size w w' :=
  (shape_any h).mono fun e w' ⟨ha, hb⟩ => by
    rcases ha with ⟨_, u, he, hl⟩ | ⟨hno, _⟩
    · exact ⟨u, he, hl, hb⟩
    · exact absurd hok hno
theorem fit_instB {q p : Int} {ss : List Slo} {rs : List Int} (hok : ShapeOk q ss) : fitB q (shapeC ss) p rs = instB q ss p rs := by
  rw [Bool.eq_iff_iff, fitB_iff, instB_iff, fit_inst hok]
  exact ⟨fun h => ⟨h.2.1.symm, h.2.2⟩, fun h => ⟨shape_vld hok, h.1.symm, h.2⟩⟩

theorem wrap_succ_ne {Q : Int} (h : I64 Q) : IntKind.i64.wrap (Q + 1) ≠ Q := by
  obtain ⟨h1, h2⟩ := h
  rw [IntKind.wrap_i64]
  omega
theorem wrap_i64ok (x : Int) : I64 (IntKind.i64.wrap x) := by
  rw [IntKind.wrap_i64]
  exact ⟨by omega, by omega⟩

set_option maxRecDepth 100000 in
set_option maxHeartbeats 8000000 in
theorem alphaMeans_walk (q : Int) (u : Value) (ss : List Slo) (p : Int) (v : Value) (rs : List Int) (ta tb tc : Int) (w : World) (hq : I64 q) (h1 : Has elSlo w u ss) (hb1 : ss.length ≤ 1048576) (hp : I64 p) (h2 : Has elInt w v rs) (hb2 : rs.length ≤ 1048576) (hta : I64 ta) (htb : I64 tb) (htc : I64 tc) :
    Calls Try.prog 3 #[.agg #[.int .i64 q, u], .agg #[.int .i64 p, v], .agg #[.int .i64 ta, .int .i64 tb, .int .i64 tc]] w fun e w' => e = .returned (.bool true) ∧ Below w.heap.size w w' := by
  obtain ⟨j0, hj0, hy0, hy1, hy2⟩ := info_parts Try.infoInt10
  obtain ⟨ua, uc, rfl, -, -, -⟩ := h1.shape
  obtain ⟨va, vc, rfl, -, -, -⟩ := h2.shape
  obtain ⟨W, hW⟩ : ∃ W, W = ((w.alloc (.cells #[.int .i64 q, .slice ua ss.length uc] 24)).alloc (.cells #[.int .i64 p, .slice va rs.length vc] 27)).alloc (.cells #[.int .i64 ta, .int .i64 tb, .int .i64 tc] 29) := ⟨_, rfl⟩
  have HWb : Hid (Below w.heap.size w W) := by rw [hW]; exact belot (belot (belo1 w _) (belo1 _ _)) (belo1 _ _)
  have HWc : Hid (W.cell? ⟨w.heap.size + 1, 0, none⟩ = some (.int .i64 p) ∧ W.cell? ⟨w.heap.size + 1, 1, none⟩ = some (.slice va rs.length vc) ∧ W.cell? ⟨w.heap.size + 1 + 1, 0, none⟩ = some (.int .i64 ta)) := by
    have g0 := new_cells (w := w.alloc (.cells #[.int .i64 q, .slice ua ss.length uc] 24)) (t := 27) (cs := #[.int .i64 p, .slice va rs.length vc]) 0 _ rfl
    have g1 := new_cells (w := w.alloc (.cells #[.int .i64 q, .slice ua ss.length uc] 24)) (t := 27) (cs := #[.int .i64 p, .slice va rs.length vc]) 1 _ rfl
    have g2 := new_cells (w := (w.alloc (.cells #[.int .i64 q, .slice ua ss.length uc] 24)).alloc (.cells #[.int .i64 p, .slice va rs.length vc] 27)) (t := 29) (cs := #[.int .i64 ta, .int .i64 tb, .int .i64 tc]) 0 _ rfl
    simp only [size_alloc10] at g0 g1 g2
    rw [hW]
    exact ⟨kept_cell (belo1 _ _) g0, kept_cell (belo1 _ _) g1, g2⟩
  have HPr := hide (proper_any hq (h1.kept HWb.out))
  have HR := hide (h2.kept HWb.out)
  have HOk := hide (proper_ok q ss)
  have HWd := hide hW
  clear h1 h2 hW
  obtain ⟨Q, hQ⟩ : ∃ Q, max q 0 = Q := ⟨_, rfl⟩
  have hQi : I64 Q := by rw [← hQ]; exact max0_i64 hq
  rw [hQ] at HPr HOk
  obtain ⟨sp, hsp⟩ : ∃ sp, ss.map properS = sp := ⟨_, rfl⟩
  rw [hsp] at HPr HOk
  have HSp : Hid (sp.length = ss.length) := by show _ = _; rw [← hsp]; simp
  clear hsp hQ
  rw [HWd.out] at HPr
  go_enter Try.func3, Try.ntmps3
  go_upto_region 3 with (go_at_call 7; refine HPr.out.mono ?_; rintro e w1 ⟨pv, rfl, hg, hb⟩; have HG := hide hg; have HB1 := hide hb; obtain ⟨pa, pc, hpv, -, -⟩ := hg.shape; subst hpv; clear hg hb)
  have HBw1 : Hid (Below w.heap.size w w1) := by
    have h := HB1.out
    rw [← HWd.out] at h
    exact belot HWb.out h
  have HBW1 : Hid (Below W.heap.size W w1) := by have h := HB1.out; rw [← HWd.out] at h; exact h
  have HPs1 := hide (HG.out.list (by have := HSp.out; omega))
  obtain ⟨X1, hX1⟩ : ∃ X1, X1 = w1.alloc (.cells #[.int .i64 Q, .slice pa sp.length pc] 24) := ⟨_, rfl⟩
  have HX1 : Hid (Below w1.heap.size w1 X1) := by rw [hX1]; exact belo1 _ _
  have q0 : X1.cell? ⟨w1.heap.size, 0, none⟩ = some (.int .i64 Q) := by rw [hX1]; exact new_cells (cs := #[.int .i64 Q, .slice pa sp.length pc]) 0 _ rfl
  have q1 : X1.cell? ⟨w1.heap.size, 1, none⟩ = some (.slice pa sp.length pc) := by rw [hX1]; exact new_cells (cs := #[.int .i64 Q, .slice pa sp.length pc]) 1 _ rfl
  obtain ⟨qb, hqb⟩ : ∃ qb, w1.heap.size = qb := ⟨_, rfl⟩
  rw [← hX1]
  have HXW : Hid (Below W.heap.size W X1) := belot HBW1.out HX1.out
  have HPs := hide (HPs1.out.kept HX1.out)
  rw [hqb] at q0 q1 ⊢
  clear hX1 hqb HG HB1 HPr HBw1 HBW1 HPs1 HX1 HWd
  have HSh := hide (shape_ok HPs.out HOk.out)
  go_upto_region 4 with (go_at_call 8; refine HSh.out.mono ?_; rintro e w2 ⟨sv, rfl, hl, hb⟩; have HL2 := hide hl.all; have HB2 := hide hb; obtain ⟨sa, sc, hsv, -, -, -⟩ := hl.shape; subst hsv; clear hl hb)
  obtain ⟨X2, hX2⟩ : ∃ X2, X2 = w2.alloc (.cells #[.int .i64 Q, .slice sa (shapeC sp).length sc] 32) := ⟨_, rfl⟩
  have HX2 : Hid (Below w2.heap.size w2 X2) := by rw [hX2]; exact belo1 _ _
  have s0 : X2.cell? ⟨w2.heap.size, 0, none⟩ = some (.int .i64 Q) := by rw [hX2]; exact new_cells (cs := #[.int .i64 Q, .slice sa (shapeC sp).length sc]) 0 _ rfl
  have s1 : X2.cell? ⟨w2.heap.size, 1, none⟩ = some (.slice sa (shapeC sp).length sc) := by rw [hX2]; exact new_cells (cs := #[.int .i64 Q, .slice sa (shapeC sp).length sc]) 1 _ rfl
  have HX12 : Hid (Below X1.heap.size X1 X2) := belot HB2.out HX2.out
  have HXW2 : Hid (Below W.heap.size W X2) := belot HXW.out HX12.out
  obtain ⟨sb, hsb⟩ : ∃ sb, w2.heap.size = sb := ⟨_, rfl⟩
  have HCs := hide (HL2.out.kept HX2.out)
  have HPs2 := hide (HPs.out.kept HX12.out)
  have HR2 := hide (HR.out.kept HXW2.out)
  have t0 := kept_cell HX12.out q0
  have t1 := kept_cell HX12.out q1
  have r0 := kept_cell HXW2.out HWc.out.1
  have r1 := kept_cell HXW2.out HWc.out.2.1
  have r2 := kept_cell HXW2.out HWc.out.2.2
  rw [← hX2]
  rw [hsb] at s0 s1 ⊢
  clear hX2 hsb HL2 HB2 HX2 q0 q1 HSh HPs HR HXW HX12 HWc
  have HVd := hide (vldB_yes (shape_vld HOk.out))
  have HFi := hide (fun (p : Int) (rs : List Int) => fit_instB (p := p) (rs := rs) HOk.out)
  have HCl := hide (shapeC_len sp)
  obtain ⟨cs, hcs⟩ : ∃ cs, shapeC sp = cs := ⟨_, rfl⟩
  rw [hcs] at HCs HVd HFi s1 HCl ⊢
  have HCd := hide hcs
  clear hcs
  have HV1 := hide (fun x => valid_any (q := Q) (HCs.out.kept (over_below X2 x)))
  rw [HVd.out] at HV1
  have HF1 := hide (fun x => fits_any (q := Q) (p := p) (HCs.out.kept (over_below X2 x)) (HR2.out.kept (over_below X2 x)))
  have HI1 := hide (fun x => instance_any (q := Q) (p := p) (HPs2.out.kept (over_below X2 x)) (HR2.out.kept (over_below X2 x)))
  rw [← HFi.out p rs] at HI1
  obtain ⟨fb, hfb⟩ : ∃ fb, fitB Q cs p rs = fb := ⟨_, rfl⟩
  rw [hfb] at HF1 HI1
  clear hfb
  have hff : (fb != fb) = false := by simp
  have s0' := over_cell s0
  have s1' := over_cell s1
  have t0' := over_cell t0
  have t1' := over_cell t1
  have r0' := over_cell r0
  have r1' := over_cell r1
  refine wp_region_over (fun W => X2 = W) (by kernel_rfl) (by kernel_rfl) rfl ?_
  rintro _ rfl
  repeat (go_big_quiet_step (first | (go_at_call 9; exact calls_over (HV1.out _)) | (go_at_call 10; exact calls_over (HF1.out _)) | (go_at_call 11; exact calls_over (HI1.out _))))
  refine wpQuiet_nil ?_
  rintro _ ⟨z, rfl⟩
  have HX3 : Hid (Below X2.heap.size X2 (over X2 z)) := over_below X2 z
  generalize over X2 z = X3 at HX3 ⊢
  clear HV1 HF1 HI1 s0' s1' t0' t1' r0' r1'
  have HXW3 : Hid (Below w.heap.size w X3) := belot HWb.out (belot HXW2.out HX3.out)
  have HCs3 := hide (HCs.out.kept HX3.out)
  have HPs3 := hide (HPs2.out.kept HX3.out)
  have a0 := kept_cell HX3.out s0
  have a1 := kept_cell HX3.out s1
  have b0 := kept_cell HX3.out t0
  have b1 := kept_cell HX3.out t1
  have c2 := kept_cell HX3.out r2
  clear s0 s1 t0 t1 r0 r1 r2 HCs HPs2 HR2 HX3 HXW2
  have HFl := hide (filled_any (q := Q) (x := ta) HPs3.out)
  have HIn : Hid (Inst sp (sp.map (valS (fillN ta)))) := ⟨_, rfl⟩
  have HLl : Hid ((sp.map (valS (fillN ta))).length = sp.length) := List.length_map _
  have HI64 : Hid (∀ x ∈ sp.map (valS (fillN ta)), I64 x) := fun x hx => by
    obtain ⟨s, hs, rfl⟩ := List.mem_map.1 hx
    cases hv : s.v with
    | true => rw [valS_var hv]; exact bits_i64 _ _ _
    | false => rw [valS_con hv]; exact HPs3.out.ok hs
  obtain ⟨L, hL⟩ : ∃ L, sp.map (valS (fillN ta)) = L := ⟨_, rfl⟩
  rw [hL] at HIn HLl HFl HI64
  clear hL
  go_upto_region 7 with (go_at_call 12; refine HFl.out.mono ?_; rintro e w4 ⟨lv, rfl, hg, hb⟩; have HGl := hide hg; have HB4 := hide hb; obtain ⟨la, lc, hlv, -, -⟩ := hg.shape; subst hlv; clear hg hb)
  clear HFl c2
  have HLb : Hid (L.length < 1073741823) := by show _ < _; have h1 := HLl.out; have h2 := HSp.out; omega
  have HLi := hide (HGl.out.list (by have := HLb.out; omega))
  have HSc : Hid (∀ V : World, Below X3.heap.size X3 V → V.cell? ⟨sb, 0, none⟩ = some (.int .i64 Q) ∧ V.cell? ⟨sb, 1, none⟩ = some (.slice sa cs.length sc) ∧ V.cell? ⟨qb, 0, none⟩ = some (.int .i64 Q) ∧ V.cell? ⟨qb, 1, none⟩ = some (.slice pa sp.length pc)) := fun V hV => ⟨kept_cell hV a0, kept_cell hV a1, kept_cell hV b0, kept_cell hV b1⟩
  have HFt : Hid (fitB Q cs Q L = true) := by show _ = _; rw [HFi.out]; exact instB_yes ⟨rfl, HIn.out⟩
  have HFa : Hid (∀ V : World, Below w4.heap.size w4 V → Calls Try.prog 10 #[.agg #[.int .i64 Q, .slice sa cs.length sc], .int .i64 Q, .slice la L.length lc] V fun e w' => e = .returned (.bool true) ∧ Below V.heap.size V w') := fun V hV => by
    have h := fits_any (q := Q) (p := Q) (HCs3.out.kept (belot HB4.out hV)) (HLi.out.kept hV)
    rw [HFt.out] at h
    exact h
  have HFb : Hid (∀ (P1 : Int) (V : World), P1 ≠ Q → Below w4.heap.size w4 V → Calls Try.prog 10 #[.agg #[.int .i64 Q, .slice sa cs.length sc], .int .i64 P1, .slice la L.length lc] V fun e w' => e = .returned (.bool false) ∧ Below V.heap.size V w') := fun P1 V hP hV => by
    have h := fits_any (q := Q) (p := P1) (HCs3.out.kept (belot HB4.out hV)) (HLi.out.kept hV)
    have h3 : fitB Q cs P1 L = false := by rw [HFi.out]; exact instB_no fun h => hP h.1.symm
    rw [h3] at h
    exact h
  have HFc : Hid (fitB Q cs Q (L ++ [0]) = false) := by
    show _ = _
    rw [HFi.out]
    refine instB_no fun h => ?_
    obtain ⟨f, hf⟩ := h.2
    have h1 := congrArg List.length hf
    have h2 := HLl.out
    simp only [List.length_append, List.length_map, List.length_singleton] at h1
    omega
  have HOx : Hid (∀ x ∈ L ++ [0], ∀ (V : World) (F : Nat → Prop), elInt.ok V F x) := fun x hx V F => by
    rcases List.mem_append.1 hx with h | h
    · exact HI64.out x h
    · simp only [List.mem_singleton] at h; rw [h]; exact ⟨by omega, by omega⟩
  clear a0 a1 b0 b1
  obtain ⟨d0, d1, d2, d3⟩ := HSc.out _ HB4.out
  go_region_held3 (fun V => V.cell? ⟨sb, 0, none⟩ = some (.int .i64 Q) ∧ V.cell? ⟨sb, 1, none⟩ = some (.slice sa cs.length sc) ∧ V.cell? ⟨qb, 0, none⟩ = some (.int .i64 Q) ∧ V.cell? ⟨qb, 1, none⟩ = some (.slice pa sp.length pc))
    (first
      | exact HSc.out _ HB4.out
      | exact HSc.out _ HB4.out.drew
      | exact HSc.out _ (belot HB4.out HV5.out)
      | exact HSc.out _ (belot HB4.out HV6.out)
      | exact HSc.out _ (belot HB4.out HV6a.out)
      | exact HSc.out _ HV7.out
      | exact HSc.out _ HV8.out)
    (first
      | (go_at_call 10; refine (HFa.out _ ((Below.refl _ w4).drew)).mono ?_; rintro e w5 ⟨rfl, h5⟩; have HV5 : Hid (Below w4.heap.size w4 w5) := ((Below.refl _ w4).drew).trans h5; clear h5 HFa)
      | (go_at_call 10; refine (HFb.out _ _ (wrap_succ_ne hQi) HV5.out).mono ?_; rintro e w6 ⟨rfl, h6⟩; have HV6 : Hid (Below w4.heap.size w4 w6) := belot HV5.out h6; have HV6a : Hid (Below w4.heap.size w4 (w6.alloc (.cells #[.int .i64 0] 3))) := belot HV6.out (belo1 _ _); have HG6 := hide (HGl.out.kept HV6a.out); have HB6 : Hid (Below X3.heap.size X3 (w6.alloc (.cells #[.int .i64 0] 3))) := belot HB4.out HV6a.out; clear h6 HV5 HFb)
      | (show (if Region.wanted { dst := _, op := Op.call { callee := Callee.builtin Builtin.append, args := _, argTypes := _ }, type := _, pos := _, after := _, guard := _ } _ = true then _ else _); rw [if_pos (by rfl)]; refine wp_push_keep (w0 := X3) elInt (.tmp 57) (.tmp 58) 25 (by rfl) X3.heap.size 3 j0 _ 8 Try.underlying25 hj0 hy0 hy1 hy2 rfl (by decide) (.slice la L.length lc) L (by rfl) HG6.out (0 : Int) w6.heap.size 1 (by rfl) (fun j u hu => new_cells (cs := #[.int .i64 0]) j u hu) HOx.out (by have := HLb.out; omega) HB6.out HB6.out.size ?_; intro v7 w7 HG7 HG7o HV7 HGr7; obtain ⟨a7, c7, hv7, -, -⟩ := HG7.out.shape; rw [List.length_append, List.length_singleton] at hv7; subst hv7; have HL7 := hide (HG7.out.list (by rw [List.length_append]; have := HLb.out; simp; omega)); have HF7 := hide (fits_any (q := Q) (p := Q) (HCs3.out.kept HV7.out) HL7.out); rw [HFc.out] at HF7; clear HGr7 HG6 HB6)
      | (go_at_call 10; refine HF7.out.mono ?_; rintro e w8 ⟨rfl, h8⟩; have HV8 : Hid (Below X3.heap.size X3 w8) := belot HV7.out h8; have HG8 := hide (HG7o.out.kept h8); clear h8 HF7 HL7 HG7))
  clear HFc HOx HFt
  by_cases htb0 : tb < 0
  · go_wp2
    go_ret
    exact ⟨rfl, belot HXW3.out HV8.out⟩
  · by_cases htl : tb < (L.length : Int)
    · obtain ⟨j, rfl⟩ : ∃ j : Nat, tb = (j : Int) := ⟨tb.toNat, by omega⟩
      have hj : j < L.length := by omega
      have hj1 : (j : Int) < (L.length : Int) := by omega
      have hj0 : (0 : Int) ≤ (j : Int) := by omega
      obtain ⟨g, hla⟩ : ∃ g, la = some ⟨g, 0, none⟩ := by
        obtain ⟨ao, cap, e, _, hn, hs⟩ := own_shape6 HG8.out.1
        cases e
        cases la with
        | none => have := (hn rfl).1; omega
        | some ad => obtain ⟨g, e2, _⟩ := hs ad rfl; exact ⟨g, by rw [e2]⟩
      subst hla
      obtain ⟨⟨y, hy, k0⟩, k1, -, hgb⟩ := HG8.out.setInt hj (x := 0) ⟨by omega, by omega⟩
      have HGs := hide (fun x hx => (HG8.out.setInt hj (x := x) hx).2.2.1)
      obtain ⟨d0, d1, d2, d3⟩ := HSc.out _ HV8.out
      have hge : ¬ (L.length : Int) ≤ (j : Int) := by omega
      go_upto_region 12 with fail
      have hxi : I64 (wrap64 (y + 1)) := by have h := wrap_i64ok (y + 1); rw [IntWalk.i64_left] at h; exact h
      obtain ⟨x, hx⟩ : ∃ x, wrap64 (y + 1) = x := ⟨_, rfl⟩
      rw [hx] at hxi ⊢
      have HGx := hide (HGs.out x hxi)
      have HVx : Hid (Below X3.heap.size X3 (w8.setCell ⟨g, j, none⟩ (.int .i64 x))) := HV8.out.setCell hgb _
      clear hx HGs k0 k1 hy d0 d1 d2 d3 HG8 HG7o HGl HLi
      generalize w8.setCell ⟨g, j, none⟩ (.int .i64 x) = X9 at HGx HVx ⊢
      obtain ⟨d0, d1, d2, d3⟩ := HSc.out _ HVx.out
      have HLx := hide (HGx.out.list (by rw [List.length_set]; have := HLb.out; omega))
      have HCx := hide (HCs3.out.kept HVx.out)
      have HPx := hide (HPs3.out.kept HVx.out)
      obtain ⟨M, hM⟩ : ∃ M, L.set j x = M := ⟨_, rfl⟩
      rw [hM] at HLx
      clear HGx hM
      have HF1 := hide (fun z => fits_any (q := Q) (p := Q) (HCx.out.kept (over_below X9 z)) (HLx.out.kept (over_below X9 z)))
      have HI1 := hide (fun z => instance_any (q := Q) (p := Q) (HPx.out.kept (over_below X9 z)) (HLx.out.kept (over_below X9 z)))
      rw [← HFi.out Q M] at HI1
      obtain ⟨fc, hfc⟩ : ∃ fc, fitB Q cs Q M = fc := ⟨_, rfl⟩
      rw [hfc] at HF1 HI1
      clear hfc
      have hfe : (fc == fc) = true := by simp
      have d0' := over_cell d0
      have d1' := over_cell d1
      have d2' := over_cell d2
      have d3' := over_cell d3
      refine wp_region_over (fun W => X9 = W) (by kernel_rfl) (by kernel_rfl) rfl ?_
      rintro _ rfl
      repeat (go_big_quiet_step (first | (go_at_call 10; exact calls_over (HF1.out _)) | (go_at_call 11; exact calls_over (HI1.out _))))
      refine wpQuiet_nil ?_
      rintro _ ⟨z, rfl⟩
      have HXe : Hid (Below w.heap.size w (over X9 z)) := belot HXW3.out (HVx.out.trans ((over_below X9 z).mono HVx.out.size))
      generalize over X9 z = Xe at HXe ⊢
      clear HF1 HI1 d0' d1' d2' d3' d0 d1 d2 d3
      go_wp2
      go_ret
      exact ⟨rfl, HXe.out⟩
    · have htl1 : (L.length : Int) ≤ tb := by omega
      have htb1 : ¬ tb < 0 := by omega
      go_wp2
      go_ret
      exact ⟨rfl, belot HXW3.out HV8.out⟩
end Go.Proofs.Ytpbcimpbddabeaa
