/- edictlaw10.AlphaRenamed: renamed variables, one shape; with a place more behind, two shapes, one of which covers the other. (By mk_ren.py and expand.py.) -/
import Derived.Test.YtgligipgjakecaaDoorLawShapes
import Derived.Test.YtgligipgjakecaaDoorLawProper
import Derived.Test.YtgligipgjakecaaDoorLawUnused
import Derived.Test.YtgligipgjakecaaDoorLawFilled
import Derived.Test.YtgligipgjakecaaDoorAlphaCovOwn
import Derived.Test.YtgligipgjakecaaDoorRegionLast
namespace Go.Proofs.YtgligipgjakecaaDoor
set_option linter.unusedSimpArgs false
set_option linter.unusedVariables false
open Go.RowKit

theorem shape_ok10 {w : World} {q : Int} {v : Value} {ss : List Slo} (h : Has elSlo w v ss) (hok : ShapeOk q ss) :
    Calls Tryd.prog 6 #[.agg #[.int .i64 q, v]] w fun e w' => ∃ u, e = .returned (.agg #[.int .i64 q, u]) ∧ Has elInt w' u (shapeC ss) ∧ Below w.heap.size w w' :=
  (shape_any h).mono fun e w' ⟨ha, hb⟩ => by
    rcases ha with ⟨_, u, he, hl⟩ | ⟨hno, _⟩
    · exact ⟨u, he, hl.all, hb⟩
    · exact absurd hok hno
theorem dist_three {Q : Int} {v1 v2 v3 : Value} {s1 s2 s3 : List Slo} (h1 : ShapeOk Q s1) (h2 : shapeC s2 = shapeC s1) (h3 : shapeC s3 = shapeC s1) : distL [⟨Q, v1, s1⟩, ⟨Q, v2, s2⟩, ⟨Q, v3, s3⟩] = [(Q, shapeC s1)] := by
  unfold distL
  simp only [List.foldl_cons, List.foldl_nil]
  rw [distS_new (p := ⟨Q, v1, s1⟩) h1 (by simp), distS_old (p := ⟨Q, v2, s2⟩) (by dsimp only; rw [h2]; simp), distS_old (p := ⟨Q, v3, s3⟩) (by dsimp only; rw [h3]; simp)]
  rfl
theorem dist_four {Q : Int} {v1 v2 v3 v4 : Value} {s1 s2 s3 s4 : List Slo} (h1 : ShapeOk Q s1) (h2 : ShapeOk Q s2) (hne : shapeC s2 ≠ shapeC s1) (h3 : ¬ ShapeOk (-1) s3) (h4 : s4 = s1) : distL [⟨Q, v1, s1⟩, ⟨Q, v2, s2⟩, ⟨-1, v3, s3⟩, ⟨Q, v4, s4⟩] = [(Q, shapeC s1), (Q, shapeC s2)] := by
  unfold distL
  simp only [List.foldl_cons, List.foldl_nil]
  rw [distS_new (p := ⟨Q, v1, s1⟩) h1 (by simp), distS_new (p := ⟨Q, v2, s2⟩) h2 (by simp; exact hne), distS_no (p := ⟨-1, v3, s3⟩) h3, distS_old (p := ⟨Q, v4, s4⟩) (by dsimp only; rw [h4]; simp)]
  rfl
theorem grow_apart {w : World} {e t : TypeId} {base : Nat} {v : Value} {l : List Slo} {b : Nat} {c : Array Value} {f : Nat × Nat} (h : Grow elSlo e base w v l) (hb : w.heap[b]? = some (.cells c t f)) (hne : t ≠ e) : v.ownBlock ≠ some b := by
  rcases h.1.2 with ⟨e1, _⟩ | ⟨g, cap, cur, e1, _, hg, _⟩
  · rw [e1]; exact fun h => by cases h
  · rw [e1]
    intro h2
    simp only [Value.ownBlock, Option.some.injEq] at h2
    rw [h2, hb] at hg
    simp only [Option.some.injEq, Obj.cells.injEq] at hg
    exact hne hg.2.1
theorem grow_set {w : World} {e : TypeId} {base : Nat} {v u : Value} {l : List Slo} {b i : Nat} (h : Grow elSlo e base w v l) (hne : v.ownBlock ≠ some b) : Grow elSlo e base (w.setCell ⟨b, i, none⟩ u) v l := by
  refine ⟨⟨h.1.1, ?_⟩, fun x hx => h.2 x hx⟩
  rcases h.1.2 with h0 | ⟨g, cap, cur, e1, h2, hg, rest⟩
  · exact .inl h0
  · refine .inr ⟨g, cap, cur, e1, h2, ?_, rest⟩
    rw [Below.heap_setCell _ _ _ _ (fun e2 => hne (by rw [e1]; show some g = some b; exact congrArg some e2))]
    exact hg
theorem map_one {l : List Roe} {Q : Int} {C : List Int} (h : l.map rk = [(Q, C)]) : ∃ t, l = [t] ∧ t.q = Q ∧ t.l = C := by
  match l, h with
  | [t], h =>
    simp only [List.map_cons, List.map_nil, List.cons.injEq, and_true, rk, Prod.mk.injEq] at h
    exact ⟨t, rfl, h.1, h.2⟩
theorem map_two {l : List Roe} {Q : Int} {C D : List Int} (h : l.map rk = [(Q, C), (Q, D)]) : ∃ s t, l = [s, t] ∧ (s.q = Q ∧ s.l = C) ∧ t.q = Q ∧ t.l = D := by
  match l, h with
  | [s, t], h =>
    simp only [List.map_cons, List.map_nil, List.cons.injEq, and_true, rk, Prod.mk.injEq] at h
    exact ⟨s, t, rfl, h.1, h.2⟩
  | _ :: _ :: _ :: _, h => simp at h

set_option maxRecDepth 100000 in
set_option maxHeartbeats 16000000 in
theorem alphaRenamed_walk (q : Int) (u : Value) (ss : List Slo) (x : Int) (w : World) (hq : I64 q) (h1 : Has elSlo w u ss) (hb1 : ss.length ≤ 1048576) (hx : I64 x) (ht : TabLaid w) :
    Calls Tryd.prog 4 #[.agg #[.int .i64 q, u], .int .i64 x] w fun e w' => e = .returned (.bool true) ∧ Below w.heap.size w w' := by
  obtain ⟨i0, hi0', hz0, hz1, hz2⟩ := info_parts Tryd.infoSlo
  obtain ⟨ua0, uc0, rfl, -, -, -⟩ := h1.shape
  obtain ⟨W, hW⟩ : ∃ W, W = w.alloc (.cells #[.int .i64 q, .slice ua0 ss.length uc0] 29) := ⟨_, rfl⟩
  have HWb : Hid (Below w.heap.size w W) := by rw [hW]; exact belo1 _ _
  have HPr := hide (proper_any hq (h1.kept HWb.out))
  have HOk := hide (proper_ok q ss)
  have HTl : Hid (∀ V : World, Below w.heap.size w V → TabLaid V) := fun V hV => ht.kept hV
  have HWd := hide hW
  clear h1 hW ht
  obtain ⟨Q, hQ⟩ : ∃ Q, max q 0 = Q := ⟨_, rfl⟩
  have hQi : I64 Q := by rw [← hQ]; exact max0_i64 hq
  rw [hQ] at HPr HOk
  obtain ⟨sp, hsp⟩ : ∃ sp, ss.map properS = sp := ⟨_, rfl⟩
  rw [hsp] at HPr HOk
  have HSp : Hid (sp.length = ss.length) := by show _ = _; rw [← hsp]; simp
  clear hsp hQ
  have HPr2 := HPr
  rw [HWd.out] at HPr
  clear HPr2
  go_enter Tryd.func4, Tryd.ntmps4
  go_wp2_with (go_at_call 12; refine HPr.out.mono ?_; rintro e w1 ⟨pv, rfl, hg, hb⟩; have HG := hide hg; have HB1 := hide hb; obtain ⟨pa, pc, hpv, -, -⟩ := hg.shape; subst hpv; clear hg hb)
  have HBW1 : Hid (Below W.heap.size W w1) := by have h := HB1.out; rw [← HWd.out] at h; exact h
  have HGq : Hid (Grow elSlo 37 W.heap.size w1 (.slice pa sp.length pc) sp) := by have h := HG.out; rw [← HWd.out] at h; exact h
  clear HG HB1 HPr HWd
  obtain ⟨X2, hX2⟩ : ∃ X2, X2 = (w1.alloc (.cells #[.int .i64 Q, .slice pa sp.length pc] 29)).alloc (.cells #[.int .i64 Q, .slice none 0 0] 29) := ⟨_, rfl⟩
  rw [← hX2]
  obtain ⟨qb, hqb⟩ : ∃ qb, w1.heap.size = qb := ⟨_, rfl⟩
  obtain ⟨rb, hrb⟩ : ∃ rb, qb + 1 = rb := ⟨_, rfl⟩
  have hbx : X2.heap[qb]? = some (.cells #[.int .i64 Q, .slice pa sp.length pc] 29 (0, 0)) := by
    rw [hX2, (belo1 _ _).block _ (by rw [size_alloc10]; omega), ← hqb]; exact heap_alloc_new _ _
  have hrx : X2.heap[rb]? = some (.cells #[.int .i64 Q, .slice none 0 0] 29 (0, 0)) := by
    have h := heap_alloc_new (w1.alloc (.cells #[.int .i64 Q, .slice pa sp.length pc] 29)) (.cells #[.int .i64 Q, .slice none 0 0] 29)
    rw [size_alloc10, hqb, hrb] at h
    rw [hX2]; exact h
  have hsz : X2.heap.size = rb + 1 := by rw [hX2, size_alloc10, size_alloc10, hqb, hrb]
  have HX12 : Hid (Below w1.heap.size w1 X2) := by rw [hX2]; exact belot (belo1 _ _) (belo1 _ _)
  have HP0 : Hid (PatAt X2 X2 rb (rb + 1) Q (.slice none 0 0) []) := ⟨hrx, Grow.nil _ _ _ _, Below.refl _ _, by omega, by omega⟩
  have HQx := hide hbx
  have HW2 : Hid (Below W.heap.size W X2) := belot HBW1.out HX12.out
  have HLq : Hid (Lst elSlo X2 (fun b => b < qb) (.slice pa sp.length pc) sp) := (HGq.out.list (by have := HSp.out; omega)).move fun b hb _ => ⟨by rw [← hqb]; exact hb, HX12.out.block b hb⟩
  rw [hqb, hrb]
  clear hX2 hbx hrx hsz
  have hqr : qb < rb := by omega
  have hQs := hqb
  have HQs := hide hQs
  have HRq := hide hrb
  clear hqb hrb hQs
  obtain ⟨ρ, hρ⟩ : ∃ ρ : Int → Int, (fun n => bits BinOp.xor IntKind.i64 n x) = ρ := ⟨_, rfl⟩
  have HRi : Hid (∀ a b : Int, I64 a → I64 b → ρ a = ρ b → a = b) := fun a b ha hb h => by rw [← hρ] at h; exact xor_inj ha hb h
  have HRb : Hid (∀ a : Int, I64 (ρ a)) := fun a => by rw [← hρ]; exact bits_i64 _ _ _
  have hxor : ∀ n : Int, bits BinOp.xor IntKind.i64 n x = ρ n := fun n => by rw [← hρ]
  clear hρ
  go_loopw [7] (fun i wl => ∃ (k : Nat) (u : Value), k ≤ sp.length ∧ i = .int .i64 k ∧ Hid (PatAt X2 wl rb (rb + 1) Q u ((sp.take k).map (renS ρ)))) (fun i _ => sp.length - (intOf i).toNat)
  case atStart => exact ⟨0, _, by omega, rfl, HP0⟩
  case round =>
    obtain ⟨k, u, hk, rfl, HP⟩ := hrel
    have HQr : Hid (wr.heap[qb]? = some (.cells #[.int .i64 Q, .slice pa sp.length pc] 29 (0, 0))) := by show _ = _; rw [HP.out.low.block _ hqr]; exact HQx.out
    have d0 : wr.cell? ⟨qb, 0, none⟩ = some (.int .i64 Q) := by simp [World.cell?, HQr.out]
    have d1 : wr.cell? ⟨qb, 1, none⟩ = some (.slice pa sp.length pc) := by simp [World.cell?, HQr.out]
    have HLk : Hid (((sp.take k).map (renS ρ)).length = k) := by show _ = _; rw [List.length_map, List.length_take]; omega
    obtain ⟨ua, uc, hu, -, -⟩ := HP.out.row.shape
    rw [HLk.out] at hu
    subst hu
    have HLr : Hid (Lst elSlo wr (fun b => b < qb) (.slice pa sp.length pc) sp) := HLq.out.move fun b hb hF => ⟨hF, HP.out.low.block b (by omega)⟩
    have hspl : sp.length ≤ 1048576 := by have := HSp.out; omega
    by_cases hlt : k < sp.length
    · have hi : (k : Int) < (sp.length : Int) := by omega
      have hi0 : (0 : Int) ≤ (k : Int) := by omega
      obtain ⟨b, off, rfl, -, hbw, hrow⟩ := HLr.out.row (by omega)
      obtain ⟨s, hs⟩ : ∃ s, sp[k]? = some s := ⟨_, List.getElem?_eq_getElem hlt⟩
      have y0 := hrow k s hs 0 _ rfl
      have y1 := hrow k s hs 1 _ rfl
      simp only [elSlo, Nat.add_zero] at y0 y1
      have hsn : I64 s.n := HLr.out.ok (List.mem_of_getElem? hs)
      have HTk : Hid ((sp.take (k + 1)).map (renS ρ) = (sp.take k).map (renS ρ) ++ [renS ρ s]) := by show _ = _; rw [List.take_add_one, hs, List.map_append]; rfl
      clear hrow hs d0
      cases hv : s.v with
      | true =>
        rw [hv] at y0
        have hxs := hxor s.n
        have hMi : I64 (ρ s.n) := HRb.out s.n
        obtain ⟨M, hM⟩ : ∃ M, ρ s.n = M := ⟨_, rfl⟩
        have HMx := hide hM
        rw [hM] at hxs hMi
        clear hM hxor
        have HEq : Hid (renS ρ s = ⟨true, M⟩) := by show _ = _; rw [ren_var hv, HMx.out]
        have htn : I64 (M) := hMi
        have HB1 : Hid (Below wr.heap.size wr ((wr.alloc (.cells #[.bool true, .int .i64 (M)] 37)).alloc (.cells #[.bool true, .int .i64 (M)] 37))) := belot (belo1 wr _) (belo1 _ _)
        have HG2 := hide (HP.out.row.kept HB1.out)
        have HB2 : Hid (Below (rb + 1) wr ((wr.alloc (.cells #[.bool true, .int .i64 (M)] 37)).alloc (.cells #[.bool true, .int .i64 (M)] 37))) := HB1.out.mono HP.out.sz
        have HS2 : Hid (rb + 1 ≤ ((wr.alloc (.cells #[.bool true, .int .i64 (M)] 37)).alloc (.cells #[.bool true, .int .i64 (M)] 37)).heap.size) := by show _ ≤ _; have := HP.out.sz; simp only [size_alloc10]; omega
        have HNw : Hid (∀ (j : Nat) (u : Value), (elSlo.cells (⟨true, M⟩ : Slo))[j]? = some u → ((wr.alloc (.cells #[.bool true, .int .i64 (M)] 37)).alloc (.cells #[.bool true, .int .i64 (M)] 37)).cell? ⟨wr.heap.size + 1, j, none⟩ = some u) := fun j u hu => by
          have h1 := slot_new (V := wr.alloc (.cells #[.bool true, .int .i64 (M)] 37)) (s := ⟨true, M⟩) (t := 37) j u hu
          simp only [size_alloc10] at h1
          exact h1
        have p1 := HP.out.c1
        have p2 := kept_cell (belo1 wr (.cells #[.bool true, .int .i64 (M)] 37)) p1
        have hne : rb ≠ wr.heap.size := by have := HP.out.sz; omega
        go_wp2_with (at_builtin; refine wpList_push (w0 := wr) elSlo rfl _ _ 27 rfl (rb + 1) 37 i0 _ 16 Tryd.underlying27 hi0' hz0 hz1 hz2 rfl (by decide) _ ((sp.take k).map (renS ρ)) k HLk.out rfl HG2.out (⟨true, M⟩ : Slo) (wr.heap.size + 1) 1 rfl HNw.out htn (by omega) HB2.out HS2.out ?_; intro g cap' w1 HG1 HB1' HGr; obtain ⟨t0, t1, t2, hPn⟩ := HP.out.grown HG1.out HB1'.out; have HPn := hide hPn; clear HGr hPn t0)
        go_roundw
        case rel => exact ⟨k + 1, _, by omega, by go_num, by rw [HTk.out, HEq.out]; exact HPn⟩
        case measure => simp [intOf]; omega
      | false =>
        rw [hv] at y0
        have HEq : Hid (renS ρ s = ⟨false, s.n⟩) := by show _ = _; rw [ren_con hv]; exact slo_ext hv rfl
        have htn : I64 (s.n) := hsn
        have HB1 : Hid (Below wr.heap.size wr ((wr.alloc (.cells #[.bool false, .int .i64 (s.n)] 37)).alloc (.cells #[.bool false, .int .i64 (s.n)] 37))) := belot (belo1 wr _) (belo1 _ _)
        have HG2 := hide (HP.out.row.kept HB1.out)
        have HB2 : Hid (Below (rb + 1) wr ((wr.alloc (.cells #[.bool false, .int .i64 (s.n)] 37)).alloc (.cells #[.bool false, .int .i64 (s.n)] 37))) := HB1.out.mono HP.out.sz
        have HS2 : Hid (rb + 1 ≤ ((wr.alloc (.cells #[.bool false, .int .i64 (s.n)] 37)).alloc (.cells #[.bool false, .int .i64 (s.n)] 37)).heap.size) := by show _ ≤ _; have := HP.out.sz; simp only [size_alloc10]; omega
        have HNw : Hid (∀ (j : Nat) (u : Value), (elSlo.cells (⟨false, s.n⟩ : Slo))[j]? = some u → ((wr.alloc (.cells #[.bool false, .int .i64 (s.n)] 37)).alloc (.cells #[.bool false, .int .i64 (s.n)] 37)).cell? ⟨wr.heap.size + 1, j, none⟩ = some u) := fun j u hu => by
          have h1 := slot_new (V := wr.alloc (.cells #[.bool false, .int .i64 (s.n)] 37)) (s := ⟨false, s.n⟩) (t := 37) j u hu
          simp only [size_alloc10] at h1
          exact h1
        have p1 := HP.out.c1
        have p2 := kept_cell (belo1 wr (.cells #[.bool false, .int .i64 (s.n)] 37)) p1
        have hne : rb ≠ wr.heap.size := by have := HP.out.sz; omega
        go_wp2_with (at_builtin; refine wpList_push (w0 := wr) elSlo rfl _ _ 27 rfl (rb + 1) 37 i0 _ 16 Tryd.underlying27 hi0' hz0 hz1 hz2 rfl (by decide) _ ((sp.take k).map (renS ρ)) k HLk.out rfl HG2.out (⟨false, s.n⟩ : Slo) (wr.heap.size + 1) 1 rfl HNw.out htn (by omega) HB2.out HS2.out ?_; intro g cap' w1 HG1 HB1' HGr; obtain ⟨t0, t1, t2, hPn⟩ := HP.out.grown HG1.out HB1'.out; have HPn := hide hPn; clear HGr hPn t0)
        go_roundw
        case rel => exact ⟨k + 1, _, by omega, by go_num, by rw [HTk.out, HEq.out]; exact HPn⟩
        case measure => simp [intOf]; omega
    · obtain rfl : k = sp.length := by omega
      have hi : ¬ (sp.length : Int) < (sp.length : Int) := by omega
      rw [List.take_of_length_le (Nat.le_refl _)] at HP
      clear hxor
      obtain ⟨C, hC⟩ : ∃ C, shapeC sp = C := ⟨_, rfl⟩
      have HRs : Hid (shapeC (sp.map (renS ρ)) = C) := by
        show _ = _
        rw [← hC]
        exact shapeC_ren fun s hs t ht _ _ he => HRi.out _ _ (HLq.out.ok ht) (HLq.out.ok hs) he
      have HRo : Hid (ShapeOk Q (sp.map (renS ρ))) := ren_ok HOk.out
      have HSr : Hid ((sp.map (renS ρ)).length = sp.length) := List.length_map _
      obtain ⟨sr, hsr⟩ : ∃ sr, sp.map (renS ρ) = sr := ⟨_, rfl⟩
      rw [hsr] at HP HRs HRo HSr
      have HCd := hide hC
      clear hC hsr HLk HRi HRb
      have HRl := hide (HP.out.row.list (by have := HSr.out; omega))
      have c0 := HP.out.c0
      have c1 := HP.out.c1
      have HYw : Hid (Below w.heap.size w wr) := HWb.out.trans ((HW2.out.trans (HP.out.low.mono (by have := HBW1.out.size; have := HQs.out; omega))).mono HWb.out.size)
      have HSh1 := hide (shape_ok10 HLr.out.all HOk.out)
      have HSh2 := hide (fun V hV => shape_ok10 (w := V) (HRl.out.kept hV) HRo.out)
      rw [HCd.out] at HSh1
      rw [HRs.out] at HSh2
      go_upto_region 11 with (go_at_call 6; refine HSh1.out.mono ?_; rintro e w2 ⟨av, rfl, hl, hb⟩; have HA2 := hide hl; have HB2 := hide hb; obtain ⟨aa, ac, hav, -⟩ := hl.shape; subst hav; clear hl hb)
      obtain ⟨V1, hV1⟩ : ∃ V1, V1 = w2.alloc (.cells #[.int .i64 Q, .slice aa C.length ac] 25) := ⟨_, rfl⟩
      obtain ⟨hVb, e0, e1⟩ := box_new10 hV1
      obtain ⟨B1, hB1⟩ : ∃ B, w2.heap.size = B := ⟨_, rfl⟩
      have HY1 : Hid (Below wr.heap.size wr V1) := belot HB2.out hVb
      have HA3 := hide (HA2.out.kept hVb)
      rw [← hV1]
      rw [hB1] at e0 e1 ⊢
      have f0 := kept_cell HY1.out d0
      have f1 := kept_cell HY1.out d1
      have g0 := kept_cell HY1.out c0
      have g1 := kept_cell HY1.out c1
      clear hV1 hB1 hVb HSh1 HA2 HB2
      have HSh3 := hide (HSh2.out _ HY1.out)
      go_upto_region 12 with (go_at_call 6; refine HSh3.out.mono ?_; rintro e w3 ⟨bv, rfl, hl, hb⟩; have HB3 := hide hl; have HBb := hide hb; obtain ⟨ba, bc, hbv, -⟩ := hl.shape; subst hbv; clear hl hb)
      obtain ⟨V2, hV2⟩ : ∃ V2, V2 = w3.alloc (.cells #[.int .i64 Q, .slice ba C.length bc] 25) := ⟨_, rfl⟩
      obtain ⟨hVb, k0, k1⟩ := box_new10 hV2
      obtain ⟨B2, hB2⟩ : ∃ B, w3.heap.size = B := ⟨_, rfl⟩
      have HV12 : Hid (Below V1.heap.size V1 V2) := belot HBb.out hVb
      have HY2 : Hid (Below wr.heap.size wr V2) := belot HY1.out HV12.out
      have HA4 := hide (HA3.out.kept HV12.out)
      have HB4 := hide (HB3.out.kept hVb)
      rw [← hV2]
      rw [hB2] at k0 k1 ⊢
      have m0 := kept_cell HV12.out e0
      have m1 := kept_cell HV12.out e1
      have x0 := kept_cell HV12.out f0
      have x1 := kept_cell HV12.out f1
      have z0 := kept_cell HV12.out g0
      have z1 := kept_cell HV12.out g1
      clear hV2 hB2 hVb HSh2 HSh3 HB3 HBb HA3 e0 e1 f0 f1 g0 g1
      have HYl : Hid (Below V2.heap.size V2 (V2.alloc (.cells #[.int .i64 Q, .slice pa sp.length pc, .int .i64 Q, .slice ua sp.length uc, .int .i64 Q, .slice pa sp.length pc] 29))) := belo1 _ _
      have HLl := hide (has_new elPat V2 29 [⟨Q, .slice pa sp.length pc, sp⟩, ⟨Q, .slice ua sp.length uc, sr⟩, ⟨Q, .slice pa sp.length pc, sp⟩] #[.int .i64 Q, .slice pa sp.length pc, .int .i64 Q, .slice ua sp.length uc, .int .i64 Q, .slice pa sp.length pc] rfl (F := fun _ => True) trivial (fun p hp => by
        simp only [List.mem_cons, List.not_mem_nil, or_false] at hp
        have hA := (HLr.out.all.kept HY2.out).kept HYl.out
        have hB := (HRl.out.kept HY2.out).kept HYl.out
        rcases hp with rfl | rfl | rfl
        · exact ⟨hQi, hA⟩
        · exact ⟨hQi, hB⟩
        · exact ⟨hQi, hA⟩) (by simp))
      have HTv : Hid (TabLaid (V2.alloc (.cells #[.int .i64 Q, .slice pa sp.length pc, .int .i64 Q, .slice ua sp.length uc, .int .i64 Q, .slice pa sp.length pc] 29))) := HTl.out _ (HYw.out.trans ((belot HY2.out HYl.out).mono HYw.out.size))
      have HDi := hide (distinct_any HLl.out HTv.out)
      rw [dist_three HOk.out (by rw [HRs.out, HCd.out]) rfl, HCd.out] at HDi
      go_upto_region 13 with (go_at_call 11; refine HDi.out.mono ?_; rintro e w4 ⟨lv, rfl, ll, hl, hlr, hb⟩; obtain ⟨t, htl, htq, htc⟩ := map_one hlr; subst htl; have HL4 := hide hl; have HB5 := hide (belot HYl.out hb); obtain ⟨la, lc, hlv, -⟩ := hl.shape; subst hlv; clear hl hlr hb)
      clear HDi HTv HLl HYl
      have HL5 : Hid (Has elRoe w4 (.slice la 1 lc) [t]) := HL4.out
      obtain ⟨lb, lo, hla, -, -, lrow⟩ := HL5.out.row (by simp)
      subst hla
      have l0 := lrow 0 t rfl 0 _ rfl
      have l1 := lrow 0 t rfl 1 _ rfl
      simp only [elRoe, Nat.zero_mul, Nat.add_zero] at l0 l1
      have htk := (elRoe_ok (HL5.out.ok (show t ∈ [t] by simp))).2
      rw [htc] at htk
      obtain ⟨ta, tc, htv, -⟩ := htk.shape
      rw [htv] at htk l1
      rw [htq] at l0
      have HTk := hide htk
      clear lrow HL5 HL4 htk htv htq htc
      have m0' := over_cell (kept_cell HB5.out m0)
      have m1' := over_cell (kept_cell HB5.out m1)
      have k0' := over_cell (kept_cell HB5.out k0)
      have k1' := over_cell (kept_cell HB5.out k1)
      have l0' := over_cell l0
      have l1' := over_cell l1
      have HA5 := hide (HA4.out.kept HB5.out)
      have HB6 := hide (HB4.out.kept HB5.out)
      have HVy : Hid (vldB Q C = true) := by show _ = _; rw [← HCd.out]; exact vldB_yes (shape_vld HOk.out)
      have HX1 := hide (fun x => valid_any (q := Q) (HA5.out.kept (over_below w4 x)))
      rw [HVy.out] at HX1
      have HX2 := hide (fun x => lsame_any (q := Q) (p := Q) (HA5.out.kept (over_below w4 x)) (HB6.out.kept (over_below w4 x)))
      have HX3 := hide (fun x => lsame_any (q := Q) (p := Q) (HTk.out.kept (over_below w4 x)) (HA5.out.kept (over_below w4 x)))
      rw [show decide (Q = Q ∧ C = C) = true by simp] at HX2 HX3
      refine wp_region_over (fun W => w4 = W) (by kernel_rfl) (by kernel_rfl) rfl ?_
      rintro _ rfl
      repeat (go_big_quiet_step (first | (go_at_call 8; with_reducible exact calls_over (HX1.out _)) | (go_at_call 13; with_reducible exact calls_over (HX2.out _)) | (go_at_call 13; with_reducible exact calls_over (HX3.out _))))
      refine wpQuiet_nil ?_
      rintro _ ⟨z, rfl⟩
      have HV5 : Hid (Below wr.heap.size wr (over w4 z)) := belot HY2.out (belot HB5.out (over_below w4 z))
      generalize over w4 z = V5 at HV5 ⊢
      clear HX1 HX2 HX3 m0 m1 k0 k1 l0 l1 m0' m1' k0' k1' l0' l1' HA5 HB6 HTk HA4 HB4 HB5 HY2 HV12 HY1 x0 x1 z0 z1 d0 d1 c0 c1 HRl
      have HP5 := hide (HP.out.kept HV5.out)
      have p1 := HP5.out.c1
      have HG2 := hide (HP5.out.row.kept (belo1 V5 (.cells #[.bool false, .int .i64 7] 37)))
      have HBp : Hid (Below (rb + 1) V5 (V5.alloc (.cells #[.bool false, .int .i64 7] 37))) := (belo1 V5 _).mono HP5.out.sz
      have HSz2 : Hid (rb + 1 ≤ (V5.alloc (.cells #[.bool false, .int .i64 7] 37)).heap.size) := by show _ ≤ _; have := HP5.out.sz; simp only [size_alloc10]; omega
      have h7 : I64 7 := ⟨by decide, by decide⟩
      go_upto_region 16 with (at_builtin; refine wpList_push (w0 := V5) elSlo rfl _ _ 27 rfl (rb + 1) 37 i0 _ 16 Tryd.underlying27 hi0' hz0 hz1 hz2 rfl (by decide) _ sr sp.length HSr.out rfl HG2.out (⟨false, 7⟩ : Slo) V5.heap.size 1 rfl (fun j u hu => slot_new (V := V5) (s := ⟨false, 7⟩) j u hu) h7 (by omega) HBp.out HSz2.out ?_; intro g cap' w6 HG1 HB1' HGr; obtain ⟨t0, t1, t2, hPn⟩ := HP5.out.grown HG1.out HB1'.out; have HPn := hide hPn; clear HGr hPn t0)
      generalize w6.setCell ⟨rb, 1, none⟩ (.slice (some ⟨g, 0, none⟩) (sp.length + 1) cap') = Y2 at HPn ⊢
      clear HG1 HB1' t1 t2 HG2 HBp HSz2 HP5 p1 HV5 HP HLr
      have HQy : Hid (Y2.heap[qb]? = some (.cells #[.int .i64 Q, .slice pa sp.length pc] 29 (0, 0))) := by show _ = _; rw [HPn.out.low.block _ hqr]; exact HQx.out
      have HLy : Hid (Lst elSlo Y2 (fun b => b < qb) (.slice pa sp.length pc) sp) := HLq.out.move fun b hb hF => ⟨hF, HPn.out.low.block b (by omega)⟩
      have HGy : Hid (Grow elSlo 37 W.heap.size Y2 (.slice pa sp.length pc) sp) := HGq.out.above fun b _ hb => by
        have h := HQs.out
        rw [HPn.out.low.block b (by omega), HX12.out.block b hb]
      have HRy := hide (HPn.out.row.new (by rw [List.length_append, HSr.out]; simp; omega))
      have HRb2 := hide HPn.out.box
      have HY2w : Hid (Below w.heap.size w Y2) := HWb.out.trans ((HW2.out.trans (HPn.out.low.mono (by have := HBW1.out.size; have := HQs.out; omega))).mono HWb.out.size)
      have HWq : Hid (W.heap.size ≤ qb) := by show _ ≤ _; have h := HBW1.out.size; rw [HQs.out] at h; exact h
      have HY2z : Hid (rb + 1 ≤ Y2.heap.size) := HPn.out.sz
      have hS0 : ∀ V : World, Below Y2.heap.size Y2 V → V.cell? ⟨qb, 0, none⟩ = some (.int .i64 Q) ∧ V.cell? ⟨qb, 1, none⟩ = some (.slice pa sp.length pc) := fun V hV => by
        have h : V.heap[qb]? = some (.cells #[.int .i64 Q, .slice pa sp.length pc] 29 (0, 0)) := by rw [hV.block _ (lt_of_block HQy.out)]; exact HQy.out
        exact ⟨by simp [World.cell?, h], by simp [World.cell?, h]⟩
      have HSc := hide hS0
      clear hS0
      have HUn := hide (unused_any (w := Y2.drew) (q := Q) (HLy.out.all.kept (Below.refl _ Y2).drew))
      refine wp_region_last (by kernel_rfl) (fun V => V.cell? ⟨qb, 0, none⟩ = some (.int .i64 Q) ∧ V.cell? ⟨qb, 1, none⟩ = some (.slice pa sp.length pc)) 8 ?_
      have HS1 := HSc.out Y2.drew (Below.refl _ Y2).drew
      refine wpAnyM_take (i := 0) (v := ?_) rfl (by kernel_rfl) (by kernel_rfl) (by kernel_rfl) (by kernel_rfl) (fun _ _ _ h => h) HS1 (Or.inl ⟨by rfl, ?_⟩) ?_
      rotate_left
      · (intro w hSw; (try dsimp only at hSw); go_simp; try with_reducible rfl)
      simp only [Act.put, List.setIfInBounds_toArray, List.set_cons_zero, List.set_cons_succ]
      refine wpAnyM_take (i := 1) (v := ?_) rfl (by kernel_rfl) (by kernel_rfl) (by kernel_rfl) (by kernel_rfl) (fun _ _ _ h => h) HS1 (Or.inl ⟨by rfl, ?_⟩) ?_
      rotate_left
      · (intro w hSw; (try dsimp only at hSw); go_simp; try with_reducible rfl)
      simp only [Act.put, List.setIfInBounds_toArray, List.set_cons_zero, List.set_cons_succ]
      refine wpAnyM_take (i := 2) (v := ?_) rfl (by kernel_rfl) (by kernel_rfl) (by kernel_rfl) (by kernel_rfl) (fun _ _ _ h => h) HS1 (Or.inl ⟨by rfl, ?_⟩) ?_
      rotate_left
      · (intro w hSw; (try dsimp only at hSw); go_simp; try with_reducible rfl)
      simp only [Act.put, List.setIfInBounds_toArray, List.set_cons_zero, List.set_cons_succ]
      refine wpAnyM_one (i := 3) (by kernel_rfl) rfl (fun K hK => ?_)
      go_simp
      refine HUn.out.mono ?_
      rintro e w7 ⟨n, rfl, ⟨hnl, hnf⟩, h7b⟩
      have HB7 : Hid (Below Y2.heap.size Y2 w7) := ((Below.refl _ Y2).drew).trans h7b
      have HNf := hide hnf
      clear hnf h7b
      have HS2 := HSc.out w7 HB7.out
      refine hK.out _ _ HS2 (fun _ => ?_)
      clear hK K
      try simp only [Act.put, List.setIfInBounds_toArray, List.set_cons_zero, List.set_cons_succ]
      refine wpAnyM_one (i := 4) (by kernel_rfl) rfl (fun K hK => ?_)
      go_simp
      refine hK.out _ _ HS2 (fun _ => ?_)
      clear hK K
      have HB8 : Hid (Below Y2.heap.size Y2 (w7.alloc (.cells #[.bool true, .int .i64 (n : Int)] 37))) := belot HB7.out (belo1 w7 _)
      have HS3 := HSc.out _ HB8.out
      refine wpAnyM_one (i := 5) (by kernel_rfl) rfl (fun K hK => ?_)
      go_simp
      refine hK.out _ _ HS3 (fun _ => ?_)
      clear hK K
      have HG8 := hide (HGy.out.kept HB8.out)
      have HW8 : Hid (Below W.heap.size Y2 (w7.alloc (.cells #[.bool true, .int .i64 (n : Int)] 37))) := HB8.out.mono (by have := HWq.out; have := HY2z.out; omega)
      have HZ8 : Hid (W.heap.size ≤ (w7.alloc (.cells #[.bool true, .int .i64 (n : Int)] 37)).heap.size) := by show _ ≤ _; have := HWq.out; have := HY2z.out; have := HB8.out.size; omega
      have hni : I64 (n : Int) := ⟨by omega, by omega⟩
      refine wpAnyM_one (i := 6) (by kernel_rfl) rfl (fun K hK => ?_)
      refine step_push (w0 := Y2) elSlo (by rfl) _ _ 27 (by rfl) W.heap.size 37 i0 _ 16 Tryd.underlying27 hi0' hz0 hz1 hz2 rfl (by decide) (.slice pa sp.length pc) sp sp.length rfl (by rfl) HG8.out (⟨true, (n : Int)⟩ : Slo) w7.heap.size 1 (by rfl) (fun j u hu => slot_new (V := w7) (s := ⟨true, (n : Int)⟩) j u hu) hni (by omega) HW8.out HZ8.out ?_
      intro g9 cap9 w9 HG9 HB9 HGr9
      have HOq : Hid (∀ j, (Value.slice pa sp.length pc).ownBlock = some j → j < qb) := fun j hj => by have h := own_lt6 HGq.out.1 j hj; rw [HQs.out] at h; exact h
      have hq9 : w9.heap[qb]? = some (.cells #[.int .i64 Q, .slice pa sp.length pc] 29 (0, 0)) := by
        rw [HGr9.out.block qb (Nat.lt_of_lt_of_le (lt_of_block HQy.out) HB8.out.size) (fun e => by have := HOq.out qb e.symm; omega), HB8.out.block _ (lt_of_block HQy.out)]; exact HQy.out
      have HS9 : w9.cell? ⟨qb, 0, none⟩ = some (.int .i64 Q) ∧ w9.cell? ⟨qb, 1, none⟩ = some (.slice pa sp.length pc) := ⟨by simp [World.cell?, hq9], by simp [World.cell?, hq9]⟩
      have hf9 : w9.frozen? ⟨qb, 1, none⟩ = false := by simp [World.frozen?, hq9]
      have h91 := HS9.2
      refine hK.out _ _ HS9 (fun _ => ?_)
      clear hK K
      try simp only [Act.put, List.setIfInBounds_toArray, List.set_cons_zero, List.set_cons_succ]
      refine wpAnyM_one (i := 7) (by kernel_rfl) rfl (fun K hK => ?_)
      go_simp
      refine hK.out _ _ HS9 (fun _ => ?_)
      clear hK K
      refine wpAnyM_end (by kernel_rfl) rfl (by kernel_rfl) (fun K hK => ?_)
      go_simp
      refine hK.out _ _ ?_
      clear hK K
      have hap := grow_apart HG9.out hq9 (by decide)
      have HGz := hide (grow_set (i := 1) (u := .slice (some ⟨g9, 0, none⟩) (sp.length + 1) cap9) HG9.out hap)
      have HQz : Hid ((w9.setCell ⟨qb, 1, none⟩ (.slice (some ⟨g9, 0, none⟩) (sp.length + 1) cap9)).heap[qb]? = some (.cells #[.int .i64 Q, .slice (some ⟨g9, 0, none⟩) (sp.length + 1) cap9] 29 (0, 0))) := by show _ = _; simp [World.setCell, Array.getElem?_modify, hq9]
      have hsame : ∀ b, qb < b → b < Y2.heap.size → (w9.setCell ⟨qb, 1, none⟩ (.slice (some ⟨g9, 0, none⟩) (sp.length + 1) cap9)).heap[b]? = Y2.heap[b]? := fun b hb hlt => by
        rw [Below.heap_setCell _ _ _ _ (by show b ≠ qb; omega), HGr9.out.block b (Nat.lt_of_lt_of_le hlt HB8.out.size) (fun e => by have := HOq.out b e.symm; omega), HB8.out.block b hlt]
      have HRz : Hid ((w9.setCell ⟨qb, 1, none⟩ (.slice (some ⟨g9, 0, none⟩) (sp.length + 1) cap9)).heap[rb]? = some (.cells #[.int .i64 Q, .slice (some ⟨g, 0, none⟩) (sp.length + 1) cap'] 29 (0, 0))) := by show _ = _; rw [hsame rb hqr (lt_of_block HRb2.out)]; exact HRb2.out
      have HRlz : Hid (Has elSlo (w9.setCell ⟨qb, 1, none⟩ (.slice (some ⟨g9, 0, none⟩) (sp.length + 1) cap9)) (.slice (some ⟨g, 0, none⟩) (sp.length + 1) cap') (sr ++ [⟨false, 7⟩])) := HRy.out.move fun b hb hF => ⟨trivial, hsame b (by omega) hb⟩
      have HZw : Hid (Below w.heap.size w (w9.setCell ⟨qb, 1, none⟩ (.slice (some ⟨g9, 0, none⟩) (sp.length + 1) cap9))) := (HY2w.out.trans (HB9.out.mono HWb.out.size)).setCell (by have := HWb.out.size; have := HWq.out; dsimp only; omega) _
      generalize w9.setCell ⟨qb, 1, none⟩ (.slice (some ⟨g9, 0, none⟩) (sp.length + 1) cap9) = Z at HGz HQz HRz HRlz HZw ⊢
      clear hsame hap hq9 hf9 h91 HS9 HS3 HS2 HS1 HSc HG9 HB9 HGr9 HOq HG8 HW8 HZ8 HB8 HB7 HUn HQy HLy HGy HRy HRb2 HPn HY2w HY2z
      have HQlz := hide (HGz.out.list (by rw [List.length_append]; simp; omega))
      have HCl : Hid (C.length = sp.length) := by show _ = _; rw [← HCd.out]; exact shapeC_len sp
      have HC7 : Hid (shapeC (sr ++ [⟨false, 7⟩]) = C ++ [7]) := by show _ = _; rw [shapeC_seven, HRs.out]
      have HCn : Hid (shapeC (sp ++ [⟨true, (n : Int)⟩]) = C ++ [-1 - (C.length : Int)]) := by show _ = _; rw [shapeC_fresh HNf.out, HCd.out, HCl.out]
      have HO7 : Hid (ShapeOk Q (sr ++ [⟨false, 7⟩])) := app_ok HRo.out (fun _ => by decide)
      have HOn : Hid (ShapeOk Q (sp ++ [⟨true, (n : Int)⟩])) := app_ok HOk.out (fun h => by cases h)
      have hcw := cov_wide (q := Q) (C := C) (by rw [← HCn.out]; exact shape_vld HOn.out) (by rw [← HC7.out]; exact shape_vld HO7.out) (by rw [← HCd.out]; exact (fit_inst HOk.out).2 (shape_inst_self sp))
      have HW1 := hide hcw.1
      have HW2' := hide hcw.2
      have hne : ¬ C ++ [-1 - (C.length : Int)] = C ++ [7] := fun e => by
        have h := List.append_cancel_left e
        simp only [List.cons.injEq, and_true] at h
        omega
      have HNe := hide hne
      clear hcw hne
      obtain ⟨C7, hC7⟩ : ∃ D, C ++ [7] = D := ⟨_, rfl⟩
      obtain ⟨Cn, hCn⟩ : ∃ D, C ++ [-1 - (C.length : Int)] = D := ⟨_, rfl⟩
      rw [hC7] at HC7 HW1 HW2' HNe
      rw [hCn] at HCn HW1 HW2' HNe
      clear hC7 hCn
      obtain ⟨s7, hs7⟩ : ∃ l, sr ++ [(⟨false, 7⟩ : Slo)] = l := ⟨_, rfl⟩
      obtain ⟨sn, hsn⟩ : ∃ l, sp ++ [(⟨true, (n : Int)⟩ : Slo)] = l := ⟨_, rfl⟩
      rw [hs7] at HRlz HC7 HO7
      rw [hsn] at HQlz HCn HOn
      clear hs7 hsn HGz
      have q0 : Z.cell? ⟨qb, 0, none⟩ = some (.int .i64 Q) := by simp [World.cell?, HQz.out]
      have q1 : Z.cell? ⟨qb, 1, none⟩ = some (.slice (some ⟨g9, 0, none⟩) (sp.length + 1) cap9) := by simp [World.cell?, HQz.out]
      have r0 : Z.cell? ⟨rb, 0, none⟩ = some (.int .i64 Q) := by simp [World.cell?, HRz.out]
      have r1 : Z.cell? ⟨rb, 1, none⟩ = some (.slice (some ⟨g, 0, none⟩) (sp.length + 1) cap') := by simp [World.cell?, HRz.out]
      have HZl : Hid (Below Z.heap.size Z (Z.alloc (.cells #[.int .i64 Q, .slice (some ⟨g, 0, none⟩) (sp.length + 1) cap', .int .i64 Q, .slice (some ⟨g9, 0, none⟩) (sp.length + 1) cap9, .int .i64 (-1), .slice none 0 0, .int .i64 Q, .slice (some ⟨g, 0, none⟩) (sp.length + 1) cap'] 29))) := belo1 _ _
      have HLl := hide (has_new elPat Z 29 [⟨Q, .slice (some ⟨g, 0, none⟩) (sp.length + 1) cap', s7⟩, ⟨Q, .slice (some ⟨g9, 0, none⟩) (sp.length + 1) cap9, sn⟩, ⟨-1, .slice none 0 0, []⟩, ⟨Q, .slice (some ⟨g, 0, none⟩) (sp.length + 1) cap', s7⟩] #[.int .i64 Q, .slice (some ⟨g, 0, none⟩) (sp.length + 1) cap', .int .i64 Q, .slice (some ⟨g9, 0, none⟩) (sp.length + 1) cap9, .int .i64 (-1), .slice none 0 0, .int .i64 Q, .slice (some ⟨g, 0, none⟩) (sp.length + 1) cap'] rfl (F := fun _ => True) trivial (fun p hp => by
        simp only [List.mem_cons, List.not_mem_nil, or_false] at hp
        have hA := HRlz.out.kept HZl.out
        have hB := HQlz.out.kept HZl.out
        rcases hp with rfl | rfl | rfl | rfl
        · exact ⟨hQi, hA⟩
        · exact ⟨hQi, hB⟩
        · exact ⟨⟨by decide, by decide⟩, Lst.nil _ _ _⟩
        · exact ⟨hQi, hA⟩) (by simp))
      have HTv := hide (HTl.out _ (belot HZw.out HZl.out))
      have HDi := hide (distinct_any HLl.out HTv.out)
      rw [dist_four HO7.out HOn.out (by rw [HC7.out, HCn.out]; exact HNe.out) (fun h => by have := h.1; omega) rfl, HC7.out, HCn.out] at HDi
      have HSh1 := hide (fun V hV => shape_ok10 (w := V) (HRlz.out.kept hV) HO7.out)
      have HSh2 := hide (fun V hV => shape_ok10 (w := V) (HQlz.out.kept hV) HOn.out)
      rw [HC7.out] at HSh1
      rw [HCn.out] at HSh2
      go_upto_region 18 with (go_at_call 11; refine HDi.out.mono ?_; rintro e z1 ⟨lv, rfl, ll, hl, hlr, hb⟩; obtain ⟨s1, s2, htl, ⟨hsq1, hsl1⟩, hsq2, hsl2⟩ := map_two hlr; subst htl; have HL4 := hide hl; have HB5 := hide (belot HZl.out hb); obtain ⟨la2, lc2, hlv, -⟩ := hl.shape; subst hlv; clear hl hlr hb)
      have HL5 : Hid (Has elRoe z1 (.slice la2 2 lc2) [s1, s2]) := HL4.out
      obtain ⟨lb2, lo2, hla, -, -, lrow⟩ := HL5.out.row (by simp)
      subst hla
      have l0 := lrow 0 s1 rfl 0 _ rfl
      have l1 := lrow 0 s1 rfl 1 _ rfl
      have l2 := lrow 1 s2 rfl 0 _ rfl
      have l3 := lrow 1 s2 rfl 1 _ rfl
      simp only [elRoe, Nat.zero_mul, Nat.one_mul, Nat.add_zero] at l0 l1 l2 l3
      have hk1 := (elRoe_ok (HL5.out.ok (show s1 ∈ [s1, s2] by simp))).2
      have hk2 := (elRoe_ok (HL5.out.ok (show s2 ∈ [s1, s2] by simp))).2
      rw [hsl1] at hk1
      rw [hsl2] at hk2
      obtain ⟨ta1, tc1, htv1, -⟩ := hk1.shape
      obtain ⟨ta2, tc2, htv2, -⟩ := hk2.shape
      rw [htv1] at hk1 l1
      rw [htv2] at hk2 l3
      rw [hsq1] at l0
      rw [hsq2] at l2
      have HK1 := hide hk1
      have HK2 := hide hk2
      clear lrow HL5 HL4 hk1 hk2 htv1 htv2 hsq1 hsq2 hsl1 hsl2 HDi HTv HLl HZl
      have q0a := kept_cell HB5.out q0
      have q1a := kept_cell HB5.out q1
      have r0a := kept_cell HB5.out r0
      have r1a := kept_cell HB5.out r1
      clear q0 q1 r0 r1
      have HSa := hide (HSh1.out _ HB5.out)
      go_upto_region 19 with (go_at_call 6; refine HSa.out.mono ?_; rintro e z2 ⟨av, rfl, hl, hb⟩; have HA2 := hide hl; have HB2 := hide hb; obtain ⟨aa2, ac2, hav, -⟩ := hl.shape; subst hav; clear hl hb)
      obtain ⟨V1', hV1⟩ : ∃ V1, V1 = z2.alloc (.cells #[.int .i64 Q, .slice aa2 C7.length ac2] 25) := ⟨_, rfl⟩
      obtain ⟨hVb, e0, e1⟩ := box_new10 hV1
      obtain ⟨B3, hB3⟩ : ∃ B, z2.heap.size = B := ⟨_, rfl⟩
      have HZ1 : Hid (Below z1.heap.size z1 V1') := belot HB2.out hVb
      have HA3 := hide (HA2.out.kept hVb)
      rw [← hV1]
      rw [hB3] at e0 e1 ⊢
      have q0b := kept_cell HZ1.out q0a
      have q1b := kept_cell HZ1.out q1a
      clear hV1 hB3 hVb HSa HA2 HB2 q0a q1a r0a r1a HSh1
      have HSb := hide (HSh2.out _ (belot HB5.out HZ1.out))
      go_upto_region 20 with (go_at_call 6; refine HSb.out.mono ?_; rintro e z3 ⟨bv, rfl, hl, hb⟩; have HB3' := hide hl; have HBb := hide hb; obtain ⟨ba2, bc2, hbv, -⟩ := hl.shape; subst hbv; clear hl hb)
      obtain ⟨V2', hV2⟩ : ∃ V2, V2 = z3.alloc (.cells #[.int .i64 Q, .slice ba2 Cn.length bc2] 25) := ⟨_, rfl⟩
      obtain ⟨hVb, k0, k1⟩ := box_new10 hV2
      obtain ⟨B4, hB4⟩ : ∃ B, z3.heap.size = B := ⟨_, rfl⟩
      have HZ12 : Hid (Below V1'.heap.size V1' V2') := belot HBb.out hVb
      have HA4 := hide (HA3.out.kept HZ12.out)
      have HB4' := hide (HB3'.out.kept hVb)
      have HK1z := hide ((HK1.out.kept HZ1.out).kept HZ12.out)
      have HK2z := hide ((HK2.out.kept HZ1.out).kept HZ12.out)
      have HZe : Hid (Below w.heap.size w V2') := belot HZw.out (belot HB5.out (belot HZ1.out HZ12.out))
      rw [← hV2]
      rw [hB4] at k0 k1 ⊢
      have m0 := over_cell (kept_cell HZ12.out e0)
      have m1 := over_cell (kept_cell HZ12.out e1)
      have y0 := over_cell (kept_cell HZ12.out (kept_cell HZ1.out l0))
      have y1 := over_cell (kept_cell HZ12.out (kept_cell HZ1.out l1))
      have y2 := over_cell (kept_cell HZ12.out (kept_cell HZ1.out l2))
      have y3 := over_cell (kept_cell HZ12.out (kept_cell HZ1.out l3))
      have k0' := over_cell k0
      have k1' := over_cell k1
      clear hV2 hB4 hVb HSb HB3' HBb HA3 e0 e1 q0b q1b l0 l1 l2 l3 k0 k1 HSh2
      have HE1 := hide (fun x => lsame_any (q := Q) (p := Q) (HK1z.out.kept (over_below V2' x)) (HA4.out.kept (over_below V2' x)))
      have HE2 := hide (fun x => lsame_any (q := Q) (p := Q) (HK2z.out.kept (over_below V2' x)) (HB4'.out.kept (over_below V2' x)))
      have HE3 := hide (fun x => lsame_any (q := Q) (p := Q) (HA4.out.kept (over_below V2' x)) (HB4'.out.kept (over_below V2' x)))
      rw [show decide (Q = Q ∧ C7 = C7) = true by simp] at HE1
      rw [show decide (Q = Q ∧ Cn = Cn) = true by simp] at HE2
      rw [show decide (Q = Q ∧ C7 = Cn) = false from decide_eq_false (fun h => HNe.out h.2.symm)] at HE3
      have HE4 := hide (fun x => cov_any (p := Q) (q := Q) (HB4'.out.kept (over_below V2' x)) (HA4.out.kept (over_below V2' x)))
      have HE5 := hide (fun x => cov_any (p := Q) (q := Q) (HA4.out.kept (over_below V2' x)) (HB4'.out.kept (over_below V2' x)))
      rw [HW1.out] at HE4
      rw [HW2'.out] at HE5
      refine wp_region_over (fun W => V2' = W) (by kernel_rfl) (by kernel_rfl) rfl ?_
      rintro _ rfl
      repeat (go_big_quiet_step (first | (go_at_call 13; with_reducible exact calls_over (HE1.out _)) | (go_at_call 13; with_reducible exact calls_over (HE2.out _)) | (go_at_call 13; with_reducible exact calls_over (HE3.out _)) | (go_at_call 15; with_reducible exact calls_over (HE4.out _)) | (go_at_call 15; with_reducible exact calls_over (HE5.out _))))
      refine wpQuiet_nil ?_
      rintro _ ⟨z, rfl⟩
      have HVe : Hid (Below w.heap.size w (over V2' z)) := HZe.out.trans ((over_below V2' z).mono HZe.out.size)
      generalize over V2' z = Ve at HVe ⊢
      clear HE1 HE2 HE3 HE4 HE5 m0 m1 y0 y1 y2 y3 k0' k1'
      go_wp2
      go_ret
      exact ⟨rfl, HVe.out⟩
end Go.Proofs.YtgligipgjakecaaDoor
