/- The law of one edge more: its walk. -/
import Derived.Test.YtmbkjgfnnpopgaaMorePure
import Derived.Test.YtmbkjgfnnpopgaaLawOrder
namespace Go.Proofs.Ytmbkjgfnnpopgaa
set_option linter.unusedSimpArgs false
set_option linter.unusedVariables false
open Go.RowKit Go.Maps

/-- The law's firstCycle, where a negated edge lies inside a component. -/
theorem firstCycle_bad {w : World} {v : Value} {es : List Edg} {n : Nat} (h : Has elEdg w v es) (hfit : fitP n es = true) (hb : HasBad n es) :
    Calls Try.prog 26 #[.int .i64 (n : Int), v] w fun e w' => ∃ wv, e = .returned wv ∧ ∃ W, Has elInt w' wv W ∧ cyclicP n es W = true ∧ Below w.heap.size w w' := by
  obtain ⟨va, vc, rfl, -, -, hlen⟩ := h.shape
  have hk : n ≤ 128 := by have := (fit_in8 hfit).1; omega
  have HL := hide h
  have HFt := hide hfit
  have HBd := hide hb
  clear h hfit hb
  go_enter Try.func26, Try.ntmps26
  go_wp2_with (first
    | (go_at_call 15; refine (edges_any HL.out).mono ?_; rintro e V1 ⟨g1, rfl, hg1, b1⟩; obtain ⟨ga1, gc1, rfl, -, -⟩ := hg1.shape; have HG1 := hide (hg1.list hlen); have HB1 := hide b1; clear hg1 b1)
    | (go_at_call 30; refine (cycle_bad HG1.out HFt.out HBd.out).mono ?_; rintro e V2 ⟨H, wv, m, x, W, hH, rfl, hgw, ⟨hm1, hm2, hm3, hm4, hm5⟩, b3⟩; have HB2 := hide (HB1.out.trans (b3.mono HB1.out.size)); have HCy := hide (cycle_is HFt.out hm2 hm3 hm4); have hwl : ((m : Int) :: W).length < 1073741824 := (by simp; omega); have HRg := hide (hgw.list hwl); obtain ⟨ra, rc, rfl, -, -⟩ := hgw.shape; clear hH hgw hm1 hm2 hm3 hm4 hm5; clear b3))
  go_ret
  exact ⟨_, rfl, _, HRg.out, HCy.out, HB2.out⟩

set_option maxRecDepth 100000 in
set_option maxHeartbeats 4000000 in
theorem strataMore_walk (n : Int) (v : Value) (es : List Edg) (m : Edg) (w : World) (hn : I64 n) (h : Has elEdg w v es) (hes : es.length ≤ 1048576) (hm : elEdg.ok w (fun _ => True) m) :
    Calls Try.prog 6 #[.int .i64 n, v, .agg #[.int .i64 m.f, .int .i64 m.t, .bool m.neg, .int .i64 m.r]] w fun e w' => e = .returned (.bool true) ∧ Below w.heap.size w w' := by
  obtain ⟨i0, hi0, hz0, hz1, hz2⟩ := info_parts Try.infoEdg
  obtain ⟨va, vc, rfl, -, -, hlen⟩ := h.shape
  obtain ⟨Y, hY⟩ : ∃ Y, w.alloc (.cells #[.int .i64 m.f, .int .i64 m.t, .bool m.neg, .int .i64 m.r] 39) = Y := ⟨_, rfl⟩
  have hb0 : Below w.heap.size w Y := by rw [← hY]; exact belo1 w _
  have HB0 := hide hb0
  have HL := hide (h.kept hb0)
  have HX : Hid (∀ V : World, Below Y.heap.size Y V → V.cell? ⟨w.heap.size, 0, none⟩ = some (.int .i64 m.f) ∧ V.cell? ⟨w.heap.size, 1, none⟩ = some (.int .i64 m.t) ∧ V.cell? ⟨w.heap.size, 2, none⟩ = some (.bool m.neg) ∧ V.cell? ⟨w.heap.size, 3, none⟩ = some (.int .i64 m.r)) := fun V hV => by
    refine ⟨kept_cell hV ?_, kept_cell hV ?_, kept_cell hV ?_, kept_cell hV ?_⟩ <;> rw [← hY]
    · exact new_cells 0 _ rfl
    · exact new_cells 1 _ rfl
    · exact new_cells 2 _ rfl
    · exact new_cells 3 _ rfl
  have HM := hide hm
  have HEd : Hid (∀ V : World, Below Y.heap.size Y V → Calls Try.prog 15 #[.slice va es.length vc] V fun e w' => ∃ v', e = .returned v' ∧ Grow elEdg 39 V.heap.size w' v' es ∧ Below V.heap.size V w') := fun V hV => edges_any (HL.out.kept hV)
  have HbA : Hid (Below Y.heap.size Y Y.drew) := (Below.refl _ _).drew
  have HbA1 : Hid (Below Y.heap.size Y (Y.drewN 1)) := below_drewN _ Y 1
  have HbB : Hid (Below Y.heap.size Y (Y.drew.alloc (.cells #[.int .i64 m.f, .int .i64 m.t, .bool m.neg, .int .i64 m.r] 39))) := HbA.out.alloc (Nat.le_refl _) _
  have HnB : Hid (∀ (j : Nat) (u : Value), (elEdg.cells m)[j]? = some u → (Y.drew.alloc (.cells #[.int .i64 m.f, .int .i64 m.t, .bool m.neg, .int .i64 m.r] 39)).cell? ⟨Y.heap.size, j, none⟩ = some u) := fun j u hu => new_cells (w := Y.drew) j u hu
  have HbC : Hid (Below Y.heap.size Y (Y.alloc (.cells #[.int .i64 m.f, .int .i64 m.t, .bool m.neg, .int .i64 m.r] 39)).drew) := HbB
  have HbD : Hid (Below Y.heap.size Y ((Y.drewN 1).alloc (.cells #[.int .i64 m.f, .int .i64 m.t, .bool m.neg, .int .i64 m.r] 39))) := HbB
  have HbE : Hid (Below Y.heap.size Y ((Y.alloc (.cells #[.int .i64 m.f, .int .i64 m.t, .bool m.neg, .int .i64 m.r] 39)).drewN 1)) := HbB
  have HW := hide hY
  have h32 : (32 : Nat) ≤ 4096 := by decide
  have hle1 : es.length + 1 < 1073741824 := by omega
  clear h hb0 hm hY hn
  go_enter Try.func6, Try.ntmps6
  go_wp2_with (fail)
  rw [HW.out]
  go_cut [7] (fun v wx => ∃ g cap, v = .slice (some ⟨g, 0, none⟩) (es.length + 1) cap ∧ Hid (Grow elEdg 39 Y.heap.size wx (.slice (some ⟨g, 0, none⟩) (es.length + 1) cap) (es ++ [m])) ∧ Hid (Below Y.heap.size Y wx))
  case first =>
    go_region_held3 (fun w' => w'.cell? ⟨w.heap.size, 0, none⟩ = some (.int .i64 m.f) ∧ w'.cell? ⟨w.heap.size, 1, none⟩ = some (.int .i64 m.t) ∧ w'.cell? ⟨w.heap.size, 2, none⟩ = some (.bool m.neg) ∧ w'.cell? ⟨w.heap.size, 3, none⟩ = some (.int .i64 m.r))
      (first
        | with_reducible exact HX.out _ HbA.out
        | with_reducible exact HX.out _ HbA1.out
        | with_reducible exact HX.out _ HbB.out
        | with_reducible exact HX.out _ HbC.out
        | with_reducible exact HX.out _ HbD.out
        | with_reducible exact HX.out _ HbE.out
        | with_reducible exact HX.out _ HB1.out
        | with_reducible exact HX.out _ HBc.out
        | with_reducible exact HX.out _ HB3.out)
      (first
        | (go_at_call 15; (with_reducible refine (HEd.out _ HbA.out).mono ?_); rintro e V1 ⟨g1, rfl, hg1, b1⟩; obtain ⟨ga1, gc1, rfl, -, -⟩ := hg1.shape; have HB1 : Hid (Below Y.heap.size Y V1) := HbA.out.trans (b1.mono HbA.out.size); have HG1 : Hid (Grow elEdg 39 Y.heap.size V1 (.slice ga1 es.length gc1) es) := hg1.mono HbA.out.size; have HBc : Hid (Below Y.heap.size Y (V1.alloc (.cells #[.int .i64 m.f, .int .i64 m.t, .bool m.neg, .int .i64 m.r] 39))) := HB1.out.alloc HB1.out.size _; have HSz : Hid (Y.heap.size ≤ (V1.alloc (.cells #[.int .i64 m.f, .int .i64 m.t, .bool m.neg, .int .i64 m.r] 39)).heap.size) := HBc.out.size; have HGc := hide (HG1.out.kept (belo1 V1 (.cells #[.int .i64 m.f, .int .i64 m.t, .bool m.neg, .int .i64 m.r] 39))); clear hg1 b1)
        | (go_at_call 15; (with_reducible refine (HEd.out _ HbA1.out).mono ?_); rintro e V1 ⟨g1, rfl, hg1, b1⟩; obtain ⟨ga1, gc1, rfl, -, -⟩ := hg1.shape; have HB1 : Hid (Below Y.heap.size Y V1) := HbA1.out.trans (b1.mono HbA1.out.size); have HG1 : Hid (Grow elEdg 39 Y.heap.size V1 (.slice ga1 es.length gc1) es) := hg1.mono HbA1.out.size; have HBc : Hid (Below Y.heap.size Y (V1.alloc (.cells #[.int .i64 m.f, .int .i64 m.t, .bool m.neg, .int .i64 m.r] 39))) := HB1.out.alloc HB1.out.size _; have HSz : Hid (Y.heap.size ≤ (V1.alloc (.cells #[.int .i64 m.f, .int .i64 m.t, .bool m.neg, .int .i64 m.r] 39)).heap.size) := HBc.out.size; have HGc := hide (HG1.out.kept (belo1 V1 (.cells #[.int .i64 m.f, .int .i64 m.t, .bool m.neg, .int .i64 m.r] 39))); clear hg1 b1)
        | (go_at_call 15; (with_reducible refine (HEd.out _ HbB.out).mono ?_); rintro e V1 ⟨g1, rfl, hg1, b1⟩; obtain ⟨ga1, gc1, rfl, -, -⟩ := hg1.shape; have HB1 : Hid (Below Y.heap.size Y V1) := HbB.out.trans (b1.mono HbB.out.size); have HG1 : Hid (Grow elEdg 39 Y.heap.size V1 (.slice ga1 es.length gc1) es) := hg1.mono HbB.out.size; have HnV : Hid (∀ (j : Nat) (u : Value), (elEdg.cells m)[j]? = some u → V1.cell? ⟨Y.heap.size, j, none⟩ = some u) := fun j u hu => kept_cell b1 (HnB.out j u hu); clear hg1 b1)
        | (go_at_call 15; (with_reducible refine (HEd.out _ HbC.out).mono ?_); rintro e V1 ⟨g1, rfl, hg1, b1⟩; obtain ⟨ga1, gc1, rfl, -, -⟩ := hg1.shape; have HB1 : Hid (Below Y.heap.size Y V1) := HbC.out.trans (b1.mono HbC.out.size); have HG1 : Hid (Grow elEdg 39 Y.heap.size V1 (.slice ga1 es.length gc1) es) := hg1.mono HbC.out.size; have HnV : Hid (∀ (j : Nat) (u : Value), (elEdg.cells m)[j]? = some u → V1.cell? ⟨Y.heap.size, j, none⟩ = some u) := fun j u hu => kept_cell b1 (HnB.out j u hu); clear hg1 b1)
        | (go_at_call 15; (with_reducible refine (HEd.out _ HbD.out).mono ?_); rintro e V1 ⟨g1, rfl, hg1, b1⟩; obtain ⟨ga1, gc1, rfl, -, -⟩ := hg1.shape; have HB1 : Hid (Below Y.heap.size Y V1) := HbD.out.trans (b1.mono HbD.out.size); have HG1 : Hid (Grow elEdg 39 Y.heap.size V1 (.slice ga1 es.length gc1) es) := hg1.mono HbD.out.size; have HnV : Hid (∀ (j : Nat) (u : Value), (elEdg.cells m)[j]? = some u → V1.cell? ⟨Y.heap.size, j, none⟩ = some u) := fun j u hu => kept_cell b1 (HnB.out j u hu); clear hg1 b1)
        | (go_at_call 15; (with_reducible refine (HEd.out _ HbE.out).mono ?_); rintro e V1 ⟨g1, rfl, hg1, b1⟩; obtain ⟨ga1, gc1, rfl, -, -⟩ := hg1.shape; have HB1 : Hid (Below Y.heap.size Y V1) := HbE.out.trans (b1.mono HbE.out.size); have HG1 : Hid (Grow elEdg 39 Y.heap.size V1 (.slice ga1 es.length gc1) es) := hg1.mono HbE.out.size; have HnV : Hid (∀ (j : Nat) (u : Value), (elEdg.cells m)[j]? = some u → V1.cell? ⟨Y.heap.size, j, none⟩ = some u) := fun j u hu => kept_cell b1 (HnB.out j u hu); clear hg1 b1)
        | (refine step_push (w0 := Y) elEdg (by rfl) _ _ 23 (by rfl) Y.heap.size 39 i0 _ 32 Try.underlying23 hi0 hz0 hz1 hz2 rfl h32 _ es es.length rfl (by rfl) HGc.out m V1.heap.size 1 (by rfl) (fun j u hu => new_cells j u hu) HM.out hle1 HBc.out HSz.out ?_; intro g cap w3 HG3 HB3 HGr; clear HGr)
        | (refine step_push (w0 := Y) elEdg (by rfl) _ _ 23 (by rfl) Y.heap.size 39 i0 _ 32 Try.underlying23 hi0 hz0 hz1 hz2 rfl h32 _ es es.length rfl (by rfl) HG1.out m Y.heap.size 1 (by rfl) HnV.out HM.out hle1 HB1.out HB1.out.size ?_; intro g cap w3 HG3 HB3 HGr; clear HGr))
    all_goals (go_wp2; go_meet; exact ⟨_, _, rfl, HG3, HB3⟩)
  case rest =>
    obtain ⟨g, cap, rfl, HG, HBc⟩ := hcut
    clear HX HbA HbA1 HbB HbC HbD HbE HnB HEd HW
    have hlen2 : (es ++ [m]).length < 1073741824 := by rw [List.length_append]; simp; omega
    have HLl := hide (HG.out.list hlen2)
    have HL2 : Hid ((es ++ [m]).length = es.length + 1) := by show _ = _; rw [List.length_append]; rfl
    have HE1 : Hid (∀ V : World, Below wc.heap.size wc V → Calls Try.prog 15 #[.slice va es.length vc] V fun e w' => ∃ v', e = .returned v' ∧ Grow elEdg 39 V.heap.size w' v' es ∧ Below V.heap.size V w') := fun V hV => edges_any ((HL.out.kept HBc.out).kept hV)
    have HE2 : Hid (∀ V : World, Below wc.heap.size wc V → Calls Try.prog 15 #[.slice (some ⟨g, 0, none⟩) (es.length + 1) cap] V fun e w' => ∃ v', e = .returned v' ∧ Grow elEdg 39 V.heap.size w' v' (es ++ [m]) ∧ Below V.heap.size V w') := fun V hV => edges_any (HLl.out.kept hV)
    have HFt := hide (lfit_any HLl.out n)
    have HLs : Hid (∀ V : World, Below wc.heap.size wc V → Has elEdg V (.slice va es.length vc) es) := fun V hV => (HL.out.kept HBc.out).kept hV
    have HLm : Hid (∀ V : World, Below wc.heap.size wc V → Has elEdg V (.slice (some ⟨g, 0, none⟩) (es.length + 1) cap) (es ++ [m])) := fun V hV => HLl.out.kept hV
    clear HG HL HLl
    cases hf : fitP n (es ++ [m]) with
    | false =>
      rw [hf] at HFt
      go_wp2_with (first
        | (go_at_call 24; refine HFt.out.mono ?_; rintro e V ⟨rfl, b1⟩; have HBx := hide b1; clear b1 HFt))
      go_ret
      exact ⟨rfl, HB0.out.trans ((HBc.out.trans (HBx.out.mono HBc.out.size)).mono HB0.out.size)⟩
    | true =>
      rw [hf] at HFt
      obtain ⟨⟨hk0, hk1⟩, -⟩ := fit_in8 hf
      obtain ⟨k, rfl⟩ : ∃ k : Nat, n = k := ⟨n.toNat, by omega⟩
      have hk : k ≤ 128 := by omega
      have HfL := hide hf
      have HfE := hide (fit_less hf)
      clear hf hk0 hk1
      rcases Classical.em (HasBad k es) with hb | hb
      · have HbE := hide hb
        have HbL := hide (bad_more m hb)
        clear hb
        go_wp2_with (first
          | (go_at_call 24; refine HFt.out.mono ?_; rintro e V ⟨rfl, b1⟩; have HBx := hide b1; clear b1 HFt)
          | (go_at_call 15; (with_reducible refine (HE1.out _ HBx.out).mono ?_); rintro e V ⟨g1, rfl, hg1, b1⟩; obtain ⟨ga1, gc1, rfl, -, -⟩ := hg1.shape; have HGe := hide (hg1.list hlen); replace HBx := hide (HBx.out.trans (b1.mono HBx.out.size)); clear hg1 b1)
          | (go_at_call 15; (with_reducible refine (HE2.out _ HBx.out).mono ?_); rintro e V ⟨g1, rfl, hg1, b1⟩; obtain ⟨ga2, gc2, e2, -, -⟩ := hg1.shape; rw [HL2.out] at e2; subst e2; have HGl := hide (hg1.list hlen2); replace HBx := hide (HBx.out.trans (b1.mono HBx.out.size)); clear hg1 b1)
          | (go_at_call 22; (with_reducible refine (levels_bad HGe.out HfE.out HbE.out).mono ?_); rintro e V ⟨rfl, b3⟩; replace HBx := hide (HBx.out.trans (b3.mono HBx.out.size)); clear b3 HGe)
          | (go_at_call 22; (with_reducible refine (levels_bad HGl.out HfL.out HbL.out).mono ?_); rintro e V ⟨rfl, b3⟩; replace HBx := hide (HBx.out.trans (b3.mono HBx.out.size)); clear b3 HGl)
          | (go_at_call 26; (with_reducible refine (firstCycle_bad (HLs.out _ HBx.out) HfE.out HbE.out).mono ?_); rintro e V ⟨wv, rfl, W, hW, hc, b3⟩; obtain ⟨wa, wb, rfl, -, -, -⟩ := hW.shape; have HWl := hide hW; have HCy := hide hc; have HGk := hide (HGe.out.kept b3); replace HBx := hide (HBx.out.trans (b3.mono HBx.out.size)); clear hW hc b3)
          | (go_at_call 25; (with_reducible refine (cyclic_any HGk.out HWl.out (k : Int)).mono ?_); rw [HCy.out]; rintro e V ⟨rfl, b3⟩; replace HBx := hide (HBx.out.trans (b3.mono HBx.out.size)); clear b3))
        go_ret
        exact ⟨rfl, HB0.out.trans ((HBc.out.trans (HBx.out.mono HBc.out.size)).mono HB0.out.size)⟩
      · have HbE := hide hb
        clear hb
        rcases Classical.em (HasBad k (es ++ [m])) with hb | hb
        · have HbL := hide hb
          clear hb
          go_wp2_with (first
            | (go_at_call 24; refine HFt.out.mono ?_; rintro e V ⟨rfl, b1⟩; have HBx := hide b1; clear b1 HFt)
            | (go_at_call 15; (with_reducible refine (HE1.out _ HBx.out).mono ?_); rintro e V ⟨g1, rfl, hg1, b1⟩; obtain ⟨ga1, gc1, rfl, -, -⟩ := hg1.shape; have HGe := hide (hg1.list hlen); replace HBx := hide (HBx.out.trans (b1.mono HBx.out.size)); clear hg1 b1)
            | (go_at_call 15; (with_reducible refine (HE2.out _ HBx.out).mono ?_); rintro e V ⟨g1, rfl, hg1, b1⟩; obtain ⟨ga2, gc2, e2, -, -⟩ := hg1.shape; rw [HL2.out] at e2; subst e2; have HGl := hide (hg1.list hlen2); replace HBx := hide (HBx.out.trans (b1.mono HBx.out.size)); clear hg1 b1)
            | (go_at_call 22; (with_reducible refine (levels_good HGe.out HfE.out HbE.out).mono ?_); rintro e V1 ⟨r1, X, rfl, hr, hl, b3⟩; have HR1 := hide hr; have HX1 := hide hl; replace HBx := hide (HBx.out.trans (b3.mono HBx.out.size)); clear b3 hr hl HGe)
            | (go_at_call 22; (with_reducible refine (levels_bad HGl.out HfL.out HbL.out).mono ?_); rintro e V ⟨rfl, b3⟩; replace HBx := hide (HBx.out.trans (b3.mono HBx.out.size)); clear b3 HGl)
            | (go_at_call 26; (with_reducible refine (firstCycle_bad (HLm.out _ HBx.out) HfL.out HbL.out).mono ?_); rintro e V ⟨wv, rfl, W, hW, hc, b3⟩; obtain ⟨wa, wb, rfl, -, -, -⟩ := hW.shape; have HWl := hide hW; have HCy := hide hc; have HGk := hide (HGl.out.kept b3); replace HBx := hide (HBx.out.trans (b3.mono HBx.out.size)); clear hW hc b3)
            | (go_at_call 25; (with_reducible refine (cyclic_any HGk.out HWl.out (k : Int)).mono ?_); rw [HCy.out]; rintro e V ⟨rfl, b3⟩; replace HBx := hide (HBx.out.trans (b3.mono HBx.out.size)); clear b3))
          go_ret
          exact ⟨rfl, HB0.out.trans ((HBc.out.trans (HBx.out.mono HBc.out.size)).mono HB0.out.size)⟩
        · have HbL := hide hb
          clear hb
          go_wp2_with (first
            | (go_at_call 24; refine HFt.out.mono ?_; rintro e V ⟨rfl, b1⟩; have HBx := hide b1; clear b1 HFt)
            | (go_at_call 15; (with_reducible refine (HE1.out _ HBx.out).mono ?_); rintro e V ⟨g1, rfl, hg1, b1⟩; obtain ⟨ga1, gc1, rfl, -, -⟩ := hg1.shape; have HGe := hide (hg1.list hlen); replace HBx := hide (HBx.out.trans (b1.mono HBx.out.size)); (try replace HBz := hide (HBz.out.trans (b1.mono HBz.out.size))); clear hg1 b1)
            | (go_at_call 15; (with_reducible refine (HE2.out _ HBx.out).mono ?_); rintro e V ⟨g1, rfl, hg1, b1⟩; obtain ⟨ga2, gc2, e2, -, -⟩ := hg1.shape; rw [HL2.out] at e2; subst e2; have HGl := hide (hg1.list hlen2); replace HBv := hide (HBv.out.trans (b1.mono HBv.out.size)); replace HBx := hide (HBx.out.trans (b1.mono HBx.out.size)); clear hg1 b1)
            | (go_at_call 22; (with_reducible refine (levels_good HGe.out HfE.out HbE.out).mono ?_); rintro e V1 ⟨r1, X, rfl, hr, hl, b3⟩; have HR1 := hide hr; have HX1 := hide hl; have HBv := hide (Below.refl V1.heap.size V1); replace HBx := hide (HBx.out.trans (b3.mono HBx.out.size)); clear b3 hr hl HGe)
            | (go_at_call 22; (with_reducible refine (levels_good HGl.out HfL.out HbL.out).mono ?_); rintro e V2 ⟨r2, Z, rfl, hr, hl, b3⟩; have HR2 := hide hr; have HX2 := hide hl; have HRa := hide (HR1.out.of_block ((HBv.out.trans (b3.mono HBv.out.size)).block _ HR1.out.lt)); have HBz := hide (Below.refl V2.heap.size V2); have HIv : Hid (∀ V : World, Below V2.heap.size V2 V → Has elInt V (.slice (some ⟨r2, 0, none⟩) k k) ((List.range k).map Z)) := (fun V hV => (row_has hr (fun i hi => ⟨by have := hl.1.nn i hi; omega, by have := hl.2 i hi; omega⟩) hk).kept hV); have HHo := hide (holds_yes HfE.out (sol_less hl.1.toSol)); replace HBx := hide (HBx.out.trans (b3.mono HBx.out.size)); clear b3 hr hl HGl HR1 HBv)
            | (go_at_call 28; (with_reducible refine (ints_any (HIv.out _ HBz.out)).mono ?_); rintro e V ⟨g2, rfl, hg2, b2⟩; obtain ⟨gi, gj, e3, -, -⟩ := hg2.shape; simp only [List.length_map, List.length_range] at e3; subst e3; have HGi := hide (hg2.list (by simp; omega)); have HGk := hide (HGe.out.kept b2); replace HBz := hide (HBz.out.trans (b2.mono HBz.out.size)); replace HBx := hide (HBx.out.trans (b2.mono HBx.out.size)); clear hg2 b2)
            | (go_at_call 27; (with_reducible refine (holds_any HGk.out HGi.out (k : Int)).mono ?_); rw [HHo.out]; rintro e V ⟨rfl, b3⟩; replace HBz := hide (HBz.out.trans (b3.mono HBz.out.size)); replace HBx := hide (HBx.out.trans (b3.mono HBx.out.size)); clear b3))
          have HLe : Hid (∀ i, i < k → X i ≤ Z i) := fun i hi => HX1.out.1.least Z (sol_less HX2.out.1.toSol) i hi
          have HBw : Hid (Below wc.heap.size wc V2 → Below w.heap.size w V2) := fun h => HB0.out.trans ((HBc.out.trans (h.mono HBc.out.size)).mono HB0.out.size)
          have HBy : Hid (Below w.heap.size w V) := HB0.out.trans ((HBc.out.trans (HBx.out.mono HBc.out.size)).mono HB0.out.size)
          clear HGe HGi HGk HE1 HE2 HLs HLm HIv HHo HX1 HX2 HBx
          go_loopw [12] (fun y wl => ∃ i : Nat, i ≤ k ∧ y = .int .i64 (i : Int) ∧ Hid (Below V2.heap.size V2 wl) ∧ Hid (Below w.heap.size w wl)) (fun y _ => k - (intOf y).toNat)
          case atStart => exact ⟨0, by omega, rfl, HBz, HBy⟩
          case round =>
            clear HBz HBy
            obtain ⟨i, hi, rfl, HBz, HBy⟩ := hrel
            by_cases hlt : i < k
            · have hi1 : (i : Int) < (k : Int) := by omega
              have hi0' : (0 : Int) ≤ (i : Int) := by omega
              have y1 := (HRa.out.of_block (HBz.out.block _ HRa.out.lt)).cell hlt
              have y2 := (HR2.out.of_block (HBz.out.block _ HR2.out.lt)).cell hlt
              have hle := HLe.out i hlt
              obtain ⟨x1, hx1⟩ : ∃ x, X i = x := ⟨_, rfl⟩
              obtain ⟨x2, hx2⟩ : ∃ x, Z i = x := ⟨_, rfl⟩
              rw [hx1] at y1 hle
              rw [hx2] at y2 hle
              clear hx1 hx2
              have hle2 : ¬ x2 < x1 := by omega
              clear hle
              go_wp2
              go_region_held3 (fun w' => w'.cell? ⟨r1, i, none⟩ = some (.int .i64 x1) ∧ w'.cell? ⟨r2, i, none⟩ = some (.int .i64 x2)) (exact ⟨y1, y2⟩) (fail)
              go_wp2
              go_roundw
              case rel => exact ⟨i + 1, by omega, by go_num, HBz.out.drew, HBy.out.drew⟩
              case measure => simp [intOf]; omega
            · obtain rfl : i = k := by omega
              have hi1 : ¬ (i : Int) < (i : Int) := by omega
              go_wp2
              go_ret
              exact ⟨rfl, HBy.out⟩
end Go.Proofs.Ytmbkjgfnnpopgaa
