/- The law that either levels hold or a walk is cyclic: its walk where none does. (By mk_either.py.) -/
import Derived.Test.YtkbicgkocmibfaaCyclePure
import Derived.Test.YtkbicgkocmibfaaLawOrder
namespace Go.Proofs.Ytkbicgkocmibfaa
set_option linter.unusedSimpArgs false
set_option linter.unusedVariables false
open Go.RowKit Go.Maps

theorem cyc_nilB (n : Int) (es : List Edg) : cyclicP n es [] = false := by unfold cyclicP; simp

theorem cyc_no_solB {n : Nat} {es : List Edg} {X : Nat → Int} (hX : Sol n (lnkT es) (lnkN es) X) (L : List Int) : cyclicP n es L = false := by
  cases h : cyclicP n es L with
  | false => rfl
  | true => exact (cyclic_nosol h hX).elim

set_option maxRecDepth 100000 in
set_option maxHeartbeats 4000000 in
theorem strataEither_B (k : Nat) (v : Value) (es : List Edg) (u : Value) (ls : List Int) (q : Value) (ws : List Int) (w : World) (h : Has elEdg w v es) (hu : Has elInt w u ls) (hq : Has elInt w q ws) (hf : fitP k es = true) (hb : ¬ HasBad k es) :
    Calls Try.prog 7 #[.agg #[.int .i64 (k : Int), v, u, q]] w fun e w' => e = .returned (.bool true) ∧ Below w.heap.size w w' := by
  obtain ⟨va, vc, rfl, -, -, hlen⟩ := h.shape
  obtain ⟨ua, uc, rfl, -, -, hlen2⟩ := hu.shape
  obtain ⟨qa, qc, rfl, -, -, hlen3⟩ := hq.shape
  obtain ⟨Y, hY⟩ : ∃ Y, Y = w.alloc (.cells #[.int .i64 (k : Int), .slice va es.length vc, .slice ua ls.length uc, .slice qa ws.length qc] 43) := ⟨_, rfl⟩
  have hb0 : Below w.heap.size w Y := by rw [hY]; exact belo1 w _
  have HL := hide (h.kept hb0)
  have HU := hide (hu.kept hb0)
  have HQ := hide (hq.kept hb0)
  have x0 : Y.cell? ⟨w.heap.size, 0, none⟩ = some (.int .i64 (k : Int)) := by rw [hY]; simp
  have x1 : Y.cell? ⟨w.heap.size, 1, none⟩ = some (.slice va es.length vc) := by rw [hY]; simp
  have x2 : Y.cell? ⟨w.heap.size, 2, none⟩ = some (.slice ua ls.length uc) := by rw [hY]; simp
  have x3 : Y.cell? ⟨w.heap.size, 3, none⟩ = some (.slice qa ws.length qc) := by rw [hY]; simp
  have HB0 := hide hb0
  have HX : Hid (∀ V : World, Below Y.heap.size Y V → V.cell? ⟨w.heap.size, 0, none⟩ = some (.int .i64 (k : Int)) ∧ V.cell? ⟨w.heap.size, 1, none⟩ = some (.slice va es.length vc) ∧ V.cell? ⟨w.heap.size, 2, none⟩ = some (.slice ua ls.length uc) ∧ V.cell? ⟨w.heap.size, 3, none⟩ = some (.slice qa ws.length qc)) := fun V hV => ⟨kept_cell hV x0, kept_cell hV x1, kept_cell hV x2, kept_cell hV x3⟩
  have HF := hide (lfit_any HL.out (k : Int))
  clear h hu hq hb0
  rw [hf] at HF
  obtain ⟨⟨hk0, hk1⟩, hin⟩ := fit_in8 hf
  have HFt := hide hf
  clear hin hf hk0
  have hk : k ≤ 128 := by omega
  clear hk1
  have HEd : Hid (∀ V : World, Below Y.heap.size Y V → Calls Try.prog 11 #[.slice va es.length vc] V fun e w' => ∃ v', e = .returned v' ∧ Grow elEdg 31 V.heap.size w' v' es ∧ Below V.heap.size V w') := fun V hV => edges_any (HL.out.kept hV)
  have HBd := hide hb
  clear hb
  go_enter Try.func7, Try.ntmps7
  go_upto_region 1 with fail
  rw [← hY]
  clear hY
  go_wp2_with (go_at_call 9; refine HF.out.mono ?_; rintro e w1 ⟨rfl, b1⟩; have HBw := hide b1; clear b1 HF)
  go_region_held3 (fun w' => w'.cell? ⟨w.heap.size, 0, none⟩ = some (.int .i64 (k : Int)) ∧ w'.cell? ⟨w.heap.size, 1, none⟩ = some (.slice va es.length vc) ∧ w'.cell? ⟨w.heap.size, 2, none⟩ = some (.slice ua ls.length uc) ∧ w'.cell? ⟨w.heap.size, 3, none⟩ = some (.slice qa ws.length qc))
    (first | with_reducible exact HX.out _ HBw.out | with_reducible exact HX.out _ HBw.out.drew | with_reducible exact HX.out _ HBa1.out | with_reducible exact HX.out _ HBb1.out | with_reducible exact HX.out _ HBc1.out)
    (first
      | (go_at_call 11; refine (HEd.out _ HBw.out.drew).mono ?_; rintro e Va1 ⟨g1, rfl, hg1, b1⟩; obtain ⟨ga1, gc1, rfl, -, -⟩ := hg1.shape; have HGa1 := hide (hg1.list hlen); have HBa1 := hide (HBw.out.drew.trans (b1.mono HBw.out.size)); clear hg1 b1)
      | (go_at_call 13; refine (levels_good HGa1.out HFt.out HBd.out).mono ?_; rintro e Vc1 ⟨gx, X, rfl, hr1, hx1, b3⟩; have HBc1 := hide (HBa1.out.trans (b3.mono HBa1.out.size)); have HSo := hide hx1.1.toSol; have HOw := hide (row_has hr1 (fun i hi => ⟨by have := hx1.1.nn i hi; omega, by have := hx1.2 i hi; omega⟩) hk); clear hr1 hx1; clear b3))
  go_wp2
  go_region_held3 (fun w' => w'.cell? ⟨w.heap.size, 0, none⟩ = some (.int .i64 (k : Int)) ∧ w'.cell? ⟨w.heap.size, 1, none⟩ = some (.slice va es.length vc) ∧ w'.cell? ⟨w.heap.size, 2, none⟩ = some (.slice ua ls.length uc) ∧ w'.cell? ⟨w.heap.size, 3, none⟩ = some (.slice qa ws.length qc))
    (first | with_reducible exact HX.out _ HBc1.out | with_reducible exact HX.out _ HBc1.out.drew | with_reducible exact HX.out _ HBa2.out | with_reducible exact HX.out _ HBb2.out | with_reducible exact HX.out _ HBc2.out)
    (first
      | (go_at_call 11; refine (HEd.out _ HBc1.out.drew).mono ?_; rintro e Va2 ⟨g1, rfl, hg1, b1⟩; obtain ⟨ga2, gc2, rfl, -, -⟩ := hg1.shape; have HGa2 := hide (hg1.list hlen); have HBa2 := hide (HBc1.out.drew.trans (b1.mono HBc1.out.size)); have HOa := hide (HOw.out.kept (((Below.refl _ Vc1).drew).trans b1)); clear hg1 b1)
      | (go_at_call 21; refine (cycle_good HGa2.out HFt.out HBd.out).mono ?_; rintro e Vc2 ⟨rfl, b3⟩; have HBc2 := hide (HBa2.out.trans (b3.mono HBa2.out.size)); have HOc := hide (HOa.out.kept b3); clear b3))
  go_wp2
  go_region_held3 (fun w' => w'.cell? ⟨w.heap.size, 0, none⟩ = some (.int .i64 (k : Int)) ∧ w'.cell? ⟨w.heap.size, 1, none⟩ = some (.slice va es.length vc) ∧ w'.cell? ⟨w.heap.size, 2, none⟩ = some (.slice ua ls.length uc) ∧ w'.cell? ⟨w.heap.size, 3, none⟩ = some (.slice qa ws.length qc))
    (first | with_reducible exact HX.out _ HBc2.out | with_reducible exact HX.out _ HBc2.out.drew | with_reducible exact HX.out _ HBa3.out | with_reducible exact HX.out _ HBb3.out | with_reducible exact HX.out _ HBc3.out)
    (first
      | (go_at_call 11; refine (HEd.out _ HBc2.out.drew).mono ?_; rintro e Va3 ⟨g1, rfl, hg1, b1⟩; obtain ⟨ga3, gc3, rfl, -, -⟩ := hg1.shape; have HGa3 := hide (hg1.list hlen); have HBa3 := hide (HBc2.out.drew.trans (b1.mono HBc2.out.size)); have HOd := hide (HOc.out.kept (((Below.refl _ Vc2).drew).trans b1)); clear hg1 b1)
      | (go_at_call 23; refine (ints_any (HOd.out)).mono ?_; rintro e Vb3 ⟨g2, rfl, hg2, b2⟩; obtain ⟨gi3, gj3, hgs, -, -⟩ := hg2.shape; rw [List.length_map, List.length_range] at hgs; subst hgs; have HGi3 := hide (hg2.list (by simp; omega)); have HGb3 := hide (HGa3.out.kept b2); have HBb3 := hide (HBa3.out.trans (b2.mono HBa3.out.size)); clear hg2 b2)
      | (go_at_call 22; refine (holds_any HGb3.out HGi3.out (k : Int)).mono ?_; rintro e Vc3 ⟨rfl, b3⟩; rw [holds_yes HFt.out HSo.out]; have HBc3 := hide (HBb3.out.trans (b3.mono HBb3.out.size)); clear b3))
  go_wp2
  go_region_held3 (fun w' => w'.cell? ⟨w.heap.size, 0, none⟩ = some (.int .i64 (k : Int)) ∧ w'.cell? ⟨w.heap.size, 1, none⟩ = some (.slice va es.length vc) ∧ w'.cell? ⟨w.heap.size, 2, none⟩ = some (.slice ua ls.length uc) ∧ w'.cell? ⟨w.heap.size, 3, none⟩ = some (.slice qa ws.length qc))
    (first | with_reducible exact HX.out _ HBc3.out | with_reducible exact HX.out _ HBc3.out.drew | with_reducible exact HX.out _ HBa4.out | with_reducible exact HX.out _ HBb4.out | with_reducible exact HX.out _ HBc4.out)
    (first
      | (go_at_call 11; refine (HEd.out _ HBc3.out.drew).mono ?_; rintro e Va4 ⟨g1, rfl, hg1, b1⟩; obtain ⟨ga4, gc4, rfl, -, -⟩ := hg1.shape; have HGa4 := hide (hg1.list hlen); have HBa4 := hide (HBc3.out.drew.trans (b1.mono HBc3.out.size)); clear hg1 b1)
      | (go_at_call 23; refine (ints_any (Lst.nil elInt _ _)).mono ?_; rintro e Vb4 ⟨g2, rfl, hg2, b2⟩; obtain ⟨gi4, gj4, rfl, -, -⟩ := hg2.shape; have HGi4 := hide (hg2.list (by simp)); have HGb4 := hide (HGa4.out.kept b2); have HBb4 := hide (HBa4.out.trans (b2.mono HBa4.out.size)); clear hg2 b2)
      | (go_at_call 24; refine (cyclic_any HGb4.out HGi4.out (k : Int)).mono ?_; rintro e Vc4 ⟨rfl, b3⟩; rw [cyc_nilB]; have HBc4 := hide (HBb4.out.trans (b3.mono HBb4.out.size)); clear b3))
  go_wp2
  go_region_held3 (fun w' => w'.cell? ⟨w.heap.size, 0, none⟩ = some (.int .i64 (k : Int)) ∧ w'.cell? ⟨w.heap.size, 1, none⟩ = some (.slice va es.length vc) ∧ w'.cell? ⟨w.heap.size, 2, none⟩ = some (.slice ua ls.length uc) ∧ w'.cell? ⟨w.heap.size, 3, none⟩ = some (.slice qa ws.length qc))
    (first | with_reducible exact HX.out _ HBc4.out | with_reducible exact HX.out _ HBc4.out.drew | with_reducible exact HX.out _ HBa5.out | with_reducible exact HX.out _ HBb5.out | with_reducible exact HX.out _ HBc5.out)
    (first
      | (go_at_call 11; refine (HEd.out _ HBc4.out.drew).mono ?_; rintro e Va5 ⟨g1, rfl, hg1, b1⟩; obtain ⟨ga5, gc5, rfl, -, -⟩ := hg1.shape; have HGa5 := hide (hg1.list hlen); have HBa5 := hide (HBc4.out.drew.trans (b1.mono HBc4.out.size)); clear hg1 b1)
      | (go_at_call 23; refine (ints_any (HQ.out.kept HBa5.out)).mono ?_; rintro e Vb5 ⟨g2, rfl, hg2, b2⟩; obtain ⟨gi5, gj5, rfl, -, -⟩ := hg2.shape; have HGi5 := hide (hg2.list hlen3); have HGb5 := hide (HGa5.out.kept b2); have HBb5 := hide (HBa5.out.trans (b2.mono HBa5.out.size)); clear hg2 b2)
      | (go_at_call 24; refine (cyclic_any HGb5.out HGi5.out (k : Int)).mono ?_; rintro e Vc5 ⟨rfl, b3⟩; rw [cyc_no_solB HSo.out ws]; have HBc5 := hide (HBb5.out.trans (b3.mono HBb5.out.size)); clear b3))
  go_wp2
  go_ret
  exact ⟨rfl, HB0.out.trans (HBc5.out.mono HB0.out.size)⟩
end Go.Proofs.Ytkbicgkocmibfaa
