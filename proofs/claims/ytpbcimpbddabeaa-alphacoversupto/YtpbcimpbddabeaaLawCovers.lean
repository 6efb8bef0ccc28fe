/- edictlaw10.AlphaCovers: Covers of every two shapes of a list is the document's, and nothing that was handed in has changed. -/
import Derived.Test.YtpbcimpbddabeaaAlphaCov
import Derived.Test.YtpbcimpbddabeaaLawFits
namespace Go.Proofs.Ytpbcimpbddabeaa
set_option linter.unusedSimpArgs false
set_option linter.unusedVariables false
open Go.RowKit

set_option maxRecDepth 100000 in
set_option maxHeartbeats 4000000 in
theorem alphaCovers_walk (v1 : Value) (l1 : List Roe) (w : World) (h1 : Has elRoe w v1 l1) (hb1 : l1.length ≤ 1048576) :
    Calls Try.prog 5 #[v1] w fun e w' => e = .returned (.bool true) ∧ Below w.heap.size w w' := by
  have HSO := hide (shapesOf_any h1)
  obtain ⟨va, vc, rfl, -, -, -⟩ := h1.shape
  have H1 := hide h1
  clear h1
  go_enter Try.func5, Try.ntmps5
  go_wp2_with (go_at_call 13; refine HSO.out.mono ?_; rintro e W0 ⟨ov, rfl, ol, hg, hrk, hb⟩; have HG := hide hg; have HRk := hide hrk; have HB0 := hide hb; obtain ⟨oa, oc, hov, -, -⟩ := hg.shape; subst hov; clear hg hrk hb)
  have HLo : Hid (ol.length = l1.length) := by show _ = _; have := congrArg List.length HRk.out; simpa using this
  rw [HLo.out] at HG ⊢
  have HOw := hide (HG.out.list (by rw [HLo.out]; omega))
  have HA := hide (H1.out.kept HB0.out)
  clear HG H1 HSO
  go_loopw [4, 5] (fun i _ wl => ∃ k : Nat, k ≤ l1.length ∧ i = .int .i64 k ∧ Hid (Below W0.heap.size W0 wl)) (fun i _ _ => l1.length - (intOf i).toNat)
  case atStart => exact ⟨0, by omega, rfl, Below.refl _ _⟩
  case round =>
    obtain ⟨k, hk, rfl, HB⟩ := hrel
    by_cases hlt : k < l1.length
    · have hi : (k : Int) < (l1.length : Int) := by omega
      have hi0 : (0 : Int) ≤ (k : Int) := by omega
      obtain ⟨s, hs⟩ : ∃ s, l1[k]? = some s := ⟨_, List.getElem?_eq_getElem hlt⟩
      obtain ⟨t, ht, htq, htl⟩ := map_rk_at HRk.out hs
      obtain ⟨b, bo, rfl, -, -, hrow⟩ := HA.out.row (by omega)
      obtain ⟨c, co, rfl, -, -, krow⟩ := HOw.out.row (by have := HLo.out; omega)
      have y0 := hrow k s hs 0 _ rfl
      have y1 := hrow k s hs 1 _ rfl
      have z0 := krow k t ht 0 _ rfl
      have z1 := krow k t ht 1 _ rfl
      simp only [elRoe, Nat.add_zero] at y0 y1 z0 z1
      have hS := (elRoe_ok (HA.out.ok (List.mem_of_getElem? hs))).2
      have hT := (elRoe_ok (HOw.out.ok (List.mem_of_getElem? ht))).2
      obtain ⟨q, sv, sl⟩ := s
      obtain ⟨q', tv, tl⟩ := t
      dsimp only at y0 y1 z0 z1 hS hT htq htl
      subst htq htl
      obtain ⟨sa, sc, rfl, -⟩ := hS.shape
      obtain ⟨ta, tc, rfl, -⟩ := hT.shape
      have HS := hide hS
      have HT := hide hT
      have HHr := hide hrow
      have HKr := hide krow
      have HCs : Hid (∀ V : World, Below W0.heap.size W0 V → V.cell? ⟨b, bo + k * 2, none⟩ = some (.int .i64 q') ∧ V.cell? ⟨b, bo + k * 2 + 1, none⟩ = some (.slice sa tl.length sc) ∧ V.cell? ⟨c, co + k * 2, none⟩ = some (.int .i64 q') ∧ V.cell? ⟨c, co + k * 2 + 1, none⟩ = some (.slice ta tl.length tc)) := fun V hV => ⟨kept_cell hV y0, kept_cell hV y1, kept_cell hV z0, kept_cell hV z1⟩
      clear hrow krow hs ht hS hT y0 y1 z0 z1
      go_wp2
      go_loopw [5] (fun j wl => ∃ i : Nat, i ≤ l1.length ∧ j = .int .i64 i ∧ Hid (Below W0.heap.size W0 wl)) (fun j _ => l1.length - (intOf j).toNat)
      case atStart => exact ⟨0, by omega, rfl, HB⟩
      case round =>
        obtain ⟨i, hil, rfl, HBi⟩ := hrel
        by_cases hlt2 : i < l1.length
        · have hi1 : (i : Int) < (l1.length : Int) := by omega
          have hi10 : (0 : Int) ≤ (i : Int) := by omega
          obtain ⟨r, hr⟩ : ∃ r, l1[i]? = some r := ⟨_, List.getElem?_eq_getElem hlt2⟩
          obtain ⟨o, ho, hoq, hol⟩ := map_rk_at HRk.out hr
          have x0 := over_cell (kept_cell HBi.out (HHr.out i r hr 0 _ rfl))
          have x1 := over_cell (kept_cell HBi.out (HHr.out i r hr 1 _ rfl))
          have o0 := over_cell (kept_cell HBi.out (HKr.out i o ho 0 _ rfl))
          have o1 := over_cell (kept_cell HBi.out (HKr.out i o ho 1 _ rfl))
          simp only [elRoe, Nat.add_zero] at x0 x1 o0 o1
          have hR := (elRoe_ok (HA.out.ok (List.mem_of_getElem? hr))).2
          have hO := (elRoe_ok (HOw.out.ok (List.mem_of_getElem? ho))).2
          obtain ⟨p, rv, rl⟩ := r
          obtain ⟨p', ov', ol'⟩ := o
          dsimp only at x0 x1 o0 o1 hR hO hoq hol
          subst hoq hol
          obtain ⟨ra, rc, rfl, -⟩ := hR.shape
          obtain ⟨ya, yc, rfl, -⟩ := hO.shape
          obtain ⟨y0, y1, z0, z1⟩ := HCs.out _ HBi.out
          have y0' := over_cell y0
          have y1' := over_cell y1
          have z0' := over_cell z0
          have z1' := over_cell z1
          have HF1 := hide (fun x => cov_any (p := q') (q := p') (HT.out.kept (over_bel (x := x) HBi.out HBi.out.size)) (hO.kept (over_bel (x := x) HBi.out HBi.out.size)))
          have HF2 := hide (fun x => rcov_any (p := q') (q := p') (HS.out.kept (over_bel (x := x) HBi.out HBi.out.size)) (hR.kept (over_bel (x := x) HBi.out HBi.out.size)))
          obtain ⟨vb, hvb⟩ : ∃ vb, covB q' tl p' ol' = vb := ⟨_, rfl⟩
          rw [hvb] at HF1 HF2
          clear hvb hr ho hR hO y0 y1 z0 z1
          have hvv : (vb != vb) = false := by simp
          go_upto_region 8 with fail
          refine wp_region_over (fun W => W = wr) (by kernel_rfl) (by kernel_rfl) rfl ?_
          rintro W rfl
          repeat (go_big_quiet_step (first | (go_at_call 18; exact calls_over (HF1.out _)) | (go_at_call 19; exact calls_over (HF2.out _))))
          refine wpQuiet_nil ?_
          rintro _ ⟨z, rfl⟩
          have HBz : Hid (Below W0.heap.size W0 (over W z)) := HBi.out.trans ((over_below W z).mono HBi.out.size)
          generalize over W z = W2 at HBz ⊢
          clear HF1 HF2 x0 x1 o0 o1 y0' y1' z0' z1' HBi
          go_wp2
          go_roundw
          case rel => exact ⟨i + 1, by omega, by go_num, HBz⟩
          case measure => simp [intOf]; omega
        · obtain rfl : i = l1.length := by omega
          have hi1 : ¬ (l1.length : Int) < (l1.length : Int) := by omega
          go_wp2
          go_roundw
          case rel => exact ⟨k + 1, by omega, by go_num, HBi⟩
          case measure => simp [intOf]; omega
    · obtain rfl : k = l1.length := by omega
      have hi : ¬ (l1.length : Int) < (l1.length : Int) := by omega
      have HC := hide (shapes_any (HOw.out.kept HB.out) (HA.out.kept HB.out) HRk.out)
      go_wp2_with (go_at_call 17; refine HC.out.mono ?_; rintro e w3 ⟨rfl, h3⟩; have HB3 := hide (belot HB0.out (HB.out.trans (h3.mono HB.out.size))); clear h3)
      go_ret
      exact ⟨rfl, HB3.out⟩
end Go.Proofs.Ytpbcimpbddabeaa
