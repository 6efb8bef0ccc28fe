/- The law of Vars and Unbound: its walk. -/
import Derived.Test.YthbfkbkcfcpibaaRefUnb
import Derived.Test.YthbfkbkcfcpibaaOverAt
namespace Go.Proofs.Ythbfkbkcfcpibaa
set_option linter.unusedSimpArgs false
set_option linter.unusedVariables false
open Go.RowKit Go.Maps

set_option maxHeartbeats 1000000 in
theorem names_any {w : World} {v1 v2 : Value} {L : List ByteArray} (h1 : Has elStr w v1 L) (h2 : Has elStr w v2 L) :
    Calls Try.prog 13 #[v1, v2] w fun e w' => e = .returned (.bool true) ∧ Below w.heap.size w w' := by
  obtain ⟨va, vc, rfl, -, -, hlen⟩ := h1.shape
  obtain ⟨ua, uc, rfl, -, -, -⟩ := h2.shape
  have H1 := hide h1
  have H2 := hide h2
  clear h1 h2
  go_enter Try.func13, Try.ntmps13
  go_wp2
  go_loopw [5] (fun i wl => ∃ k : Nat, k ≤ L.length ∧ i = .int .i64 k ∧ Hid (Below w.heap.size w wl)) (fun i _ => L.length - (intOf i).toNat)
  case atStart => exact ⟨0, by omega, rfl, Below.refl _ _⟩
  case round =>
    obtain ⟨k, hk, rfl, HB⟩ := hrel
    by_cases hlt : k < L.length
    · have hi : (k : Int) < (L.length : Int) := by omega
      have hi0 : (0 : Int) ≤ (k : Int) := by omega
      obtain ⟨b, bo, rfl, -, -, hrow⟩ := H1.out.row (by omega)
      obtain ⟨c, co, rfl, -, -, krow⟩ := H2.out.row (by omega)
      obtain ⟨t, hx⟩ : ∃ t, L[k]? = some t := ⟨_, List.getElem?_eq_getElem hlt⟩
      have y0 := over_cell (kept_cell HB.out (hrow k t hx 0 _ rfl))
      have z0 := over_cell (kept_cell HB.out (krow k t hx 0 _ rfl))
      simp only [elStr, Nat.mul_one, Nat.add_zero] at y0 z0
      clear hrow hx krow
      go_wp2
      refine wp_region_over (fun W => W = wr) (by kernel_rfl) (by kernel_rfl) rfl ?_
      rintro W rfl
      repeat (go_big_quiet_step (first | fail))
      refine wpQuiet_nil ?_
      rintro _ ⟨z, rfl⟩
      go_wp2
      go_roundw
      case rel => exact ⟨k + 1, by omega, by go_num, HB.out.trans ((over_below W z).mono HB.out.size)⟩
      case measure => simp [intOf]; omega
    · obtain rfl : k = L.length := by omega
      have hi : ¬ (L.length : Int) < (L.length : Int) := by omega
      go_wp2
      go_ret
      exact ⟨rfl, HB.out⟩

set_option maxRecDepth 100000 in
set_option maxHeartbeats 2000000 in
theorem coreClauses_walk (v : Value) (cs : List Clx) (w : World) (h : Has elClx w v cs) (hs : ∀ c ∈ cs, c.h.ts.length + (sumT c.ls + 2 * c.ls.length) < 500000000) :
    Calls Try.prog 4 #[v] w fun e w' => e = .returned (.bool true) ∧ Below w.heap.size w w' := by
  obtain ⟨va, vc, rfl, -, -, hlen⟩ := h.shape
  have HL := hide h
  have HS := hide hs
  clear h hs
  go_enter Try.func4, Try.ntmps4
  go_wp2
  go_loopw [3, 4, 5, 6] (fun i _ _ _ wl => ∃ k : Nat, k ≤ cs.length ∧ i = .int .i64 k ∧ Hid (Below w.heap.size w wl)) (fun i _ _ _ _ => cs.length - (intOf i).toNat)
  case atStart => exact ⟨0, by omega, rfl, Below.refl _ _⟩
  case round =>
    obtain ⟨k, hk, rfl, HB⟩ := hrel
    by_cases hlt : k < cs.length
    · have hi : (k : Int) < (cs.length : Int) := by omega
      have hi0 : (0 : Int) ≤ (k : Int) := by omega
      obtain ⟨b, bo, rfl, -, -, hrow⟩ := HL.out.row (by omega)
      obtain ⟨x, hx⟩ : ∃ t, cs[k]? = some t := ⟨_, List.getElem?_eq_getElem hlt⟩
      have HX := hide (hrow k x hx)
      have HOk := hide (HL.out.ok (List.mem_of_getElem? hx))
      have HSk := hide (HS.out x (List.mem_of_getElem? hx))
      clear hrow hx
      obtain ⟨⟨hp, hv, ho, ht⟩, bv, ls⟩ := x
      have HH := hide (elAtx_ok (elClx_ok HOk.out).1).2.2
      have HY := hide (elClx_ok HOk.out).2
      dsimp only at HH HY HSk
      obtain ⟨ha, hc, rfl, -, -, hhl⟩ := HH.out.shape
      obtain ⟨ba, bc, rfl, -, -, hbl⟩ := HY.out.shape
      have HXc : Hid (∀ V : World, Below w.heap.size w V → V.cell? ⟨b, bo + k * 4, none⟩ = some (.string hp) ∧ V.cell? ⟨b, bo + k * 4 + 1, none⟩ = some (.slice ha ht.length hc) ∧ V.cell? ⟨b, bo + k * 4 + 2, none⟩ = some (.int .i64 ho) ∧ V.cell? ⟨b, bo + k * 4 + 3, none⟩ = some (.slice ba ls.length bc)) := fun V hV => by
        have x0 := kept_cell hV (HX.out 0 _ rfl)
        have x1 := kept_cell hV (HX.out 1 _ rfl)
        have x2 := kept_cell hV (HX.out 2 _ rfl)
        have x3 := kept_cell hV (HX.out 3 _ rfl)
        simp only [elClx, Nat.add_zero] at x0 x1 x2 x3
        exact ⟨x0, x1, x2, x3⟩
      obtain ⟨x0, x1, x2, x3⟩ := HXc.out _ HB.out
      go_wp2_with fail
      clear x0 x1 x2 x3
      refine (rvars_any (HY.out.kept HB.out) (by have := HSk.out; omega)).mono ?_
      rintro e w1 ⟨⟨m1, rfl, hm1, -⟩, g1⟩
      obtain ⟨ma, mc, rfl, -, -, -⟩ := hm1.shape
      have HM1 := hide hm1
      have HB1 := hide (HB.out.trans (g1.mono HB.out.size))
      clear hm1 g1
      obtain ⟨x0, x1, x2, x3⟩ := HXc.out _ HB1.out
      go_wp2_with fail
      clear x0 x1 x2 x3
      refine (runb_any (HH.out.kept HB1.out) (HY.out.kept HB1.out) HSk.out).mono ?_
      rintro e w2 ⟨rfl, g2⟩
      have HM2 := hide (HM1.out.kept g2)
      have HB2 := hide (HB1.out.trans (g2.mono HB1.out.size))
      clear g2
      obtain ⟨x0, x1, x2, x3⟩ := HXc.out _ HB2.out
      go_wp2_with fail
      clear x0 x1 x2 x3
      refine (vars_any (HY.out.kept HB2.out) (by have := HSk.out; omega)).mono ?_
      rintro e w3 ⟨⟨l1, rfl, hl1⟩, g3⟩
      obtain ⟨la, lc, rfl, -, -, -⟩ := hl1.shape
      have HL3 := hide hl1
      have HM3 := hide (HM2.out.kept g3)
      have HB3 := hide (HB2.out.trans (g3.mono HB2.out.size))
      clear hl1 g3
      go_wp2_with fail
      refine (names_any HL3.out HM3.out).mono ?_
      rintro e w4 ⟨rfl, g4⟩
      have HB4 := hide (HB3.out.trans (g4.mono HB3.out.size))
      clear g4
      obtain ⟨x0, x1, x2, x3⟩ := HXc.out _ HB4.out
      go_wp2_with fail
      clear x0 x1 x2 x3
      refine (unbound_any (HH.out.kept HB4.out) (HY.out.kept HB4.out) HSk.out).mono ?_
      rintro e w5 ⟨rfl, g5⟩
      have HB5 := hide (HB4.out.trans (g5.mono HB4.out.size))
      clear g5
      go_wp2_with fail
      go_roundw
      case rel => exact ⟨k + 1, by omega, by go_num, HB5⟩
      case measure => simp [intOf]; omega
    · obtain rfl : k = cs.length := by omega
      have hi : ¬ (cs.length : Int) < (cs.length : Int) := by omega
      go_wp2
      go_ret
      exact ⟨rfl, HB.out⟩
end Go.Proofs.Ythbfkbkcfcpibaa
