/- strata.Cyclic. -/
import Derived.Test.YtmbkjgfnnpopgaaEdgeRCyc
namespace Go.Proofs.Ytmbkjgfnnpopgaa
set_option linter.unusedSimpArgs false
set_option linter.unusedVariables false
open Go.RowKit
set_option maxRecDepth 100000

set_option maxHeartbeats 1000000 in
theorem cyclic_any {w : World} {v u : Value} {es : List Edg} {ls : List Int} (h : Has elEdg w v es) (hu : Has elInt w u ls) (n : Int) :
    Calls Try.prog 25 #[.int .i64 n, v, u] w fun e w' => e = .returned (.bool (cyclicP n es ls)) ∧ Below w.heap.size w w' := by
  obtain ⟨va, vc, rfl, -, -, hlen⟩ := h.shape
  obtain ⟨ua, uc, rfl, -, -, hlen2⟩ := hu.shape
  have hb := belo1 w (.cells #[.slice va es.length vc] 23)
  have hbox : (w.alloc (.cells #[.slice va es.length vc] 23)).cell? ⟨w.heap.size, 0, none⟩ = some (.slice va es.length vc) := by simp
  have HBY := hide hb
  have HBox := hide hbox
  have HF := hide (fit_any (h.kept hb) n)
  have HL := hide (h.kept hb)
  have HU := hide (hu.kept hb)
  clear h hu hb hbox
  unfold cyclicP
  cases hfit : fitP n es with
  | false =>
    rw [hfit] at HF
    go_enter Try.func25, Try.ntmps25
    go_wp2_with (go_at_call 39; refine HF.out.mono ?_; rintro e w2 ⟨rfl, h2⟩; have HB2 := hide (HBY.out.trans (h2.mono HBY.out.size)); clear h2)
    go_ret
    exact ⟨rfl, HB2.out⟩
  | true =>
    rw [hfit] at HF
    clear hfit
    go_enter Try.func25, Try.ntmps25
    by_cases hq : ls.length = 0
    · have hq' : ((ls.length : Int) == 0) = true := by simpa using hq
      have hq2 : (ls.length == 0) = true := by simpa using hq
      rw [hq2]
      clear hq
      go_wp2_with (go_at_call 39; refine HF.out.mono ?_; rintro e w2 ⟨rfl, h2⟩; have HB2 := hide (HBY.out.trans (h2.mono HBY.out.size)); clear h2)
      go_ret
      exact ⟨rfl, HB2.out⟩
    · have hq' : ((ls.length : Int) == 0) = false := by rw [beq_eq_false_iff_ne]; omega
      have hq2 : (ls.length == 0) = false := by simpa using hq
      rw [hq2]
      have hpos : 0 < ls.length := by omega
      clear hq hq2
      obtain ⟨a, ha⟩ : ∃ a, ls.any (outN es.length) = a := ⟨_, rfl⟩
      obtain ⟨c, hc⟩ : ∃ c, cycB es ls = c := ⟨_, rfl⟩
      obtain ⟨d, hd⟩ : ∃ d, ls.any (negW es) = d := ⟨_, rfl⟩
      rw [ha, hc, hd]
      have HA := hide ha
      have HC := hide hc
      have HD := hide hd
      clear ha hc hd
      have HCt : Hid (∀ V : World, Below (w.alloc (.cells #[.slice va es.length vc] 23)).heap.size (w.alloc (.cells #[.slice va es.length vc] 23)) V → Calls Try.prog 46 #[.slice ua ls.length uc, .func (.func 44) #[] #[.pointer (some ⟨w.heap.size, 0, none⟩)]] V fun e w' => e = .returned (.bool a) ∧ Below V.heap.size V w') := fun V hV => by
        rw [← HA.out]
        exact contains_noEdge (HU.out.kept hV) (fun V2 h2 x _ => noEdge_any (kept_cell h2 (kept_cell hV HBox.out)) x)
      cases a with
      | true =>
        go_wp2_with (first
          | (go_at_call 39; refine HF.out.mono ?_; rintro e w2 ⟨rfl, h2⟩; have HV2 := hide h2; clear h2)
          | (go_at_call 46; refine (HCt.out _ HV2.out).mono ?_; rintro e w3 ⟨rfl, h3⟩; have HB3 := hide (HBY.out.trans ((HV2.out.trans (h3.mono HV2.out.size)).mono HBY.out.size)); clear h3))
        go_ret
        exact ⟨rfl, HB3.out⟩
      | false =>
        go_wp2_with (first
          | (go_at_call 39; refine HF.out.mono ?_; rintro e w2 ⟨rfl, h2⟩; have HV2 := hide h2; clear h2)
          | (go_at_call 46; refine (HCt.out _ HV2.out).mono ?_; rintro e w3 ⟨rfl, h3⟩; have HV3 := hide (HV2.out.trans (h3.mono HV2.out.size)); clear h3))
        have HIn : Hid (∀ x ∈ ls, ∃ k : Nat, x = k ∧ k < es.length) := by
          have h1 := HA.out
          rw [List.any_eq_false] at h1
          exact fun x hx => outN_false (by simpa using h1 x hx)
        have HL3 := hide (HL.out.kept HV3.out)
        have HU3 := hide (HU.out.kept HV3.out)
        have hbx := over_cell (kept_cell HV3.out HBox.out)
        have HB3 := hide (HBY.out.trans (HV3.out.mono HBY.out.size))
        have HBox3 := hide (kept_cell HV3.out HBox.out)
        clear HV3 HV2 HF HCt HA HL HU HBox HBY
        obtain ⟨ub, uo, rfl, -, -, urow⟩ := HU3.out.row hpos
        obtain ⟨x, hx⟩ : ∃ x, ls[ls.length - 1]? = some x := ⟨_, List.getElem?_eq_getElem (by omega)⟩
        obtain ⟨mx, rfl, hmx⟩ := HIn.out x (List.mem_of_getElem? hx)
        obtain ⟨eb, eo, rfl, -, -, erow⟩ := HL3.out.row (by omega)
        obtain ⟨ex, hex⟩ : ∃ x, es[mx]? = some x := ⟨_, List.getElem?_eq_getElem hmx⟩
        have u0 := over_cell (urow (ls.length - 1) _ hx 0 _ rfl)
        have v0 := over_cell (erow mx _ hex 1 _ rfl)
        simp only [elInt, elEdg, Nat.add_zero, Nat.mul_one] at u0 v0
        have hmx' : (mx : Int) < (es.length : Int) := by omega
        have hmx0 : (0 : Int) ≤ (mx : Int) := by omega
        have hl1 : ((ls.length : Int) - 1) < (ls.length : Int) := by omega
        have hl0 : (0 : Int) ≤ (ls.length : Int) - 1 := by omega
        have HAt : Hid (ex.t = (ed es (wk ls (prv ls.length 0))).t) := by
          show _ = _
          rw [show prv ls.length 0 = ls.length - 1 from rfl, wk_at hx, ed_at hex]
        clear hx hex urow erow
        refine wp_region_over (fun W => W = w3) (by kernel_rfl) (by kernel_rfl) rfl ?_
        rintro W rfl
        repeat (go_big_quiet_step (first | fail))
        refine wpQuiet_nil ?_
        rintro _ ⟨z, rfl⟩
        have HBz := hide (HB3.out.trans ((over_below W z).mono HB3.out.size))
        have HLz := hide (HL3.out.kept (over_below W z))
        have HUz := hide (HU3.out.kept (over_below W z))
        have HBoxz := hide (hbx z)
        clear hbx u0 v0 HB3 HL3 HU3 HBox3
        go_wp2
        go_loopw [8, 9, 11, 39] (fun g t _ i wl => ∃ (k : Nat) (b : Bool) (y : Int), k ≤ ls.length ∧ i = .int .i64 k ∧ g = .bool b ∧ t = .int .i64 y ∧ Hid (b = (ls.take k).any (negW es)) ∧ Hid (y = (ed es (wk ls (prv ls.length k))).t) ∧ Hid (∀ i, i < k → prevOk es ls i = true) ∧ wl = over W z) (fun _ _ _ i _ => ls.length - (intOf i).toNat)
        case atStart => exact ⟨0, false, ex.t, by omega, rfl, rfl, rfl, by show _ = _; simp, HAt, (by show ∀ i, i < 0 → _; intro i h; omega), rfl⟩
        case round =>
          obtain ⟨k, bb, y, hk, rfl, rfl, rfl, HN, HY, HK, hwr⟩ := hrel
          have c0 := HBoxz.out
          have HLr := HLz
          have HUr := HUz
          rw [← hwr] at c0 HLr HUr
          by_cases hlt : k < ls.length
          · have hi : (k : Int) < (ls.length : Int) := by omega
            have hi0 : (0 : Int) ≤ (k : Int) := by omega
            obtain ⟨ub', uo', e1, -, -, urow⟩ := HUr.out.row (by omega)
            obtain ⟨x, hx⟩ : ∃ x, ls[k]? = some x := ⟨_, List.getElem?_eq_getElem hlt⟩
            obtain ⟨kx, rfl, hkx⟩ := HIn.out x (List.mem_of_getElem? hx)
            obtain ⟨eb', eo', e2, -, -, erow⟩ := HLr.out.row (by omega)
            obtain ⟨ek, hek⟩ : ∃ x, es[kx]? = some x := ⟨_, List.getElem?_eq_getElem hkx⟩
            cases e1
            cases e2
            have u0 := urow k _ hx 0 _ rfl
            have v0 := erow kx _ hek 0 _ rfl
            have v1 := erow kx _ hek 1 _ rfl
            have v2 := erow kx _ hek 2 _ rfl
            simp only [elInt, elEdg, Nat.add_zero, Nat.mul_one] at u0 v0 v1 v2
            have hkx' : (kx : Int) < (es.length : Int) := by omega
            have hkx0 : (0 : Int) ≤ (kx : Int) := by omega
            have HQ : Hid (prevOk es ls k = (ek.f == y)) := by
              show _ = _
              unfold prevOk
              rw [HY.out, wk_at hx, ed_at hek]
            have HN2 : Hid ((ls.take (k + 1)).any (negW es) = (bb || ek.neg)) := by
              show _ = _
              rw [take_snoc8 hx, List.any_append, ← HN.out]
              unfold negW
              simp [ed_at hek]
            have HY2 : Hid (ek.t = (ed es (wk ls (prv ls.length (k + 1)))).t) := by
              show _ = _
              rw [show prv ls.length (k + 1) = k by unfold prv; simp, wk_at hx, ed_at hek]
            have HW := hide hwr
            clear hx hek urow erow hkx hwr
            cases he : (ek.f == y) with
            | true =>
              rw [he] at HQ
              have hne : (ek.f != y) = false := by unfold bne; rw [he]; rfl
              have HK2 : Hid (∀ i, i < k + 1 → prevOk es ls i = true) := by
                show ∀ i, i < k + 1 → prevOk es ls i = true
                intro i hi
                rcases Nat.lt_succ_iff_lt_or_eq.1 hi with h | h
                · exact HK.out i h
                · rw [h]; exact HQ.out
              clear he
              cases bb
              · go_wp2
                go_roundw
                case rel => exact ⟨k + 1, ek.neg, ek.t, by omega, by go_num, rfl, rfl, by show _ = _; rw [HN2.out]; rfl, HY2, HK2, HW.out⟩
                case measure => simp [intOf]; omega
              · go_wp2
                go_roundw
                case rel => exact ⟨k + 1, true, ek.t, by omega, by go_num, rfl, rfl, by show _ = _; rw [HN2.out]; rfl, HY2, HK2, HW.out⟩
                case measure => simp [intOf]; omega
            | false =>
              rw [he] at HQ
              have hne : (ek.f != y) = true := by unfold bne; rw [he]; rfl
              have HE : Hid (c = false) := by show _ = _; rw [← HC.out]; exact cyc_no hlt HQ.out
              clear he
              go_wp2
              go_ret
              exact ⟨by rw [HE.out]; rfl, by rw [HW.out]; exact HBz.out⟩
          · obtain rfl : k = ls.length := by omega
            have hi : ¬ (ls.length : Int) < (ls.length : Int) := by omega
            have HE : Hid (c = true) := by show _ = _; rw [← HC.out]; exact cyc_yes HK.out
            have HEd : Hid (bb = d) := by show _ = _; rw [HN.out, List.take_of_length_le (Nat.le_refl _)]; exact HD.out
            have HW := hide hwr
            clear hwr
            go_wp2
            go_ret
            exact ⟨by rw [HE.out, ← HEd.out]; rfl, by rw [HW.out]; exact HBz.out⟩
end Go.Proofs.Ytmbkjgfnnpopgaa
