/- The document's Fits and Same; the law's ints and shapes: the same lists are the same. -/
import Derived.Test.YtpbcimpbddabeaaAlphaFit
namespace Go.Proofs.Ytpbcimpbddabeaa
set_option linter.unusedSimpArgs false
set_option linter.unusedVariables false
open Go.RowKit

set_option maxHeartbeats 2000000 in
theorem rfits_any {w : World} {q p : Int} {u v : Value} {cs rs : List Int} (h1 : Has elInt w u cs) (h2 : Has elInt w v rs) :
    Calls Try.prog 15 #[.agg #[.int .i64 q, u], .int .i64 p, v] w fun e w' => e = .returned (.bool (fitB q cs p rs)) ∧ Below w.heap.size w w' := by
  have hb := belo1 w (.cells #[.int .i64 q, u] 32)
  have HB := hide hb
  obtain ⟨a, cc, rfl, -, -, hlen⟩ := h1.shape
  obtain ⟨b, bc, rfl, -, -, hlen2⟩ := h2.shape
  have c0 : (w.alloc (.cells #[.int .i64 q, .slice a cs.length cc] 32)).cell? ⟨w.heap.size, 0, none⟩ = some (.int .i64 q) := new_cells (cs := #[.int .i64 q, .slice a cs.length cc]) 0 _ rfl
  have c1 : (w.alloc (.cells #[.int .i64 q, .slice a cs.length cc] 32)).cell? ⟨w.heap.size, 1, none⟩ = some (.slice a cs.length cc) := new_cells (cs := #[.int .i64 q, .slice a cs.length cc]) 1 _ rfl
  have H1 := hide (h1.kept hb)
  have H2 := hide (h2.kept hb)
  have HV := hide (rvalid_any (q := q) (h1.kept hb))
  clear h1 h2 hb
  cases hv : vldB q cs with
  | false =>
    have HN : Hid (fitB q cs p rs = false) := by show _ = _; unfold fitB; rw [hv]; rfl
    rw [hv] at HV
    go_enter Try.func15, Try.ntmps15
    go_wp2_with (go_at_call 14; refine HV.out.mono ?_; rintro e w2 ⟨rfl, h2⟩; have HB2 := hide (belot HB.out h2); clear h2)
    go_ret
    exact ⟨by rw [HN.out]; rfl, HB2.out⟩
  | true =>
    have HVl := hide (vldB_iff.1 hv).below
    rw [hv] at HV
    by_cases hpq : p = q
    · have HN : Hid (fitB q cs p rs = fitCB cs rs) := by show _ = _; unfold fitB; rw [hv, hpq]; simp
      subst hpq
      by_cases hl : rs.length = cs.length
      · have HE := hide hl
        rw [hl] at H2 ⊢
        clear hl hlen2
        go_enter Try.func15, Try.ntmps15
        go_wp2_with (go_at_call 14; refine HV.out.mono ?_; rintro e w2 ⟨rfl, h2⟩; have HB2 := hide (belot HB.out h2); have c0' := kept_cell h2 c0; have c1' := kept_cell h2 c1; have HL1 := hide (H1.out.kept h2); have HL2 := hide (H2.out.kept h2); clear h2 c0 c1 H1 H2)
        go_loopw [7] (fun i wl => ∃ k : Nat, k ≤ cs.length ∧ i = .int .i64 k ∧ Hid (∀ i c, i < k → cs[i]? = some c → Asks rs i c) ∧ wl = w2) (fun i _ => cs.length - (intOf i).toNat)
        case atStart => exact ⟨0, by omega, rfl, fun i c h => by omega, rfl⟩
        case round =>
          obtain ⟨k, hk, rfl, HK, rfl⟩ := hrel
          by_cases hlt : k < cs.length
          · have hi : (k : Int) < (cs.length : Int) := by omega
            have hi0 : (0 : Int) ≤ (k : Int) := by omega
            obtain ⟨p', po, rfl, -, -, hrow⟩ := HL1.out.row (by omega)
            obtain ⟨r, ro, rfl, -, -, krow⟩ := HL2.out.row (by have := HE.out; omega)
            obtain ⟨c, hx⟩ : ∃ c, cs[k]? = some c := ⟨_, List.getElem?_eq_getElem hlt⟩
            obtain ⟨x, hy⟩ : ∃ x, rs[k]? = some x := ⟨_, List.getElem?_eq_getElem (by have := HE.out; omega)⟩
            have y0 := hrow k c hx 0 _ rfl
            have z0 := krow k x hy 0 _ rfl
            simp only [elInt, Nat.add_zero, Nat.mul_one] at y0 z0
            have HX := hide hx
            have HY := hide hy
            have hc : I64 c := HL1.out.ok (List.mem_of_getElem? hx)
            by_cases hn : c < 0
            · have hj := HVl.out k c hx hn
              obtain ⟨j, hj'⟩ : ∃ j, at10 c = j := ⟨_, rfl⟩
              have hcj : c = -1 - (j : Int) := by have := at10_eq hn; omega
              rw [hj'] at hj
              have hj1 : (j : Int) < (cs.length : Int) := by omega
              have hj0 : (0 : Int) ≤ (j : Int) := by omega
              obtain ⟨d, hd⟩ : ∃ d, rs[j]? = some d := ⟨_, List.getElem?_eq_getElem (by have := HE.out; omega)⟩
              have z1 := krow _ d hd 0 _ rfl
              simp only [elInt, Nat.add_zero, Nat.mul_one] at z1
              have HD := hide hd
              have hs0 : -1 - (-1 - (j : Int)) = (j : Int) := by omega
              have hn1 : decide (-1 - (j : Int) < 0) = true := by simp; omega
              clear hd hx hrow krow hy hj' hc
              subst hcj
              have HJ := hide (at10_neg j)
              by_cases he : x = d
              · subst he
                go_wp2
                go_roundw
                case rel => exact ⟨k + 1, by omega, by go_num, all_next HX.out HK.out (by unfold Asks; rw [if_pos hn, HJ.out, HD.out, HY.out]), by first | rfl | trivial⟩
                case measure => simp [intOf]; omega
              · have HN2 := hide (fitCB_no (cs := cs) (rs := rs) fun h => by
                  have h1 := h.2 k _ HX.out
                  unfold Asks at h1
                  rw [if_pos hn, HJ.out, HD.out, HY.out] at h1
                  exact he (by simpa using h1))
                have he1 : (x != d) = true := by simp [he]
                go_wp2
                go_ret
                exact ⟨by rw [HN.out, HN2.out]; rfl, HB2.out⟩
            · clear hx hrow krow hy hc
              by_cases he : x = c
              · subst he
                have hn1 : decide (x < 0) = false := by simp; omega
                go_wp2
                go_roundw
                case rel => exact ⟨k + 1, by omega, by go_num, all_next HX.out HK.out (by unfold Asks; rw [if_neg (by omega), HY.out]), by first | rfl | trivial⟩
                case measure => simp [intOf]; omega
              · have HN2 := hide (fitCB_no (cs := cs) (rs := rs) fun h => by
                  have h1 := h.2 k c HX.out
                  unfold Asks at h1
                  rw [if_neg hn, HY.out] at h1
                  exact he (by simpa using h1))
                have he1 : (x != c) = true := by simp [he]
                have hn1 : decide (c < 0) = false := by simp; omega
                go_wp2
                go_ret
                exact ⟨by rw [HN.out, HN2.out]; rfl, HB2.out⟩
          · obtain rfl : k = cs.length := by omega
            have hi : ¬ (cs.length : Int) < (cs.length : Int) := by omega
            have HN2 := hide (fitCB_yes (cs := cs) (rs := rs) ⟨HE.out, all_done HK.out⟩)
            go_wp2
            go_ret
            exact ⟨by rw [HN.out, HN2.out]; rfl, HB2.out⟩
      · have HN2 := hide (fitCB_no (cs := cs) (rs := rs) fun h => hl h.1)
        have hl1 : ((rs.length : Int) != (cs.length : Int)) = true := by simp; omega
        have hl2 : ¬ (rs.length : Int) = (cs.length : Int) := by omega
        clear H1 H2 HVl
        obtain ⟨m, hm⟩ : ∃ m, rs.length = m := ⟨_, rfl⟩
        obtain ⟨n, hn⟩ : ∃ n, cs.length = n := ⟨_, rfl⟩
        rw [hm] at hl hl1 hl2 ⊢
        rw [hn] at hl hl1 hl2 HB HV c0 c1 ⊢
        go_enter Try.func15, Try.ntmps15
        go_wp2_with (go_at_call 14; refine HV.out.mono ?_; rintro e w2 ⟨rfl, h2⟩; have HB2 := hide (belot HB.out h2); have c0' := kept_cell h2 c0; have c1' := kept_cell h2 c1; clear h2 c0 c1)
        go_ret
        exact ⟨by rw [HN.out, HN2.out]; rfl, HB2.out⟩
    · have HN : Hid (fitB q cs p rs = false) := by show _ = _; unfold fitB; simp [hpq]
      have hpq1 : (p != q) = true := by simp [hpq]
      go_enter Try.func15, Try.ntmps15
      go_wp2_with (go_at_call 14; refine HV.out.mono ?_; rintro e w2 ⟨rfl, h2⟩; have HB2 := hide (belot HB.out h2); have c0' := kept_cell h2 c0; have c1' := kept_cell h2 c1; clear h2 c0 c1)
      go_ret
      exact ⟨by rw [HN.out]; rfl, HB2.out⟩
end Go.Proofs.Ytpbcimpbddabeaa
