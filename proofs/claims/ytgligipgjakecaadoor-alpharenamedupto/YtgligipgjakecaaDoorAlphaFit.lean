/- alpha.fitCells, alpha.Fits; the document's Valid and Fits. -/
import Derived.Test.YtgligipgjakecaaDoorAlphaValid
namespace Go.Proofs.YtgligipgjakecaaDoor
set_option linter.unusedSimpArgs false
set_option linter.unusedVariables false
open Go.RowKit

set_option maxHeartbeats 1000000 in
theorem rvalid_any {w : World} {q : Int} {v : Value} {cs : List Int} (h : Has elInt w v cs) :
    Calls Tryd.prog 9 #[.agg #[.int .i64 q, v]] w fun e w' => e = .returned (.bool (vldB q cs)) ∧ Below w.heap.size w w' := by
  obtain ⟨a, cc, rfl, -, -, hlen⟩ := h.shape
  have HB0 := hide (belo1 w (.cells #[.int .i64 q, .slice a cs.length cc] 25))
  by_cases hq : q < 0
  · have HN := hide (vldB_no (q := q) (cs := cs) fun h => by have := h.1; omega)
    go_enter Tryd.func9, Tryd.ntmps9
    go_wp2
    go_ret
    exact ⟨by rw [HN.out]; rfl, HB0.out⟩
  · have hb1 : (w.alloc (.cells #[.int .i64 q, .slice a cs.length cc] 25)).cell? ⟨w.heap.size, 1, none⟩ = some (.slice a cs.length cc) := new_cells (cs := #[.int .i64 q, .slice a cs.length cc]) 1 _ rfl
    have HL := hide (h.kept HB0.out)
    clear h
    obtain ⟨W, hW⟩ : ∃ W, W = w.alloc (.cells #[.int .i64 q, .slice a cs.length cc] 25) := ⟨_, rfl⟩
    go_enter Tryd.func9, Tryd.ntmps9
    go_wp2
    rw [← hW] at HB0 HL hb1 ⊢
    clear hW
    go_loopw [3] (fun i wl => ∃ k : Nat, k ≤ cs.length ∧ i = .int .i64 k ∧ Hid (∀ i c, i < k → cs[i]? = some c → CellOk cs i c) ∧ wl = W) (fun i _ => cs.length - (intOf i).toNat)
    case atStart => exact ⟨0, by omega, rfl, fun i c h => by omega, rfl⟩
    case round =>
      obtain ⟨k, hk, rfl, HK, rfl⟩ := hrel
      by_cases hlt : k < cs.length
      · have hi : (k : Int) < (cs.length : Int) := by omega
        have hi0 : (0 : Int) ≤ (k : Int) := by omega
        obtain ⟨b, off, rfl, -, -, hrow⟩ := HL.out.row (by omega)
        obtain ⟨c, hx⟩ : ∃ c, cs[k]? = some c := ⟨_, List.getElem?_eq_getElem hlt⟩
        have y0 := hrow k c hx 0 _ rfl
        simp only [elInt, Nat.add_zero, Nat.mul_one] at y0
        have HX := hide hx
        have hc : I64 c := HL.out.ok (List.mem_of_getElem? hx)
        by_cases hn : c < 0
        · obtain ⟨j, rfl⟩ : ∃ j : Nat, c = -1 - (j : Int) := ⟨at10 c, by rw [at10_eq hn]; omega⟩
          have hn1 : ¬ 0 ≤ -1 - (j : Int) := by omega
          have hs0 : -1 - (-1 - (j : Int)) = (j : Int) := by omega
          have hcs := hc
          obtain ⟨hc1, hc2⟩ := hc
          have hjj : (j : Int) ≤ 9223372036854775807 := by omega
          by_cases hj : j ≤ k
          · have hj1 : ((j : Nat) : Int) < (cs.length : Int) := by omega
            have hj0 : (0 : Int) ≤ ((j : Nat) : Int) := by omega
            have hj2 : ¬ (k : Int) < ((j : Nat) : Int) := by omega
            have hj3 : decide (k < j) = false := by simp; omega
            obtain ⟨d, hd⟩ : ∃ d, cs[j]? = some d := ⟨_, List.getElem?_eq_getElem (by omega)⟩
            have z0 := hrow _ d hd 0 _ rfl
            simp only [elInt, Nat.add_zero, Nat.mul_one] at z0
            have HD := hide hd
            clear hd hx hrow
            by_cases he : d = -1 - (j : Int)
            · subst he
              go_wp2
              go_roundw
              case rel => exact ⟨k + 1, by omega, by go_num, all_next HX.out HK.out (fun _ => by rw [at10_neg]; exact ⟨hj, HD.out⟩), by first | rfl | trivial⟩
              case measure => simp [intOf]; omega
            · have HN := hide (vldB_no (q := q) (cs := cs) fun h => by have h1 := (h.2 k _ HX.out (by omega)).2; rw [at10_neg, HD.out] at h1; exact he (by simpa using h1))
              have he1 : (d != -1 - (j : Int)) = true := by simp [he]
              go_wp2
              go_ret
              exact ⟨by rw [HN.out]; rfl, HB0.out⟩
          · have hj2 : (k : Int) < ((j : Nat) : Int) := by omega
            have hj3 : decide (k < j) = true := by simp; omega
            have HN := hide (vldB_no (q := q) (cs := cs) fun h => by have h1 := (h.2 k _ HX.out (by omega)).1; rw [at10_neg] at h1; exact hj h1)
            clear hx hrow
            go_wp2
            go_ret
            exact ⟨by rw [HN.out]; rfl, HB0.out⟩
        · have hn1 : 0 ≤ c := by omega
          clear hx hrow
          go_wp2
          go_roundw
          case rel => exact ⟨k + 1, by omega, by go_num, all_next HX.out HK.out (fun h => absurd h (by omega)), by first | rfl | trivial⟩
          case measure => simp [intOf]; omega
      · obtain rfl : k = cs.length := by omega
        have hi : ¬ (cs.length : Int) < (cs.length : Int) := by omega
        have HN := hide (vldB_yes (q := q) (cs := cs) ⟨by omega, all_done HK.out⟩)
        go_wp2
        go_ret
        exact ⟨by rw [HN.out]; rfl, HB0.out⟩

set_option maxHeartbeats 1000000 in
theorem fitCells_any {w : World} {u v : Value} {cs rs : List Int} (h1 : Has elInt w u cs) (h2 : Has elInt w v rs) (hv : ∀ (i : Nat) (c : Int), cs[i]? = some c → c < 0 → at10 c < cs.length) :
    Calls Tryd.prog 24 #[u, v] w fun e w' => e = .returned (.bool (fitCB cs rs)) ∧ w' = w := by
  obtain ⟨a, cc, rfl, -, -, hlen⟩ := h1.shape
  obtain ⟨b, bc, rfl, -, -, hlen2⟩ := h2.shape
  by_cases hl : rs.length = cs.length
  · have HL1 := hide h1
    have HL2 := hide h2
    have HV := hide hv
    have HE := hide hl
    clear h1 h2 hv
    rw [hl] at HL2 ⊢
    clear hl hlen2
    go_enter Tryd.func24, Tryd.ntmps24
    go_wp2
    go_loopw [14] (fun i wl => ∃ k : Nat, k ≤ cs.length ∧ i = .int .i64 k ∧ Hid (∀ i c, i < k → cs[i]? = some c → Asks rs i c) ∧ wl = w) (fun i _ => cs.length - (intOf i).toNat)
    case atStart => exact ⟨0, by omega, rfl, fun i c h => by omega, rfl⟩
    case round =>
      obtain ⟨k, hk, rfl, HK, rfl⟩ := hrel
      by_cases hlt : k < cs.length
      · have hi : (k : Int) < (cs.length : Int) := by omega
        have hi0 : (0 : Int) ≤ (k : Int) := by omega
        obtain ⟨p, po, rfl, -, -, hrow⟩ := HL1.out.row (by omega)
        obtain ⟨r, ro, rfl, -, -, krow⟩ := HL2.out.row (by have := HE.out; omega)
        obtain ⟨c, hx⟩ : ∃ c, cs[k]? = some c := ⟨_, List.getElem?_eq_getElem hlt⟩
        obtain ⟨x, hy⟩ : ∃ x, rs[k]? = some x := ⟨_, List.getElem?_eq_getElem (by have := HE.out; omega)⟩
        have y0 := hrow k c hx 0 _ rfl
        have z0 := krow k x hy 0 _ rfl
        simp only [elInt, Nat.add_zero, Nat.mul_one] at y0 z0
        have HX := hide hx
        have HY := hide hy
        have hc : I64 c := HL1.out.ok (List.mem_of_getElem? hx)
        by_cases hn : c < 0
        · have HLk := hide (like_at hc hn)
          have hj := HV.out k c hx hn
          obtain ⟨j, hj'⟩ : ∃ j, at10 c = j := ⟨_, rfl⟩
          have HJ := hide hj'
          rw [hj'] at HLk hj
          have hj1 : (j : Int) < (cs.length : Int) := by omega
          have hj0 : (0 : Int) ≤ (j : Int) := by omega
          obtain ⟨d, hd⟩ : ∃ d, rs[j]? = some d := ⟨_, List.getElem?_eq_getElem (by have := HE.out; omega)⟩
          have z1 := krow _ d hd 0 _ rfl
          simp only [elInt, Nat.add_zero, Nat.mul_one] at z1
          have HD := hide hd
          clear hd hx hrow krow hy hj' hc
          by_cases he : x = d
          · subst he
            go_wp2_with (go_at_call 17; refine (HLk.out _).mono ?_; rintro e w2 ⟨rfl, rfl⟩)
            go_roundw
            case rel => exact ⟨k + 1, by omega, by go_num, all_next HX.out HK.out (by unfold Asks; rw [if_pos hn, HJ.out, HD.out, HY.out]), by first | rfl | trivial⟩
            case measure => simp [intOf]; omega
          · have HN := hide (fitCB_no (cs := cs) (rs := rs) fun h => by
              have h1 := h.2 k c HX.out
              unfold Asks at h1
              rw [if_pos hn, HJ.out, HD.out, HY.out] at h1
              exact he (by simpa using h1))
            have he1 : (x != d) = true := by simp [he]
            go_wp2_with (go_at_call 17; refine (HLk.out _).mono ?_; rintro e w2 ⟨rfl, rfl⟩)
            go_ret
            exact ⟨by rw [HN.out]; rfl, rfl⟩
        · clear hx hrow krow hy hc
          by_cases he : x = c
          · subst he
            have hn1 : decide (x < 0) = false := by simp; omega
            go_wp2
            go_roundw
            case rel => exact ⟨k + 1, by omega, by go_num, all_next HX.out HK.out (by unfold Asks; rw [if_neg (by omega), HY.out]), by first | rfl | trivial⟩
            case measure => simp [intOf]; omega
          · have HN := hide (fitCB_no (cs := cs) (rs := rs) fun h => by
              have h1 := h.2 k c HX.out
              unfold Asks at h1
              rw [if_neg hn, HY.out] at h1
              exact he (by simpa using h1))
            have he1 : (x != c) = true := by simp [he]
            have hn1 : decide (c < 0) = false := by simp; omega
            go_wp2
            go_ret
            exact ⟨by rw [HN.out]; rfl, rfl⟩
      · obtain rfl : k = cs.length := by omega
        have hi : ¬ (cs.length : Int) < (cs.length : Int) := by omega
        have HN := hide (fitCB_yes (cs := cs) (rs := rs) ⟨HE.out, all_done HK.out⟩)
        go_wp2
        go_ret
        exact ⟨by rw [HN.out]; rfl, rfl⟩
  · have HN := hide (fitCB_no (cs := cs) (rs := rs) fun h => hl h.1)
    have hl1 : ((rs.length : Int) != (cs.length : Int)) = true := by simp; omega
    have hl2 : ¬ (rs.length : Int) = (cs.length : Int) := by omega
    clear h1 h2 hv
    obtain ⟨m, hm⟩ : ∃ m, rs.length = m := ⟨_, rfl⟩
    obtain ⟨n, hn⟩ : ∃ n, cs.length = n := ⟨_, rfl⟩
    rw [hm] at hl hl1 hl2 ⊢
    rw [hn] at hl hl1 hl2 ⊢
    go_enter Tryd.func24, Tryd.ntmps24
    go_wp2
    go_ret
    exact ⟨by rw [HN.out]; rfl, rfl⟩

theorem Vld.below {q : Int} {cs : List Int} (h : Vld q cs) : ∀ (i : Nat) (c : Int), cs[i]? = some c → c < 0 → at10 c < cs.length := fun i c hi hc => by
  have h1 := (h.2 i c hi hc).1
  have h2 := (List.getElem?_eq_some_iff.1 hi).1
  omega

set_option maxHeartbeats 1000000 in
theorem fits_any {w : World} {q p : Int} {u v : Value} {cs rs : List Int} (h1 : Has elInt w u cs) (h2 : Has elInt w v rs) :
    Calls Tryd.prog 22 #[.agg #[.int .i64 q, u], .int .i64 p, v] w fun e w' => e = .returned (.bool (fitB q cs p rs)) ∧ Below w.heap.size w w' := by
  have hb := belo1 w (.cells #[.int .i64 q, u] 25)
  have HB := hide hb
  obtain ⟨a, cc, rfl, -, -, hlen⟩ := h1.shape
  obtain ⟨b, bc, rfl, -, -, hlen2⟩ := h2.shape
  have c0 : (w.alloc (.cells #[.int .i64 q, .slice a cs.length cc] 25)).cell? ⟨w.heap.size, 0, none⟩ = some (.int .i64 q) := new_cells (cs := #[.int .i64 q, .slice a cs.length cc]) 0 _ rfl
  have c1 : (w.alloc (.cells #[.int .i64 q, .slice a cs.length cc] 25)).cell? ⟨w.heap.size, 1, none⟩ = some (.slice a cs.length cc) := new_cells (cs := #[.int .i64 q, .slice a cs.length cc]) 1 _ rfl
  have H1 := hide (h1.kept hb)
  have H2 := hide (h2.kept hb)
  have HV := hide (valid_any (q := q) (h1.kept hb))
  have hwe : (w.alloc (.cells #[.int .i64 q, .slice a cs.length cc] 25)).heap.size = w.heap.size + 1 := by simp
  clear h1 h2 hb
  cases hv : vldB q cs with
  | false =>
    have HN : Hid (fitB q cs p rs = false) := by show _ = _; unfold fitB; rw [hv]; rfl
    rw [hv] at HV
    go_enter Tryd.func22, Tryd.ntmps22
    go_wp2_with (go_at_call 8; refine HV.out.mono ?_; rintro e w2 ⟨rfl, h2⟩; have HB2 := hide (belot HB.out h2); clear h2)
    go_ret
    exact ⟨by rw [HN.out]; rfl, HB2.out⟩
  | true =>
    have HF := hide (fun V hV => fitCells_any (H1.out.kept hV) (H2.out.kept hV) (vldB_iff.1 hv).below (w := V))
    rw [hv] at HV
    by_cases hpq : p = q
    · have HN : Hid (fitB q cs p rs = fitCB cs rs) := by show _ = _; unfold fitB; rw [hv, hpq]; simp
      obtain ⟨f, hf⟩ : ∃ f, fitCB cs rs = f := ⟨_, rfl⟩
      rw [hf] at HF HN
      clear hf
      subst hpq
      cases f
      all_goals
        go_enter Tryd.func22, Tryd.ntmps22
        go_wp2_with (first | (go_at_call 8; refine HV.out.mono ?_; rintro e w2 ⟨rfl, h2⟩; have HB2 := hide (belot HB.out h2); have c0' := kept_cell h2 c0; have c1' := kept_cell h2 c1; have HF2 := hide (HF.out _ h2); clear h2 c0 c1) | (go_at_call 24; refine HF2.out.mono ?_; rintro e w3 ⟨rfl, rfl⟩))
        go_ret
        exact ⟨by rw [HN.out]; rfl, HB2.out⟩
    · have HN : Hid (fitB q cs p rs = false) := by show _ = _; unfold fitB; simp [hpq]
      have hpq1 : (p == q) = false := by simp [hpq]
      go_enter Tryd.func22, Tryd.ntmps22
      go_wp2_with (go_at_call 8; refine HV.out.mono ?_; rintro e w2 ⟨rfl, h2⟩; have HB2 := hide (belot HB.out h2); have c0' := kept_cell h2 c0; have c1' := kept_cell h2 c1; clear h2 c0 c1)
      go_ret
      exact ⟨by rw [HN.out]; rfl, HB2.out⟩
end Go.Proofs.YtgligipgjakecaaDoor
