/- edictlaw05.StoreFound returns true at all arities and lists of rows that are of bulk at most 1048576. -/
import Derived.Test.YtbmefnpilgdejaaStoreLaw9
namespace Go.Proofs.Ytbmefnpilgdejaa
set_option linter.unusedSimpArgs false
set_option linter.unusedVariables false
open Go.RowKit Go.Maps

theorem join_again (W T : List Rw) : joinP W (joinP W T) = joinP W T := by
  refine snoc_ind (P := fun T => joinP W (joinP W T) = joinP W T) (join_self W W fun r hr => hr) (fun T r ih => ?_) T
  rw [joinP_snoc]
  by_cases h : knownP (joinP W T) r = true
  · rw [show joinOne (joinP W T) r = joinP W T from by unfold joinOne; rw [if_pos h], ih]
  · have e : joinOne (joinP W T) r = joinP W T ++ [r] := by unfold joinOne; rw [if_neg h]
    rw [e, joinP_snoc, ih, e]

set_option maxRecDepth 100000 in
set_option maxHeartbeats 4000000 in
theorem storeFound_walk (aa : Option Addr) (al ac : Nat) (ar : List Int) (ba : Option Addr) (bc : Nat) (R : List Rw) (odd : Int) (w : World) (ha : IsInts w aa al ar) (hb : FreeRows w (fun _ => none) ba R.length R) (hB : R.length ≤ 1048576) (hodd : I64 odd) :
    Calls Try.prog 4 #[.slice aa al ac, .slice ba R.length bc, .int .i64 odd] w fun e w' => e = .returned (.bool true) ∧ Below w.heap.size w w' := by
  obtain ⟨j0, hj0, hy0, hy1, hy2⟩ := info_parts Try.infoInt5
  have HA := hide ha
  have HBt := hide hb
  have HFt := hide (fits_any (cap := ac) ha)
  have hl := ha.1
  have HOd := hide hodd
  obtain ⟨bl, hbl⟩ : ∃ bl, R.length = bl := ⟨_, rfl⟩
  rw [hbl] at HBt hB ⊢
  have HBl := hide hbl
  clear ha hb hodd hbl
  cases hf : fitsP ar with
  | false =>
    rw [hf] at HFt
    go_enter Try.func4, Try.ntmps4
    go_wp2_with (go_at_call 7; refine HFt.out.mono ?_; rintro e w1 ⟨rfl, h1⟩; have HB1 := hide h1; clear h1)
    go_ret
    exact ⟨rfl, HB1.out⟩
  | true =>
    rw [hf] at HFt
    have HF := hide hf
    have h128 := (fits_bounds hf).1
    clear hf
    go_enter Try.func4, Try.ntmps4
    go_upto_region 2 with (go_at_call 7; refine HFt.out.mono ?_; rintro e w1 ⟨rfl, h1⟩; have HB1 := hide h1; clear h1)
    refine (made_any (HA.out.kept HB1.out) HF.out).mono ?_
    rintro e w2 ⟨p, own, rfl, s2, t2, b2⟩
    have hK2 : Keeps w2 p own (ar ++ [0]) [lastR ar] 8 := ⟨s2, mayR_iff.2 (by simp only [List.mem_singleton]; rintro r rfl; exact mayLast)⟩
    have hBt1 : FreeRows w1 own ba bl R := (HBt.out.turn (A := fun _ => False) (own' := fun _ => none) (Turn.below HB1.out)).retag (fun k hk => by
      cases ho : own k with
      | none => rfl
      | some t => exact absurd (t2 k (by rw [ho]; simp)) (by omega))
    have hBt2 : FreeRows w2 own ba bl R := hBt1.turn (A := fun _ => False) (Turn.below b2)
    have hBa : Below w2.heap.size w2 (w2.alloc (.cells #[.int .i64 (al : Int), .slice none 0 0] 28)) := (Below.refl _ _).alloc (Nat.le_refl _) _
    have hW2 := free_one w2 s2.lim (q := (al : Int)) ⟨by omega, by omega⟩ (l := []) (a := none) (c := 0) ⟨⟨rfl, by decide, by simp, fun h => absurd h (by decide)⟩, fun h => absurd h (by decide)⟩
    have HW := hide hW2
    have HK := hide (hK2.below hBa)
    have HT := hide (show TagsFrom own w1.heap.size from t2)
    have HBt2 := hide (hBt2.turn (A := fun _ => False) (Turn.below hBa))
    have HB2 : Hid (Below w1.heap.size w1 (w2.alloc (.cells #[.int .i64 (al : Int), .slice none 0 0] 28))) := b2.trans (hBa.mono b2.size)
    have hlast : lastR ar = ((al : Int), []) := by unfold lastR; rw [hl]
    rw [hlast] at HK
    clear s2 t2 b2 hK2 hBt1 hBt2 hBa hW2 hlast HBt HFt
    go_wp2_with fail
    generalize w2.alloc (.cells #[.int .i64 (al : Int), .slice none 0 0] 28) = w3 at *
    refine (shaped_any (own := own) (HA.out.kept (HB1.out.trans (HB2.out.mono HB1.out.size))) HF.out HBt2.out HK.out.1.lim).mono ?_
    rintro e w4 ⟨v4, rfl, m4, h4⟩
    obtain ⟨ta, tc, rfl, -⟩ := m4.shape
    have hTl : (shapeP ar R).length = R.length := by unfold shapeP; rw [List.length_map]
    have HMay := hide (shape_may HF.out R)
    obtain ⟨T, hT⟩ : ∃ T, shapeP ar R = T := ⟨_, rfl⟩
    rw [hT] at hTl HMay m4 ⊢
    have hTle : T.length ≤ bl := by have := HBl.out; omega
    have HM4 := hide m4
    have HB4 := hide h4
    have HBt := hide HBt2.out
    clear hT hTl m4 h4 HBt2
    go_wp2_with fail
    refine (joined_any (own := own) (HW.out.below HB4.out) (HM4.out.free (by omega)) (fun kk hkk => Nat.lt_of_lt_of_le (HK.out.1.lim kk hkk) HB4.out.size) (by omega)).mono ?_
    rintro e w5 ⟨v5, rfl, m5, h5⟩
    obtain ⟨ja, jc, rfl, -⟩ := m5.shape
    have hB5 : Below w3.heap.size w3 w5 := HB4.out.trans (h5.mono HB4.out.size)
    obtain ⟨-, hjm⟩ := add_join (ar ++ [0]) [((al : Int), [])] T HK.out.2 HMay.out
    have hjl := joinP_len [((al : Int), [])] T
    have hag := join_again [((al : Int), [])] T
    obtain ⟨W, hW⟩ : ∃ W, joinP [((al : Int), [])] T = W := ⟨_, rfl⟩
    rw [hW] at hjm hjl hag m5 ⊢
    obtain ⟨hjoin, -⟩ := add_join (ar ++ [0]) [((al : Int), [])] W HK.out.2 hjm
    rw [hag] at hjoin
    have hjl1 := hjl.1
    have hjl2 := hjl.2
    simp only [List.length_singleton] at hjl1 hjl2
    have HAd := hide (add_ok (cap := jc) (HK.out.1.below hB5) (m5.free (by omega)) hjm (by omega))
    rw [hjoin, List.length_map, List.length_map, List.length_singleton] at HAd
    obtain ⟨n, hn⟩ : ∃ n, W.length = n := ⟨_, rfl⟩
    rw [hn] at HAd hjl1 hjl2 m5 ⊢
    have hcmp : (((n - 1 : Nat) : Int) != (n : Int) - 1) = false := by simp; omega
    have HN := hide hn
    have HM5 := hide m5
    have HB5 := hide (HB2.out.trans (hB5.mono HB2.out.size))
    have HJm := hide hjm
    clear hn m5 h5 hB5 hjm hjl hag hW hjoin HMay HM4 HW
    go_wp2_with fail
    refine HAd.out.mono ?_
    rintro e w6 ⟨rfl, own6, s6, t6⟩
    obtain ⟨-, g2⟩ := t6.from HT.out HB5.out.size
    have HK6 : Hid (Keeps w6 p own6 (ar ++ [0]) W (8 + 8 * n)) := ⟨s6, HJm.out⟩
    have HW6 : Hid (FreeRows w6 own6 ja n W) := (HM5.out.turn t6).free (by rw [HN.out]; omega)
    have HB6 := hide (HB5.out.trans g2)
    have HHo := hide (holds_st (wc := jc) (pr := al + 1) HK6.out (by omega) HW6.out (by omega))
    rw [show ((al + 1 : Nat) : Int) = (al : Int) + 1 from by omega] at HHo
    clear s6 t6 g2 HAd HM5 HB5 HK HT HBt HA HB4 HB2
    go_upto_region 11 with (go_at_call 12; refine HHo.out.mono ?_; rintro e w7 ⟨rfl, h7⟩; have HB7 := hide (HB6.out.trans (h7.mono HB6.out.size)); have HK7 := hide (HK6.out.below h7); have HW7 := hide (HW6.out.below h7); clear h7)
    clear HHo HB6 HK6 HW6
    go_loopw [11, 12, 13, 14, 15, 16] (fun i _ _ _ _ _ wl => ∃ k : Nat, k ≤ n ∧ i = .int .i64 k ∧ Hid (Below w7.heap.size w7 wl)) (fun i _ _ _ _ _ _ => n - (intOf i).toNat)
    case atStart => exact ⟨0, by omega, rfl, Below.refl _ _⟩
    case round =>
      obtain ⟨k, hk, rfl, HBo⟩ := hrel
      generalize wr = wo at *
      by_cases hlt : k < n
      · have hi : (k : Int) < (n : Int) := by omega
        have hi0 : (0 : Int) ≤ (k : Int) := by omega
        obtain ⟨b1, o1, rfl, -, hr1⟩ := HW7.out.2.2.2 (by omega)
        obtain ⟨r, hr⟩ : ∃ r, W[k]? = some r := ⟨_, List.getElem?_eq_getElem (by rw [HN.out]; omega)⟩
        obtain ⟨y0, ra, rc, y1, hf1⟩ := hr1 k r hr
        have x0 := kept_cell HBo.out y0
        have x1 := kept_cell HBo.out y1
        have HR := hide hr
        have HRs := hide hr1
        have HF1 := hide (hf1.1.kept HBo.out)
        clear y0 y1 hf1 hr hr1
        go_upto_region 14 with fail
        obtain ⟨Y, hY⟩ : ∃ Y, Y = wo.alloc (.cells #[.int .i64 r.1, .slice ra r.2.length rc] 28) := ⟨_, rfl⟩
        have hBY : Below wo.heap.size wo Y := by rw [hY]; exact (Below.refl _ _).alloc (Nat.le_refl _) _
        have z0 : Y.cell? ⟨wo.heap.size, 0, none⟩ = some (.int .i64 r.1) := by rw [hY]; simp
        have z1 : Y.cell? ⟨wo.heap.size, 1, none⟩ = some (.slice ra r.2.length rc) := by rw [hY]; simp
        have HY7 := hide (HBo.out.trans (hBY.mono HBo.out.size))
        have HFY := hide (HF1.out.kept hBY)
        have HZ0 := hide z0
        have HZ1 := hide z1
        obtain ⟨m, hm⟩ : ∃ m, r.2.length = m := ⟨_, rfl⟩
        have hm8 : m ≤ 8 := by
          have hrr := HK7.out.rows
          obtain ⟨h1, -, -⟩ := hrr.2 r (List.mem_of_getElem? HR.out)
          obtain ⟨q, -, ha, -⟩ := mayP_spec h1
          have := hrr.1 _ (List.mem_of_getElem? ha)
          omega
        have HMl := hide hm
        rw [← hY]
        rw [hm] at HZ1 HFY ⊢
        clear hY hBY z0 z1 x0 x1 HF1 hm
        obtain ⟨bx, hbx⟩ : ∃ bx, wo.heap.size = bx := ⟨_, rfl⟩
        rw [hbx] at HZ0 HZ1 ⊢
        have HBx := hide hbx
        clear hbx
        go_wp2
        go_loopw [13, 14, 15, 16] (fun j _ _ _ wl => ∃ k : Nat, k ≤ m ∧ j = .int .i64 k ∧ Hid (Below Y.heap.size Y wl)) (fun j _ _ _ _ => m - (intOf j).toNat)
        case atStart => exact ⟨0, by omega, rfl, Below.refl _ _⟩
        case round =>
          obtain ⟨j, hj, rfl, HBm⟩ := hrel
          generalize wr = wm at *
          have x0 := kept_cell HBm.out HZ0.out
          have x1 := kept_cell HBm.out HZ1.out
          by_cases hlt2 : j < m
          · have hj2 : (j : Int) < (m : Int) := by omega
            have hjz : (0 : Int) ≤ (j : Int) := by omega
            obtain ⟨x, hx⟩ : ∃ x, r.2[j]? = some x := ⟨_, List.getElem?_eq_getElem (by rw [HMl.out]; omega)⟩
            have HX := hide hx
            obtain ⟨rb, ro, rfl, hrc⟩ := HFY.out.2.2.2 (by omega)
            have HRj := hide (kept_cell HBm.out (hrc j x hx))
            have HB7m := hide (HY7.out.trans (HBm.out.mono HY7.out.size))
            clear hx hrc
            go_wp2
            go_loopw [14, 15, 16] (fun wt ot kk wl => ∃ i : Nat, i ≤ n ∧ kk = .int .i64 i ∧ ot = .bool ((W.take i).any (hasAt r.1 j odd)) ∧ Hid (wl.ownsRow wm.heap.size 3 1 wt (whP (W.take i) r.1 j x).length (ints (whP (W.take i) r.1 j x))) ∧ Hid (Below wm.heap.size wm wl)) (fun _ _ kk _ => n - (intOf kk).toNat)
            case atStart => exact ⟨0, by omega, rfl, rfl, World.ownsRow_nil _ _ _ _, Below.refl _ _⟩
            case round =>
              obtain ⟨i, hi2, rfl, rfl, HO, HBi⟩ := hrel
              obtain ⟨oa, oc, rfl, -, -, -⟩ := own_shape6 HO.out
              have HBy := hide (HBm.out.trans (HBi.out.mono HBm.out.size))
              have HB7i := hide (HY7.out.trans (HBy.out.mono HY7.out.size))
              by_cases hlt3 : i < n
              · -- INNER
                have hi3 : (i : Int) < (n : Int) := by omega
                have hi0 : (0 : Int) ≤ (i : Int) := by omega
                obtain ⟨s, hs⟩ : ∃ s, W[i]? = some s := ⟨_, List.getElem?_eq_getElem (by rw [HN.out]; omega)⟩
                obtain ⟨y0, sa, sc, y1, hf2⟩ := HRs.out i s hs
                have HQ0 := hide (kept_cell HB7m.out y0)
                have HQ1 := hide (kept_cell HB7m.out y1)
                have HIs := hide (hf2.1.kept HB7m.out)
                have hil : (W.take i).length = i := by rw [List.length_take, HN.out]; omega
                have HPs : Hid (whP (W.take (i + 1)) r.1 j x = if hasAt r.1 j x s = true then whP (W.take i) r.1 j x ++ [(i : Int)] else whP (W.take i) r.1 j x) := by
                  show _ = _
                  rw [List.take_add_one, hs]
                  have := whP_snoc (W.take i) s r.1 j x
                  rw [hil] at this
                  exact this
                have HAn : Hid ((W.take (i + 1)).any (hasAt r.1 j odd) = ((W.take i).any (hasAt r.1 j odd) || hasAt r.1 j odd s)) := by
                  show _ = _
                  rw [List.take_add_one, hs, List.any_append]
                  simp
                have hpl := (whP_len (W.take i) r.1 j x).1
                rw [hil] at hpl
                have HMs := hide (fun h : s.1 = r.1 => may_len (HK7.out.rows.2 s (List.mem_of_getElem? hs)).1 (HK7.out.rows.2 r (List.mem_of_getElem? HR.out)).1 h)
                clear y0 y1 hf2 hs hil
                generalize whP (W.take i) r.1 j x = P0 at *
                generalize hot : (W.take i).any (hasAt r.1 j odd) = ot at *
                clear hot
                obtain ⟨s1, s2⟩ := s
                simp only at HQ0 HQ1 HIs HMs
                obtain ⟨xs, hxs⟩ : ∃ xs, ints P0 = xs := ⟨_, rfl⟩
                have HXs := hide hxs
                obtain ⟨pl, hpl2⟩ : ∃ m, P0.length = m := ⟨_, rfl⟩
                have HPl := hide hpl2
                rw [hxs, hpl2] at HO
                rw [hpl2] at hpl ⊢
                clear hxs hpl2
                by_cases hq : s1 = r.1
                · have hq2 : (s1 == r.1) = true := by simpa using hq
                  have hsl := HMs.out hq
                  rw [HMl.out] at hsl
                  obtain ⟨y, hy⟩ : ∃ y, s2[j]? = some y := ⟨_, List.getElem?_eq_getElem (by omega)⟩
                  obtain ⟨sb, so, rfl, hsj⟩ := HIs.out.2.2.2 (by omega)
                  have HSj := hide (hsj j y hy)
                  have e1 : ∀ v : Int, hasAt r.1 j v (s1, s2) = decide (y = v) := fun v => by simp [hasAt, hq, hy]
                  rw [e1] at HPs HAn
                  rw [hsl] at HQ1
                  have hlj : (j : Int) < (m : Int) := by omega
                  clear hq hy hsj e1 HIs HMs hsl
                  by_cases hyx : y = x
                  · have hyx2 : (y == x) = true := by simpa using hyx
                    rw [if_pos (by simpa using hyx)] at HPs
                    clear hyx

                    have c0 := over_cell (kept_cell HBi.out x0)
                    have c1 := over_cell (kept_cell HBi.out x1)
                    have c2 := over_cell (kept_cell HBi.out HQ0.out)

                    have c3 := over_cell (kept_cell HBi.out HQ1.out)
                    have c4 := over_cell (kept_cell HBi.out HRj.out)
                    have c5 := over_cell (kept_cell HBi.out HSj.out)
                    go_wp2
                    refine wp_region_over (fun V => V = wr) (by kernel_rfl) (by kernel_rfl) rfl ?_
                    rintro V rfl
                    repeat (go_big_quiet_step (fail))
                    refine wpQuiet_nil ?_
                    rintro _ ⟨z, rfl⟩
                    clear c0 c1 c2 c3 c4 c5
                    have HOz := hide (own_kept6 HO.out (over_below V z))
                    have HBz := hide (HBi.out.trans ((over_below V z).mono HBi.out.size))
                    generalize over V z = Vz at *
                    go_wp2_with (first
                      | (at_builtin; refine wpList_append_any rfl _ _ 22 rfl wm.heap.size 3 j0 (.int .i64 0) 1 8 Try.underlying22 hj0 hy0 hy1 hy2 rfl (by decide) _ pl xs rfl (own_kept6 HOz.out ((Below.refl _ _).alloc (Nat.le_refl _) _)) (some ⟨Vz.heap.size, 0, none⟩) 1 1 [.int .i64 (i : Int)] rfl (fun h => by cases h) rfl (fun ad h => by cases h; exact World.news_of_block (cs := #[.int .i64 (i : Int)]) (t := 3) (fr := (0, 0)) (heap_alloc_new Vz _)) (by simp [Value.oneCell']) (by unfold maxLen; omega) (by omega) (by simp; have := HBz.out.size; omega) ?_))
                    intro v3 w3 hown3 hgrow
                    have hB3 : Below wm.heap.size wm w3 := below_grown (HBz.out.alloc HBz.out.size _) (own_kept6 HOz.out ((Below.refl _ _).alloc (Nat.le_refl _) (.cells #[.int .i64 (i : Int)] 3))) hgrow (by simp; have := HBz.out.size; omega)
                    have HO3 : Hid (w3.ownsRow wm.heap.size 3 1 v3 (whP (W.take (i + 1)) r.1 j x).length (ints (whP (W.take (i + 1)) r.1 j x))) := by
                      show World.ownsRow _ _ _ _ _ _ _
                      rw [HPs.out, List.length_append, HPl.out, show ints (P0 ++ [(i : Int)]) = ints P0 ++ [.int .i64 (i : Int)] from by simp [ints], HXs.out]
                      exact hown3
                    have HB3 := hide hB3
                    clear hown3 hgrow hB3
                    by_cases hyo : y = odd
                    · have hyo2 : (y == odd) = true := by simpa using hyo
                      rw [show decide (y = odd) = true from by simpa using hyo] at HAn
                      clear hyo
                      cases ot with
                      | true =>
                        have c0 := over_cell (kept_cell HB3.out x0)
                        have c1 := over_cell (kept_cell HB3.out x1)
                        have c2 := over_cell (kept_cell HB3.out HQ0.out)

                        have c3 := over_cell (kept_cell HB3.out HQ1.out)
                        have c4 := over_cell (kept_cell HB3.out HRj.out)
                        have c5 := over_cell (kept_cell HB3.out HSj.out)
                        go_wp2
                        refine wp_region_over (fun V => V = w3) (by kernel_rfl) (by kernel_rfl) rfl ?_
                        rintro V rfl
                        repeat (go_big_quiet_step (fail))
                        refine wpQuiet_nil ?_
                        rintro _ ⟨z, rfl⟩
                        clear c0 c1 c2 c3 c4 c5

                        have HO4 := hide (own_kept6 HO3.out (over_below V z))
                        have HB4 := hide (HB3.out.trans ((over_below V z).mono HB3.out.size))
                        generalize over V z = w4 at *
                        go_wp2
                        go_roundw
                        case rel => exact ⟨i + 1, by omega, by go_num, by rw [HAn.out]; rfl, HO4.out, HB4.out⟩
                        case measure => simp [intOf]; omega
                      | false =>
                        have c0 := over_cell (kept_cell HB3.out x0)
                        have c1 := over_cell (kept_cell HB3.out x1)
                        have c2 := over_cell (kept_cell HB3.out HQ0.out)

                        have c3 := over_cell (kept_cell HB3.out HQ1.out)
                        have c4 := over_cell (kept_cell HB3.out HRj.out)
                        have c5 := over_cell (kept_cell HB3.out HSj.out)
                        go_wp2
                        refine wp_region_over (fun V => V = w3) (by kernel_rfl) (by kernel_rfl) rfl ?_
                        rintro V rfl
                        repeat (go_big_quiet_step (fail))
                        refine wpQuiet_nil ?_
                        rintro _ ⟨z, rfl⟩
                        clear c0 c1 c2 c3 c4 c5

                        have HO4 := hide (own_kept6 HO3.out (over_below V z))
                        have HB4 := hide (HB3.out.trans ((over_below V z).mono HB3.out.size))
                        generalize over V z = w4 at *
                        go_wp2
                        go_roundw
                        case rel => exact ⟨i + 1, by omega, by go_num, by rw [HAn.out]; rfl, HO4.out, HB4.out⟩
                        case measure => simp [intOf]; omega
                    · have hyo2 : (y == odd) = false := by simpa using hyo
                      rw [show decide (y = odd) = false from by simpa using hyo] at HAn
                      clear hyo
                      cases ot with
                      | true =>
                        have c0 := over_cell (kept_cell HB3.out x0)
                        have c1 := over_cell (kept_cell HB3.out x1)
                        have c2 := over_cell (kept_cell HB3.out HQ0.out)

                        have c3 := over_cell (kept_cell HB3.out HQ1.out)
                        have c4 := over_cell (kept_cell HB3.out HRj.out)
                        have c5 := over_cell (kept_cell HB3.out HSj.out)
                        go_wp2
                        refine wp_region_over (fun V => V = w3) (by kernel_rfl) (by kernel_rfl) rfl ?_
                        rintro V rfl
                        repeat (go_big_quiet_step (fail))
                        refine wpQuiet_nil ?_
                        rintro _ ⟨z, rfl⟩
                        clear c0 c1 c2 c3 c4 c5

                        have HO4 := hide (own_kept6 HO3.out (over_below V z))
                        have HB4 := hide (HB3.out.trans ((over_below V z).mono HB3.out.size))
                        generalize over V z = w4 at *
                        go_wp2
                        go_roundw
                        case rel => exact ⟨i + 1, by omega, by go_num, by rw [HAn.out]; rfl, HO4.out, HB4.out⟩
                        case measure => simp [intOf]; omega
                      | false =>
                        have c0 := over_cell (kept_cell HB3.out x0)
                        have c1 := over_cell (kept_cell HB3.out x1)
                        have c2 := over_cell (kept_cell HB3.out HQ0.out)

                        have c3 := over_cell (kept_cell HB3.out HQ1.out)
                        have c4 := over_cell (kept_cell HB3.out HRj.out)
                        have c5 := over_cell (kept_cell HB3.out HSj.out)
                        go_wp2
                        refine wp_region_over (fun V => V = w3) (by kernel_rfl) (by kernel_rfl) rfl ?_
                        rintro V rfl
                        repeat (go_big_quiet_step (fail))
                        refine wpQuiet_nil ?_
                        rintro _ ⟨z, rfl⟩
                        clear c0 c1 c2 c3 c4 c5

                        have HO4 := hide (own_kept6 HO3.out (over_below V z))
                        have HB4 := hide (HB3.out.trans ((over_below V z).mono HB3.out.size))
                        generalize over V z = w4 at *
                        go_wp2
                        go_roundw
                        case rel => exact ⟨i + 1, by omega, by go_num, by rw [HAn.out]; rfl, HO4.out, HB4.out⟩
                        case measure => simp [intOf]; omega
                  · have hyx2 : (y == x) = false := by simpa using hyx
                    rw [if_neg (by simpa using hyx)] at HPs
                    clear hyx

                    have c0 := over_cell (kept_cell HBi.out x0)
                    have c1 := over_cell (kept_cell HBi.out x1)
                    have c2 := over_cell (kept_cell HBi.out HQ0.out)

                    have c3 := over_cell (kept_cell HBi.out HQ1.out)
                    have c4 := over_cell (kept_cell HBi.out HRj.out)
                    have c5 := over_cell (kept_cell HBi.out HSj.out)
                    go_wp2
                    refine wp_region_over (fun V => V = wr) (by kernel_rfl) (by kernel_rfl) rfl ?_
                    rintro V rfl
                    repeat (go_big_quiet_step (fail))
                    refine wpQuiet_nil ?_
                    rintro _ ⟨z, rfl⟩
                    clear c0 c1 c2 c3 c4 c5
                    have HO3 : Hid ((over V z).ownsRow wm.heap.size 3 1 (.slice oa pl oc) (whP (W.take (i + 1)) r.1 j x).length (ints (whP (W.take (i + 1)) r.1 j x))) := by
                      show World.ownsRow _ _ _ _ _ _ _
                      rw [HPs.out, HPl.out, HXs.out]
                      exact own_kept6 HO.out (over_below V z)
                    have HB3 := hide (HBi.out.trans ((over_below V z).mono HBi.out.size))
                    generalize over V z = w3 at *
                    by_cases hyo : y = odd
                    · have hyo2 : (y == odd) = true := by simpa using hyo
                      rw [show decide (y = odd) = true from by simpa using hyo] at HAn
                      clear hyo
                      cases ot with
                      | true =>
                        have c0 := over_cell (kept_cell HB3.out x0)
                        have c1 := over_cell (kept_cell HB3.out x1)
                        have c2 := over_cell (kept_cell HB3.out HQ0.out)

                        have c3 := over_cell (kept_cell HB3.out HQ1.out)
                        have c4 := over_cell (kept_cell HB3.out HRj.out)
                        have c5 := over_cell (kept_cell HB3.out HSj.out)
                        go_wp2
                        refine wp_region_over (fun V => V = w3) (by kernel_rfl) (by kernel_rfl) rfl ?_
                        rintro V rfl
                        repeat (go_big_quiet_step (fail))
                        refine wpQuiet_nil ?_
                        rintro _ ⟨z, rfl⟩
                        clear c0 c1 c2 c3 c4 c5

                        have HO4 := hide (own_kept6 HO3.out (over_below V z))
                        have HB4 := hide (HB3.out.trans ((over_below V z).mono HB3.out.size))
                        generalize over V z = w4 at *
                        go_wp2
                        go_roundw
                        case rel => exact ⟨i + 1, by omega, by go_num, by rw [HAn.out]; rfl, HO4.out, HB4.out⟩
                        case measure => simp [intOf]; omega
                      | false =>
                        have c0 := over_cell (kept_cell HB3.out x0)
                        have c1 := over_cell (kept_cell HB3.out x1)
                        have c2 := over_cell (kept_cell HB3.out HQ0.out)

                        have c3 := over_cell (kept_cell HB3.out HQ1.out)
                        have c4 := over_cell (kept_cell HB3.out HRj.out)
                        have c5 := over_cell (kept_cell HB3.out HSj.out)
                        go_wp2
                        refine wp_region_over (fun V => V = w3) (by kernel_rfl) (by kernel_rfl) rfl ?_
                        rintro V rfl
                        repeat (go_big_quiet_step (fail))
                        refine wpQuiet_nil ?_
                        rintro _ ⟨z, rfl⟩
                        clear c0 c1 c2 c3 c4 c5

                        have HO4 := hide (own_kept6 HO3.out (over_below V z))
                        have HB4 := hide (HB3.out.trans ((over_below V z).mono HB3.out.size))
                        generalize over V z = w4 at *
                        go_wp2
                        go_roundw
                        case rel => exact ⟨i + 1, by omega, by go_num, by rw [HAn.out]; rfl, HO4.out, HB4.out⟩
                        case measure => simp [intOf]; omega
                    · have hyo2 : (y == odd) = false := by simpa using hyo
                      rw [show decide (y = odd) = false from by simpa using hyo] at HAn
                      clear hyo
                      cases ot with
                      | true =>
                        have c0 := over_cell (kept_cell HB3.out x0)
                        have c1 := over_cell (kept_cell HB3.out x1)
                        have c2 := over_cell (kept_cell HB3.out HQ0.out)

                        have c3 := over_cell (kept_cell HB3.out HQ1.out)
                        have c4 := over_cell (kept_cell HB3.out HRj.out)
                        have c5 := over_cell (kept_cell HB3.out HSj.out)
                        go_wp2
                        refine wp_region_over (fun V => V = w3) (by kernel_rfl) (by kernel_rfl) rfl ?_
                        rintro V rfl
                        repeat (go_big_quiet_step (fail))
                        refine wpQuiet_nil ?_
                        rintro _ ⟨z, rfl⟩
                        clear c0 c1 c2 c3 c4 c5

                        have HO4 := hide (own_kept6 HO3.out (over_below V z))
                        have HB4 := hide (HB3.out.trans ((over_below V z).mono HB3.out.size))
                        generalize over V z = w4 at *
                        go_wp2
                        go_roundw
                        case rel => exact ⟨i + 1, by omega, by go_num, by rw [HAn.out]; rfl, HO4.out, HB4.out⟩
                        case measure => simp [intOf]; omega
                      | false =>
                        have c0 := over_cell (kept_cell HB3.out x0)
                        have c1 := over_cell (kept_cell HB3.out x1)
                        have c2 := over_cell (kept_cell HB3.out HQ0.out)

                        have c3 := over_cell (kept_cell HB3.out HQ1.out)
                        have c4 := over_cell (kept_cell HB3.out HRj.out)
                        have c5 := over_cell (kept_cell HB3.out HSj.out)
                        go_wp2
                        refine wp_region_over (fun V => V = w3) (by kernel_rfl) (by kernel_rfl) rfl ?_
                        rintro V rfl
                        repeat (go_big_quiet_step (fail))
                        refine wpQuiet_nil ?_
                        rintro _ ⟨z, rfl⟩
                        clear c0 c1 c2 c3 c4 c5

                        have HO4 := hide (own_kept6 HO3.out (over_below V z))
                        have HB4 := hide (HB3.out.trans ((over_below V z).mono HB3.out.size))
                        generalize over V z = w4 at *
                        go_wp2
                        go_roundw
                        case rel => exact ⟨i + 1, by omega, by go_num, by rw [HAn.out]; rfl, HO4.out, HB4.out⟩
                        case measure => simp [intOf]; omega
                · have hq2 : (s1 == r.1) = false := by simpa using hq
                  have e1 : ∀ v : Int, hasAt r.1 j v (s1, s2) = false := fun v => by simp [hasAt, hq]
                  rw [e1] at HPs HAn
                  rw [if_neg (by simp)] at HPs
                  clear hq e1 HIs HMs HQ1

                  have c0 := over_cell (kept_cell HBi.out x0)
                  have c1 := over_cell (kept_cell HBi.out x1)
                  have c2 := over_cell (kept_cell HBi.out HQ0.out)
                  go_wp2
                  refine wp_region_over (fun V => V = wr) (by kernel_rfl) (by kernel_rfl) rfl ?_
                  rintro V rfl
                  repeat (go_big_quiet_step (fail))
                  refine wpQuiet_nil ?_
                  rintro _ ⟨z, rfl⟩
                  clear c0 c1 c2 
                  have HO3 : Hid ((over V z).ownsRow wm.heap.size 3 1 (.slice oa pl oc) (whP (W.take (i + 1)) r.1 j x).length (ints (whP (W.take (i + 1)) r.1 j x))) := by
                    show World.ownsRow _ _ _ _ _ _ _
                    rw [HPs.out, HPl.out, HXs.out]
                    exact own_kept6 HO.out (over_below V z)
                  have HB3 := hide (HBi.out.trans ((over_below V z).mono HBi.out.size))
                  generalize over V z = w3 at *
                  cases ot with
                  | true =>
                    have c0 := over_cell (kept_cell HB3.out x0)
                    have c1 := over_cell (kept_cell HB3.out x1)
                    have c2 := over_cell (kept_cell HB3.out HQ0.out)
                    go_wp2
                    refine wp_region_over (fun V => V = w3) (by kernel_rfl) (by kernel_rfl) rfl ?_
                    rintro V rfl
                    repeat (go_big_quiet_step (fail))
                    refine wpQuiet_nil ?_
                    rintro _ ⟨z, rfl⟩
                    clear c0 c1 c2 

                    have HO4 := hide (own_kept6 HO3.out (over_below V z))
                    have HB4 := hide (HB3.out.trans ((over_below V z).mono HB3.out.size))
                    generalize over V z = w4 at *
                    go_wp2
                    go_roundw
                    case rel => exact ⟨i + 1, by omega, by go_num, by rw [HAn.out]; rfl, HO4.out, HB4.out⟩
                    case measure => simp [intOf]; omega
                  | false =>
                    have c0 := over_cell (kept_cell HB3.out x0)
                    have c1 := over_cell (kept_cell HB3.out x1)
                    have c2 := over_cell (kept_cell HB3.out HQ0.out)
                    go_wp2
                    refine wp_region_over (fun V => V = w3) (by kernel_rfl) (by kernel_rfl) rfl ?_
                    rintro V rfl
                    repeat (go_big_quiet_step (fail))
                    refine wpQuiet_nil ?_
                    rintro _ ⟨z, rfl⟩
                    clear c0 c1 c2 

                    have HO4 := hide (own_kept6 HO3.out (over_below V z))
                    have HB4 := hide (HB3.out.trans ((over_below V z).mono HB3.out.size))
                    generalize over V z = w4 at *
                    go_wp2
                    go_roundw
                    case rel => exact ⟨i + 1, by omega, by go_num, by rw [HAn.out]; rfl, HO4.out, HB4.out⟩
                    case measure => simp [intOf]; omega
              · -- BEHIND
                obtain rfl : i = n := by omega
                have hi3 : ¬ (i : Int) < (i : Int) := by omega
                have hfull : W.take i = W := List.take_of_length_le (by rw [HN.out]; exact Nat.le_refl _)
                rw [hfull] at HO ⊢
                have hpl := whP_len W r.1 j x
                have hrr := HK7.out.rows.2 r (List.mem_of_getElem? HR.out)
                have HIx := hide (hrr.2.2 x (List.mem_of_getElem? HX.out))
                have HIr := hide hrr.2.1
                have HWh := hide (fun V (hV : Below wr.heap.size wr V) => where_st (HK7.out.below (HB7i.out.trans (hV.mono HB7i.out.size))) (by omega) HIr.out (j := (j : Int)) ⟨by omega, by omega⟩ HIx.out)
                have HIn : Hid (IsInts wr oa (whP W r.1 j x).length (whP W r.1 j x)) := own_isInts HO.out (fun y hy => by have := hpl.2 y hy; rw [HN.out] at this; exact ⟨by omega, by omega⟩) (by have := hpl.1; rw [HN.out] at this; omega)
                have HNone := hide (whP_none W r.1 j odd)
                have c0 := kept_cell HBi.out x0
                have c1 := kept_cell HBi.out x1
                have c2 := kept_cell HBi.out HRj.out
                clear hfull hpl hrr HO
                generalize whP W r.1 j x = P0 at *
                obtain ⟨pl, hpl⟩ : ∃ pl, P0.length = pl := ⟨_, rfl⟩
                rw [hpl] at HIn HWh ⊢
                clear hpl
                generalize W.any (hasAt r.1 j odd) = ot at *
                go_wp2
                go_region_held3 (fun w' => w'.cell? ⟨bx, 0, none⟩ = some (.int .i64 r.1) ∧ w'.cell? ⟨bx, 1, none⟩ = some (.slice (some ⟨rb, ro, none⟩) m rc) ∧ w'.cell? ⟨rb, ro + j, none⟩ = some (.int .i64 x))
                  (first
                    | exact hS3
                    | exact hS4
                    | (go_keep; done))
                  (first
                    | (go_at_call 14; refine (HWh.out _ (below_drewN _ wr 1)).mono ?_; rintro e w3 ⟨fa, fc, rfl, f1, f2⟩; have hb3 : Below wr.heap.size wr w3 := (below_drewN _ wr 1).trans f2; have hS3 := And.intro (kept_cell hb3 c0) (And.intro (kept_cell hb3 c1) (kept_cell hb3 c2)); have HEq := hide (equalInts_any (c1 := fc) (c2 := oc) f1 (HIn.out.kept hb3)); have HB3 := hide hb3; clear f1 f2 hb3)
                    | (go_at_call 13; rw [beq_self_eq_true] at HEq; refine HEq.out.mono ?_; rintro e w4 ⟨rfl, h4⟩; have hb4 : Below wr.heap.size wr w4 := HB3.out.trans (h4.mono HB3.out.size); have hS4 := And.intro (kept_cell hb4 c0) (And.intro (kept_cell hb4 c1) (kept_cell hb4 c2)); have HB4 := hide hb4; clear h4 hb4))
                have HBy4 := hide (HBy.out.trans (HB4.out.mono HBy.out.size))
                clear c0 c1 c2 HWh HIn HEq HB3
                cases ot with
                | true =>
                  go_wp2
                  go_roundw
                  case rel => exact ⟨j + 1, by omega, by go_num, HBy4.out⟩
                  case measure => simp [intOf]; omega
                | false =>
                  have c0 := kept_cell HBy4.out HZ0.out
                  have HWo := hide (where_st (HK7.out.below (HY7.out.trans (HBy4.out.mono HY7.out.size))) (by omega) HIr.out (j := (j : Int)) ⟨by omega, by omega⟩ HOd.out)
                  rw [HNone.out rfl] at HWo
                  go_wp2_with (go_at_call 14; refine HWo.out.mono ?_; rintro e w5 ⟨ga, gc, rfl, -, h5⟩; have HB5 := hide (HBy4.out.trans (h5.mono HBy4.out.size)); clear h5)
                  go_roundw
                  case rel => exact ⟨j + 1, by omega, by go_num, HB5.out⟩
                  case measure => simp [intOf]; omega
          · -- THE PLACES ARE DONE
            obtain rfl : j = m := by omega
            have hj2 : ¬ (j : Int) < (j : Int) := by omega
            have hrr := HK7.out.rows
            have hrm := List.mem_of_getElem? HR.out
            have HWe := hide (fun V (hV : Below w7.heap.size w7 V) => where_st (HK7.out.below hV) (by omega) (hrr.2 r hrm).2.1 (j := (j : Int)) ⟨by omega, by omega⟩ HOd.out)
            have HWn := hide (fun V (hV : Below w7.heap.size w7 V) => where_st (HK7.out.below hV) (by omega) (hrr.2 r hrm).2.1 (j := -1) ⟨by omega, by omega⟩ HOd.out)
            have he := whP_end (fun r hr => (hrr.2 r hr).1) hrm odd
            rw [HMl.out] at he
            rw [he] at HWe
            rw [whP_neg] at HWn
            have HB7m := hide (HY7.out.trans (HBm.out.mono HY7.out.size))
            clear he hrr hrm
            go_wp2_with (first
              | (go_at_call 14; refine (HWe.out wm HB7m.out).mono ?_; rintro e w3 ⟨ga, gc, rfl, -, h3⟩; have y0 := kept_cell h3 x0; have HB3 := hide (HBm.out.trans (h3.mono HBm.out.size)); have HB73 := hide (HB7m.out.trans (h3.mono HB7m.out.size)); clear h3 HWe)
              | (go_at_call 14; refine (HWn.out w3 HB73.out).mono ?_; rintro e w4 ⟨ga, gc, rfl, -, h4⟩; have HB74 := hide (HB73.out.trans (h4.mono HB73.out.size)); clear h4))
            go_roundw
            case rel => exact ⟨k + 1, by omega, by go_num, HB74.out⟩
            case measure => simp [intOf]; omega
      · -- THE ROWS ARE DONE
        obtain rfl : k = n := by omega
        have hi : ¬ (k : Int) < (k : Int) := by omega
        go_wp2
        go_ret
        exact ⟨rfl, HB1.out.trans ((HB7.out.trans (HBo.out.mono HB7.out.size)).mono HB1.out.size)⟩
end Go.Proofs.Ytbmefnpilgdejaa
