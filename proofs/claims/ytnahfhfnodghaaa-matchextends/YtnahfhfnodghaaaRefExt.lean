/- What the document's Extend answers. -/
import Derived.Test.YtnahfhfnodghaaaMatchExt
namespace Go.Proofs.Ytnahfhfnodghaaa
set_option linter.unusedSimpArgs false
set_option linter.unusedVariables false
open Go.RowKit

theorem extend_bad {ss : List Slt} {args sub : List Int} (hl : ss.length = args.length) {k : Nat} {s : Slt} {a : Int} (hs : ss[k]? = some s) (ha : args[k]? = some a) (hb : badAt (s, a) = true) : extendP ss args sub = none := by
  unfold extendP
  rw [if_pos hl, if_pos]
  exact List.any_eq_true.2 ⟨(s, a), List.mem_iff_getElem?.2 ⟨k, by rw [List.getElem?_zip_eq_some]; exact ⟨hs, ha⟩⟩, hb⟩

set_option maxRecDepth 100000 in
set_option maxHeartbeats 2000000 in
theorem rextend_any {w : World} {q : Int} {pa aa sa : Option Addr} {pl pc al ac sl sc : Nat} {ss : List Slt} {args sub : List Int} (hp : IsSlts w pa pl ss) (ha : IsNums w aa al args) (hs : IsNums w sa sl sub) :
    Calls Try.prog 9 #[.agg #[.int .i64 q, .slice pa pl pc], .slice aa al ac, .slice sa sl sc] w fun e w' => ListRes w w' (extendP ss args sub) e ∧ Below w.heap.size w w' := by
  obtain ⟨i0, hi0, hz0, hzi1, hzi2⟩ := info_parts Try.infoInt6
  have HP := hide hp
  have HA := hide ha
  have HS := hide hs
  have hz := hp.2.1
  have hz1 := ha.2.1
  have hz2 := hs.2.1
  have HB0 : Hid (Below w.heap.size w (w.alloc (.cells #[.int .i64 q, .slice pa pl pc] 24))) := (Below.refl _ _).alloc (Nat.le_refl _) _
  clear hp ha hs
  by_cases hl : pl = al
  · subst hl
    have HL : Hid (ss.length = args.length) := by show _ = _; rw [HP.out.1, HA.out.1]
    go_enter Try.func9, Try.ntmps9
    go_wp2
    -- LOOP1
    go_loopw [8, 9, 10, 27] (fun nn _ _ i wl => ∃ k : Nat, k ≤ pl ∧ i = .int .i64 k ∧ nn = .int .i64 (widthP (ss.take k) sl : Nat) ∧ Hid (∀ p ∈ (ss.zip args).take k, badAt p = false) ∧ Hid (wl.cell? ⟨w.heap.size, 1, none⟩ = some (.slice pa pl pc)) ∧ Hid (Below w.heap.size w wl)) (fun _ _ _ i _ => pl - (intOf i).toNat)
    case atStart => exact ⟨0, by omega, rfl, by simp [widthP], by show ∀ p ∈ (ss.zip args).take 0, _; simp, by show World.cell? _ _ = _; simp, HB0.out⟩
    case round =>
      obtain ⟨k, hk, rfl, rfl, HG, HPc, HB⟩ := hrel
      by_cases hlt : k < pl
      · have hi : (k : Int) < (pl : Int) := by omega
        have hik0 : (0 : Int) ≤ (k : Int) := by omega
        obtain ⟨b1, o1, rfl, hr1⟩ := HP.out.2.2.2 (by omega)
        obtain ⟨b2, o2, rfl, hr2⟩ := HA.out.2.2.2 (by omega)
        obtain ⟨s, hs⟩ : ∃ s, ss[k]? = some s := ⟨_, List.getElem?_eq_getElem (by rw [HP.out.1]; omega)⟩
        obtain ⟨a, ha⟩ : ∃ a, args[k]? = some a := ⟨_, List.getElem?_eq_getElem (by rw [HA.out.1]; omega)⟩
        obtain ⟨x0, x1⟩ := (hr1 k s hs).kept HB.out
        have HBx : Hid (Below w.heap.size w (wr.alloc (.cells #[.bool s.v, .int .i64 s.n] 43))) := HB.out.alloc HB.out.size _
        have HPx : Hid ((wr.alloc (.cells #[.bool s.v, .int .i64 s.n] 43)).cell? ⟨w.heap.size, 1, none⟩ = some (.slice (some ⟨b1, o1, none⟩) pl pc)) := kept_cell ((Below.refl _ _).alloc (Nat.le_refl _) _) HPc.out
        have y0 := kept_cell HBx.out (hr2 k a ha)
        have z0 : (wr.alloc (.cells #[.bool s.v, .int .i64 s.n] 43)).cell? ⟨wr.heap.size, 0, none⟩ = some (.bool s.v) := by simp
        have z1 : (wr.alloc (.cells #[.bool s.v, .int .i64 s.n] 43)).cell? ⟨wr.heap.size, 1, none⟩ = some (.int .i64 s.n) := by simp
        obtain ⟨hsn1, hsn2⟩ := HP.out.2.2.1 s (List.mem_of_getElem? hs)
        have HZk : Hid ((ss.zip args)[k]? = some (s, a)) := by show _ = _; rw [List.getElem?_zip_eq_some]; exact ⟨hs, ha⟩
        have HTk : Hid (widthP (ss.take (k + 1)) sl = if s.v then max (widthP (ss.take k) sl) (s.n.toNat + 1) else widthP (ss.take k) sl) := by
          show _ = _
          rw [List.take_add_one, hs]
          exact widthP_snoc _ _ _
        have HBad : Hid (badAt (s, a) = true → extendP ss args sub = none) := extend_bad HL.out hs ha
        have hwl2 : widthP (ss.take k) sl ≤ 17592186044416 := by
          refine Nat.le_trans (widthP_le _ _ (fun t ht => ?_)) (Nat.max_le.2 ⟨by omega, by decide⟩)
          obtain ⟨j, hj⟩ := List.mem_iff_getElem?.1 ht
          have hjk : j < k := by have := (List.getElem?_eq_some_iff.1 hj).1; simp at this; omega
          rw [List.getElem?_take_of_lt hjk] at hj
          obtain ⟨b, hb⟩ : ∃ b, args[j]? = some b := ⟨_, List.getElem?_eq_getElem (by rw [HA.out.1]; omega)⟩
          have := HG.out (t, b) (List.mem_iff_getElem?.2 ⟨j, by rw [List.getElem?_take_of_lt hjk, List.getElem?_zip_eq_some]; exact ⟨hj, hb⟩⟩)
          simp only [badAt, Bool.or_eq_false_iff] at this
          exact this.1.1
        have HGn : Hid (badAt (s, a) = false → ∀ p ∈ (ss.zip args).take (k + 1), badAt p = false) := fun hb p hp => by
          rw [List.take_add_one, HZk.out] at hp
          rcases List.mem_append.1 hp with h | h
          · exact HG.out p h
          · simp only [Option.toList_some, List.mem_singleton] at h
            rw [h]; exact hb
        clear hr1 hr2 hs ha
        obtain ⟨sv, sn⟩ := s
        simp only at *
        generalize widthP (ss.take k) sl = W at *
        by_cases hn0 : sn < 0
        · have HRn := hide (HBad.out (by simp [badAt, noSlot, hn0]))
          go_wp2
          refine wp_region_over (fun W => W = wr.alloc (.cells #[.bool sv, .int .i64 sn] 43)) (by kernel_rfl) (by kernel_rfl) rfl ?_
          rintro V hV
          rw [← hV] at z0 z1 y0 HBx HPx
          clear hV x0 x1
          have z0' := over_cell z0
          have z1' := over_cell z1
          have y0' := over_cell y0
          repeat (go_big_quiet_step (first | fail))
          refine wpQuiet_nil ?_
          rintro _ ⟨z, rfl⟩
          have HB3 := hide (HBx.out.trans ((over_below V z).mono HBx.out.size))
          have HP3 := hide (kept_cell (over_below V z) HPx.out)
          have t0 := z0' z
          have t1 := z1' z
          clear z0' z1' y0' z0 z1 y0
          go_wp2
          go_ret2
          exact ⟨.inl ⟨HRn.out, rfl⟩, HB3.out⟩
        · have hd0 : decide (sn < 0) = false := by simpa using hn0
          by_cases ha0 : a < 0
          · have HRn := hide (HBad.out (by simp [badAt, ha0]))
            go_wp2
            refine wp_region_over (fun W => W = wr.alloc (.cells #[.bool sv, .int .i64 sn] 43)) (by kernel_rfl) (by kernel_rfl) rfl ?_
            rintro V hV
            rw [← hV] at z0 z1 y0 HBx HPx
            clear hV x0 x1
            have z0' := over_cell z0
            have z1' := over_cell z1
            have y0' := over_cell y0
            repeat (go_big_quiet_step (first | fail))
            refine wpQuiet_nil ?_
            rintro _ ⟨z, rfl⟩
            have HB3 := hide (HBx.out.trans ((over_below V z).mono HBx.out.size))
            have HP3 := hide (kept_cell (over_below V z) HPx.out)
            have t0 := z0' z
            have t1 := z1' z
            clear z0' z1' y0' z0 z1 y0
            go_wp2
            go_ret2
            exact ⟨.inl ⟨HRn.out, rfl⟩, HB3.out⟩
          · have hd1 : decide (a < 0) = false := by simpa using ha0
            cases sv with
            | true =>
              by_cases h16 : 16 ≤ sn
              · have HRn := hide (HBad.out (by simp [badAt, noSlot, h16]))
                go_wp2
                refine wp_region_over (fun W => W = wr.alloc (.cells #[.bool true, .int .i64 sn] 43)) (by kernel_rfl) (by kernel_rfl) rfl ?_
                rintro V hV
                rw [← hV] at z0 z1 y0 HBx HPx
                clear hV x0 x1
                have z0' := over_cell z0
                have z1' := over_cell z1
                have y0' := over_cell y0
                repeat (go_big_quiet_step (first | fail))
                refine wpQuiet_nil ?_
                rintro _ ⟨z, rfl⟩
                have HB3 := hide (HBx.out.trans ((over_below V z).mono HBx.out.size))
                have HP3 := hide (kept_cell (over_below V z) HPx.out)
                have t0 := z0' z
                have t1 := z1' z
                clear z0' z1' y0' z0 z1 y0
                go_wp2
                go_ret2
                exact ⟨.inl ⟨HRn.out, rfl⟩, HB3.out⟩
              · have hd2 : decide (16 ≤ sn) = false := by simpa using h16
                obtain ⟨m, rfl⟩ : ∃ m : Nat, sn = m := ⟨sn.toNat, by omega⟩
                have HGk := hide (HGn.out (by simp [badAt, noSlot, ha0]; omega))
                have HTk2 : Hid (widthP (ss.take (k + 1)) sl = max W (m + 1)) := by show _ = _; have := HTk.out; simpa using this
                clear HTk HGn HBad
                go_wp2
                refine wp_region_over (fun W => W = wr.alloc (.cells #[.bool true, .int .i64 (m : Int)] 43)) (by kernel_rfl) (by kernel_rfl) rfl ?_
                rintro V hV
                rw [← hV] at z0 z1 y0 HBx HPx
                clear hV x0 x1
                have z0' := over_cell z0
                have z1' := over_cell z1
                have y0' := over_cell y0
                repeat (go_big_quiet_step (first | fail))
                refine wpQuiet_nil ?_
                rintro _ ⟨z, rfl⟩
                have HB3 := hide (HBx.out.trans ((over_below V z).mono HBx.out.size))
                have HP3 := hide (kept_cell (over_below V z) HPx.out)
                have t0 := z0' z
                have t1 := z1' z
                clear z0' z1' y0' z0 z1 y0
                generalize over V z = V3 at *
                by_cases hmx : W ≤ m + 1
                · have hq : ¬ ((m : Int) + 1 < (W : Int)) := by omega
                  have HM : Hid (max W (m + 1) = m + 1) := Nat.max_eq_right hmx
                  go_wp2
                  all_goals go_roundw
                  case rel => exact ⟨k + 1, by omega, by go_num, by rw [HTk2.out, HM.out]; go_num, HGk.out, HP3.out, HB3.out⟩
                  case measure => simp [intOf]; omega
                · have hq : ((m : Int) + 1 < (W : Int)) := by omega
                  have HM : Hid (max W (m + 1) = W) := Nat.max_eq_left (by omega)
                  go_wp2
                  all_goals go_roundw
                  case rel => exact ⟨k + 1, by omega, by go_num, by rw [HTk2.out, HM.out, if_neg (by omega)], HGk.out, HP3.out, HB3.out⟩
                  case measure => simp [intOf]; omega
            | false =>
              by_cases hna : sn = a
              · have HGk := hide (HGn.out (by simp [badAt, noSlot, ha0, hn0, hna]))
                have hq : (sn != a) = false := by simpa using hna
                have HTk2 : Hid (widthP (ss.take (k + 1)) sl = W) := by show _ = _; have := HTk.out; simpa using this
                clear HTk HGn HBad hna
                go_wp2
                refine wp_region_over (fun W => W = wr.alloc (.cells #[.bool false, .int .i64 sn] 43)) (by kernel_rfl) (by kernel_rfl) rfl ?_
                rintro V hV
                rw [← hV] at z0 z1 y0 HBx HPx
                clear hV x0 x1
                have z0' := over_cell z0
                have z1' := over_cell z1
                have y0' := over_cell y0
                repeat (go_big_quiet_step (first | fail))
                refine wpQuiet_nil ?_
                rintro _ ⟨z, rfl⟩
                have HB3 := hide (HBx.out.trans ((over_below V z).mono HBx.out.size))
                have HP3 := hide (kept_cell (over_below V z) HPx.out)
                have t0 := z0' z
                have t1 := z1' z
                clear z0' z1' y0' z0 z1 y0
                generalize over V z = V3 at *
                go_wp2
                go_roundw
                case rel => exact ⟨k + 1, by omega, by go_num, by rw [HTk2.out], HGk.out, HP3.out, HB3.out⟩
                case measure => simp [intOf]; omega
              · have HRn := hide (HBad.out (by simp [badAt, hna]))
                have hq : (sn != a) = true := by simpa using hna
                clear hna
                go_wp2
                refine wp_region_over (fun W => W = wr.alloc (.cells #[.bool false, .int .i64 sn] 43)) (by kernel_rfl) (by kernel_rfl) rfl ?_
                rintro V hV
                rw [← hV] at z0 z1 y0 HBx HPx
                clear hV x0 x1
                have z0' := over_cell z0
                have z1' := over_cell z1
                have y0' := over_cell y0
                repeat (go_big_quiet_step (first | fail))
                refine wpQuiet_nil ?_
                rintro _ ⟨z, rfl⟩
                have HB3 := hide (HBx.out.trans ((over_below V z).mono HBx.out.size))
                have HP3 := hide (kept_cell (over_below V z) HPx.out)
                have t0 := z0' z
                have t1 := z1' z
                clear z0' z1' y0' z0 z1 y0
                go_wp2
                go_ret2
                exact ⟨.inl ⟨HRn.out, rfl⟩, HB3.out⟩
      · obtain rfl : k = pl := by omega
        have hi : ¬ (k : Int) < (k : Int) := by omega
        have hfull : ss.take k = ss := List.take_of_length_le (by rw [HP.out.1]; exact Nat.le_refl _)
        have hfull2 : (ss.zip args).take k = ss.zip args := List.take_of_length_le (by rw [List.length_zip, HP.out.1, HA.out.1]; omega)
        rw [hfull2] at HG
        rw [hfull]
        clear hfull hfull2
        have HR : Hid (extendP ss args sub = allP (fun i => placeP i (ss.zip args) (startP sub i)) (widthP ss sl)) := by
          show _ = _
          unfold extendP
          rw [if_pos HL.out, if_neg, HS.out.1]
          simp only [Bool.not_eq_true, List.any_eq_false]
          exact HG.out
        have hwl2 : widthP ss sl ≤ 17592186044416 := by
          refine Nat.le_trans (widthP_le _ _ (fun t ht => ?_)) (Nat.max_le.2 ⟨by omega, by decide⟩)
          obtain ⟨j, hj⟩ := List.mem_iff_getElem?.1 ht
          have hjl := (List.getElem?_eq_some_iff.1 hj).1
          obtain ⟨b, hb⟩ : ∃ b, args[j]? = some b := ⟨_, List.getElem?_eq_getElem (by have := HL.out; omega)⟩
          have := HG.out (t, b) (List.mem_iff_getElem?.2 ⟨j, by rw [List.getElem?_zip_eq_some]; exact ⟨hj, hb⟩⟩)
          simp only [badAt, Bool.or_eq_false_iff] at this
          exact this.1.1
        have HAp : Hid (∀ x ∈ args, 0 ≤ x) := fun x hx => by
          obtain ⟨j, hj⟩ := List.mem_iff_getElem?.1 hx
          have hjl := (List.getElem?_eq_some_iff.1 hj).1
          obtain ⟨t, ht⟩ : ∃ t, ss[j]? = some t := ⟨_, List.getElem?_eq_getElem (by have := HL.out; omega)⟩
          have := HG.out (t, x) (List.mem_iff_getElem?.2 ⟨j, by rw [List.getElem?_zip_eq_some]; exact ⟨ht, hj⟩⟩)
          simp only [badAt, Bool.or_eq_false_iff, decide_eq_false_iff_not] at this
          omega
        obtain ⟨W, hW⟩ : ∃ W, widthP ss sl = W := ⟨_, rfl⟩
        rw [hW] at hwl2 HR ⊢
        clear hW
        go_wp2
        -- LOOP2
        go_loopw [11, 12, 13, 14, 15, 74] (fun o _ _ _ _ c wl => ∃ i : Nat, i ≤ W ∧ c = .int .i64 i ∧ Hid (∃ l : List Int, allP (fun i => placeP i (ss.zip args) (startP sub i)) i = some l ∧ (∀ x ∈ l, I64 x) ∧ wl.ownsRow (w.heap.size + 1) 3 1 o i (numsV l)) ∧ Hid (wl.cell? ⟨w.heap.size, 1, none⟩ = some (.slice pa k pc)) ∧ Hid (Below w.heap.size w wl)) (fun _ _ _ _ _ c _ => W - (intOf c).toNat)
        case atStart => exact ⟨0, by omega, rfl, ⟨[], rfl, by simp, World.ownsRow_nil _ _ _ _⟩, HPc.out, HB.out⟩
        case round =>
          obtain ⟨i, hi2, rfl, HO, HPo, HBo⟩ := hrel
          generalize wr = wo at *
          by_cases hlt2 : i < W
          · have hi3 : (i : Int) < (W : Int) := by omega
            have hi4 : (0 : Int) ≤ (i : Int) := by omega
            obtain ⟨l, hal, hIl, hol⟩ := HO.out
            obtain ⟨oa, oc, rfl, hoc, hon, hob⟩ := own_shape6 hol
            have HAl := hide hal
            have HIl := hide hIl
            have HOl := hide hol
            clear hal hIl hol hoc hon hob HO
            by_cases his : i < sl
            · have hi5 : (i : Int) < (sl : Int) := by omega
              obtain ⟨b3, o3, rfl, hr3⟩ := HS.out.2.2.2 (by omega)
              obtain ⟨y, hy⟩ : ∃ y, sub[i]? = some y := ⟨_, List.getElem?_eq_getElem (by rw [HS.out.1]; omega)⟩
              have c3 := kept_cell HBo.out (hr3 i y hy)
              have hyI := HS.out.2.2.1 y (List.mem_of_getElem? hy)
              by_cases hy0 : y < 0
              · have HSt : Hid (startP sub i = -1) := by show _ = _; simp only [startP, hy, if_pos hy0]
                have hy1 : decide (0 ≤ y) = false := by simp; omega
                have HSx : Hid (I64 (-1)) := by show I64 _; exact ⟨by omega, by omega⟩
                clear hr3 hy
                have pc0 := HPo.out
                go_wp2
                go_loopw [13, 14, 15, 95] (fun xv _ _ c wl => ∃ (j : Nat) (x : Int), j ≤ k ∧ c = .int .i64 j ∧ xv = .int .i64 x ∧ Hid (I64 x) ∧ Hid (placeP i (ss.zip args) (startP sub i) = placeP i ((ss.zip args).drop j) x) ∧ Hid (Below wo.heap.size wo wl)) (fun _ _ _ c _ => k - (intOf c).toNat)
                case atStart => exact ⟨0, _, by omega, rfl, rfl, HSx.out, by show placeP _ _ _ = _; rw [HSt.out]; rfl, Below.refl _ _⟩
                case round =>
                  obtain ⟨j, x, hj, rfl, rfl, HXi, HPl, HBj⟩ := hrel
                  have HBw := hide (HBo.out.trans (HBj.out.mono HBo.out.size))
                  by_cases hlt3 : j < k
                  · have hj1 : (j : Int) < (k : Int) := by omega
                    have hj0 : (0 : Int) ≤ (j : Int) := by omega
                    obtain ⟨b1, o1, rfl, hr1⟩ := HP.out.2.2.2 (by omega)
                    obtain ⟨b2, o2, rfl, hr2⟩ := HA.out.2.2.2 (by omega)
                    obtain ⟨s, hs⟩ : ∃ s, ss[j]? = some s := ⟨_, List.getElem?_eq_getElem (by rw [HP.out.1]; omega)⟩
                    obtain ⟨a, ha⟩ : ∃ a, args[j]? = some a := ⟨_, List.getElem?_eq_getElem (by rw [HA.out.1]; omega)⟩
                    obtain ⟨x0, x1⟩ := (hr1 j s hs).kept HBw.out
                    have HBn : Hid (Below wo.heap.size wo (wr.alloc (.cells #[.bool s.v, .int .i64 s.n] 43))) := HBj.out.alloc HBj.out.size _
                    have HBm := hide (HBo.out.trans (HBn.out.mono HBo.out.size))
                    have y0 := kept_cell HBm.out (hr2 j a ha)
                    have HAi := hide (HA.out.2.2.1 a (List.mem_of_getElem? ha))
                    have HDr : Hid ((ss.zip args).drop j = (s, a) :: (ss.zip args).drop (j + 1)) := by
                      show _ = _
                      have hz : (ss.zip args)[j]? = some (s, a) := by rw [List.getElem?_zip_eq_some]; exact ⟨hs, ha⟩
                      rw [List.drop_eq_getElem_cons (List.getElem?_eq_some_iff.1 hz).1, (List.getElem?_eq_some_iff.1 hz).2]
                    clear hr1 hr2 hs ha
                    obtain ⟨sv, sn⟩ := s
                    simp only at *
                    cases sv with
                    | false =>
                      go_wp2
                      go_roundw
                      case rel => exact ⟨j + 1, x, by omega, by go_num, rfl, HXi.out, by show placeP _ _ _ = _; rw [HPl.out, HDr.out, placeP]; simp, HBn.out⟩
                      case measure => simp [intOf]; omega
                    | true =>
                      by_cases hni : sn = (i : Int)
                      · have hni2 : (sn == (i : Int)) = true := by simpa using hni
                        have HNi := hide hni
                        clear hni
                        by_cases hx0 : 0 ≤ x
                        · by_cases hxa : x = a
                          · have hxa2 : (x != a) = false := by simpa using hxa
                            have HXa := hide hxa
                            clear hxa
                            go_wp2
                            go_roundw
                            case rel => exact ⟨j + 1, a, by omega, by go_num, rfl, HAi.out, by show placeP _ _ _ = _; rw [HPl.out, HDr.out, placeP]; rw [if_pos ⟨rfl, HNi.out⟩, if_neg (by have := HXa.out; omega)], HBn.out⟩
                            case measure => simp [intOf]; omega
                          · have hxa2 : (x != a) = true := by simpa using hxa
                            have HRn : Hid (extendP ss args sub = none) := by
                              show _ = _
                              rw [HR.out]
                              refine allP_none hlt2 ?_
                              show placeP _ _ _ = _
                              rw [HPl.out, HDr.out, placeP, if_pos ⟨rfl, HNi.out⟩, if_pos ⟨hx0, hxa⟩]
                            clear hxa
                            go_wp2
                            go_ret2
                            exact ⟨.inl ⟨HRn.out, rfl⟩, HBm.out⟩
                        · have hx1 : decide (0 ≤ x) = false := by simpa using hx0
                          go_wp2
                          go_roundw
                          case rel => exact ⟨j + 1, a, by omega, by go_num, rfl, HAi.out, by show placeP _ _ _ = _; rw [HPl.out, HDr.out, placeP]; rw [if_pos ⟨rfl, HNi.out⟩, if_neg (by omega)], HBn.out⟩
                          case measure => simp [intOf]; omega
                      · have hni2 : (sn == (i : Int)) = false := by simpa using hni
                        have HNi := hide hni
                        clear hni
                        go_wp2
                        go_roundw
                        case rel => exact ⟨j + 1, x, by omega, by go_num, rfl, HXi.out, by show placeP _ _ _ = _; rw [HPl.out, HDr.out, placeP]; rw [if_neg (fun h => HNi.out h.2)], HBn.out⟩
                        case measure => simp [intOf]; omega
                  · obtain rfl : j = k := by omega
                    have hj1 : ¬ (j : Int) < (j : Int) := by omega
                    have HF : Hid (placeP i (ss.zip args) (startP sub i) = some x) := by
                      show _ = _
                      rw [HPl.out, List.drop_eq_nil_of_le (by rw [List.length_zip, HP.out.1, HA.out.1]; omega)]
                      rfl
                    have HO2 := hide (own_kept6 (own_kept6 HOl.out HBj.out) ((Below.refl _ _).alloc (Nat.le_refl _) (.cells #[.int .i64 x] 3)))
                    have HPn := hide (kept_cell HBj.out HPo.out)
                    have HSz : Hid (w.heap.size + 1 ≤ wr.heap.size) := by
                      have := lt_of_cell HPn.out
                      exact this
                    go_wp2_with (first
                      | (at_builtin; refine wpList_append_any rfl _ _ 25 rfl (w.heap.size + 1) 3 i0 (.int .i64 0) 1 8 Try.underlying25 hi0 hz0 hzi1 hzi2 rfl (by decide) _ i (numsV l) rfl HO2.out (some ⟨wr.heap.size, 0, none⟩) 1 1 [.int .i64 x] rfl (fun h => by cases h) rfl (fun ad h => by cases h; exact World.news_of_block (cs := #[.int .i64 x]) (t := 3) (fr := (0, 0)) (heap_alloc_new wr _)) (by simp [Value.oneCell']) (by unfold maxLen; omega) (by omega) (by simp; have := HSz.out; omega) ?_))
                    intro v3 w3 hown3 hgrow
                    have hB3 : Below (w.heap.size + 1) (wr.alloc (.cells #[.int .i64 x] 3)) w3 := below_grown (Below.refl _ _) HO2.out hgrow (by simp; have := HSz.out; omega)
                    have HO3 := hide hown3
                    have HB3 : Hid (Below w.heap.size w w3) := (HBw.out.alloc HBw.out.size _).trans (hB3.mono (by omega))
                    have HP3 : Hid (w3.cell? ⟨w.heap.size, 1, none⟩ = some (.slice pa j pc)) := by
                      show _ = _
                      rw [hB3.cell (show w.heap.size < w.heap.size + 1 by omega)]
                      exact kept_cell ((Below.refl _ _).alloc (Nat.le_refl _) _) HPn.out
                    clear hown3 hgrow hB3
                    go_wp2
                    go_roundw
                    case rel => exact ⟨i + 1, by omega, by go_num, ⟨l ++ [x], by rw [allP, HAl.out, HF.out], fun y hy => by
                        rcases List.mem_append.1 hy with h | h
                        · exact HIl.out y h
                        · simp only [List.mem_singleton] at h; rw [h]; exact HXi.out, by rw [numsV_append]; exact HO3.out⟩, HP3.out, HB3.out⟩
                    case measure => simp [intOf]; omega
              · have HSt : Hid (startP sub i = y) := by show _ = _; simp only [startP, hy, if_neg hy0]
                have hy1 : decide (0 ≤ y) = true := by simp; omega
                have HSx : Hid (I64 y) := hyI
                clear hr3 hy
                have pc0 := HPo.out
                go_wp2
                go_loopw [13, 14, 15, 95] (fun xv _ _ c wl => ∃ (j : Nat) (x : Int), j ≤ k ∧ c = .int .i64 j ∧ xv = .int .i64 x ∧ Hid (I64 x) ∧ Hid (placeP i (ss.zip args) (startP sub i) = placeP i ((ss.zip args).drop j) x) ∧ Hid (Below wo.heap.size wo wl)) (fun _ _ _ c _ => k - (intOf c).toNat)
                case atStart => exact ⟨0, _, by omega, rfl, rfl, HSx.out, by show placeP _ _ _ = _; rw [HSt.out]; rfl, Below.refl _ _⟩
                case round =>
                  obtain ⟨j, x, hj, rfl, rfl, HXi, HPl, HBj⟩ := hrel
                  have HBw := hide (HBo.out.trans (HBj.out.mono HBo.out.size))
                  by_cases hlt3 : j < k
                  · have hj1 : (j : Int) < (k : Int) := by omega
                    have hj0 : (0 : Int) ≤ (j : Int) := by omega
                    obtain ⟨b1, o1, rfl, hr1⟩ := HP.out.2.2.2 (by omega)
                    obtain ⟨b2, o2, rfl, hr2⟩ := HA.out.2.2.2 (by omega)
                    obtain ⟨s, hs⟩ : ∃ s, ss[j]? = some s := ⟨_, List.getElem?_eq_getElem (by rw [HP.out.1]; omega)⟩
                    obtain ⟨a, ha⟩ : ∃ a, args[j]? = some a := ⟨_, List.getElem?_eq_getElem (by rw [HA.out.1]; omega)⟩
                    obtain ⟨x0, x1⟩ := (hr1 j s hs).kept HBw.out
                    have HBn : Hid (Below wo.heap.size wo (wr.alloc (.cells #[.bool s.v, .int .i64 s.n] 43))) := HBj.out.alloc HBj.out.size _
                    have HBm := hide (HBo.out.trans (HBn.out.mono HBo.out.size))
                    have y0 := kept_cell HBm.out (hr2 j a ha)
                    have HAi := hide (HA.out.2.2.1 a (List.mem_of_getElem? ha))
                    have HDr : Hid ((ss.zip args).drop j = (s, a) :: (ss.zip args).drop (j + 1)) := by
                      show _ = _
                      have hz : (ss.zip args)[j]? = some (s, a) := by rw [List.getElem?_zip_eq_some]; exact ⟨hs, ha⟩
                      rw [List.drop_eq_getElem_cons (List.getElem?_eq_some_iff.1 hz).1, (List.getElem?_eq_some_iff.1 hz).2]
                    clear hr1 hr2 hs ha
                    obtain ⟨sv, sn⟩ := s
                    simp only at *
                    cases sv with
                    | false =>
                      go_wp2
                      go_roundw
                      case rel => exact ⟨j + 1, x, by omega, by go_num, rfl, HXi.out, by show placeP _ _ _ = _; rw [HPl.out, HDr.out, placeP]; simp, HBn.out⟩
                      case measure => simp [intOf]; omega
                    | true =>
                      by_cases hni : sn = (i : Int)
                      · have hni2 : (sn == (i : Int)) = true := by simpa using hni
                        have HNi := hide hni
                        clear hni
                        by_cases hx0 : 0 ≤ x
                        · by_cases hxa : x = a
                          · have hxa2 : (x != a) = false := by simpa using hxa
                            have HXa := hide hxa
                            clear hxa
                            go_wp2
                            go_roundw
                            case rel => exact ⟨j + 1, a, by omega, by go_num, rfl, HAi.out, by show placeP _ _ _ = _; rw [HPl.out, HDr.out, placeP]; rw [if_pos ⟨rfl, HNi.out⟩, if_neg (by have := HXa.out; omega)], HBn.out⟩
                            case measure => simp [intOf]; omega
                          · have hxa2 : (x != a) = true := by simpa using hxa
                            have HRn : Hid (extendP ss args sub = none) := by
                              show _ = _
                              rw [HR.out]
                              refine allP_none hlt2 ?_
                              show placeP _ _ _ = _
                              rw [HPl.out, HDr.out, placeP, if_pos ⟨rfl, HNi.out⟩, if_pos ⟨hx0, hxa⟩]
                            clear hxa
                            go_wp2
                            go_ret2
                            exact ⟨.inl ⟨HRn.out, rfl⟩, HBm.out⟩
                        · have hx1 : decide (0 ≤ x) = false := by simpa using hx0
                          go_wp2
                          go_roundw
                          case rel => exact ⟨j + 1, a, by omega, by go_num, rfl, HAi.out, by show placeP _ _ _ = _; rw [HPl.out, HDr.out, placeP]; rw [if_pos ⟨rfl, HNi.out⟩, if_neg (by omega)], HBn.out⟩
                          case measure => simp [intOf]; omega
                      · have hni2 : (sn == (i : Int)) = false := by simpa using hni
                        have HNi := hide hni
                        clear hni
                        go_wp2
                        go_roundw
                        case rel => exact ⟨j + 1, x, by omega, by go_num, rfl, HXi.out, by show placeP _ _ _ = _; rw [HPl.out, HDr.out, placeP]; rw [if_neg (fun h => HNi.out h.2)], HBn.out⟩
                        case measure => simp [intOf]; omega
                  · obtain rfl : j = k := by omega
                    have hj1 : ¬ (j : Int) < (j : Int) := by omega
                    have HF : Hid (placeP i (ss.zip args) (startP sub i) = some x) := by
                      show _ = _
                      rw [HPl.out, List.drop_eq_nil_of_le (by rw [List.length_zip, HP.out.1, HA.out.1]; omega)]
                      rfl
                    have HO2 := hide (own_kept6 (own_kept6 HOl.out HBj.out) ((Below.refl _ _).alloc (Nat.le_refl _) (.cells #[.int .i64 x] 3)))
                    have HPn := hide (kept_cell HBj.out HPo.out)
                    have HSz : Hid (w.heap.size + 1 ≤ wr.heap.size) := by
                      have := lt_of_cell HPn.out
                      exact this
                    go_wp2_with (first
                      | (at_builtin; refine wpList_append_any rfl _ _ 25 rfl (w.heap.size + 1) 3 i0 (.int .i64 0) 1 8 Try.underlying25 hi0 hz0 hzi1 hzi2 rfl (by decide) _ i (numsV l) rfl HO2.out (some ⟨wr.heap.size, 0, none⟩) 1 1 [.int .i64 x] rfl (fun h => by cases h) rfl (fun ad h => by cases h; exact World.news_of_block (cs := #[.int .i64 x]) (t := 3) (fr := (0, 0)) (heap_alloc_new wr _)) (by simp [Value.oneCell']) (by unfold maxLen; omega) (by omega) (by simp; have := HSz.out; omega) ?_))
                    intro v3 w3 hown3 hgrow
                    have hB3 : Below (w.heap.size + 1) (wr.alloc (.cells #[.int .i64 x] 3)) w3 := below_grown (Below.refl _ _) HO2.out hgrow (by simp; have := HSz.out; omega)
                    have HO3 := hide hown3
                    have HB3 : Hid (Below w.heap.size w w3) := (HBw.out.alloc HBw.out.size _).trans (hB3.mono (by omega))
                    have HP3 : Hid (w3.cell? ⟨w.heap.size, 1, none⟩ = some (.slice pa j pc)) := by
                      show _ = _
                      rw [hB3.cell (show w.heap.size < w.heap.size + 1 by omega)]
                      exact kept_cell ((Below.refl _ _).alloc (Nat.le_refl _) _) HPn.out
                    clear hown3 hgrow hB3
                    go_wp2
                    go_roundw
                    case rel => exact ⟨i + 1, by omega, by go_num, ⟨l ++ [x], by rw [allP, HAl.out, HF.out], fun y hy => by
                        rcases List.mem_append.1 hy with h | h
                        · exact HIl.out y h
                        · simp only [List.mem_singleton] at h; rw [h]; exact HXi.out, by rw [numsV_append]; exact HO3.out⟩, HP3.out, HB3.out⟩
                    case measure => simp [intOf]; omega
            · have hi5 : ¬ (i : Int) < (sl : Int) := by omega
              have HSt : Hid (startP sub i = -1) := by
                show _ = _
                have : sub[i]? = none := List.getElem?_eq_none (by rw [HS.out.1]; omega)
                simp only [startP, this]
              have HSx : Hid (I64 (-1)) := by show I64 _; exact ⟨by omega, by omega⟩
              have pc0 := HPo.out
              go_wp2
              go_loopw [13, 14, 15, 95] (fun xv _ _ c wl => ∃ (j : Nat) (x : Int), j ≤ k ∧ c = .int .i64 j ∧ xv = .int .i64 x ∧ Hid (I64 x) ∧ Hid (placeP i (ss.zip args) (startP sub i) = placeP i ((ss.zip args).drop j) x) ∧ Hid (Below wo.heap.size wo wl)) (fun _ _ _ c _ => k - (intOf c).toNat)
              case atStart => exact ⟨0, _, by omega, rfl, rfl, HSx.out, by show placeP _ _ _ = _; rw [HSt.out]; rfl, Below.refl _ _⟩
              case round =>
                obtain ⟨j, x, hj, rfl, rfl, HXi, HPl, HBj⟩ := hrel
                have HBw := hide (HBo.out.trans (HBj.out.mono HBo.out.size))
                by_cases hlt3 : j < k
                · have hj1 : (j : Int) < (k : Int) := by omega
                  have hj0 : (0 : Int) ≤ (j : Int) := by omega
                  obtain ⟨b1, o1, rfl, hr1⟩ := HP.out.2.2.2 (by omega)
                  obtain ⟨b2, o2, rfl, hr2⟩ := HA.out.2.2.2 (by omega)
                  obtain ⟨s, hs⟩ : ∃ s, ss[j]? = some s := ⟨_, List.getElem?_eq_getElem (by rw [HP.out.1]; omega)⟩
                  obtain ⟨a, ha⟩ : ∃ a, args[j]? = some a := ⟨_, List.getElem?_eq_getElem (by rw [HA.out.1]; omega)⟩
                  obtain ⟨x0, x1⟩ := (hr1 j s hs).kept HBw.out
                  have HBn : Hid (Below wo.heap.size wo (wr.alloc (.cells #[.bool s.v, .int .i64 s.n] 43))) := HBj.out.alloc HBj.out.size _
                  have HBm := hide (HBo.out.trans (HBn.out.mono HBo.out.size))
                  have y0 := kept_cell HBm.out (hr2 j a ha)
                  have HAi := hide (HA.out.2.2.1 a (List.mem_of_getElem? ha))
                  have HDr : Hid ((ss.zip args).drop j = (s, a) :: (ss.zip args).drop (j + 1)) := by
                    show _ = _
                    have hz : (ss.zip args)[j]? = some (s, a) := by rw [List.getElem?_zip_eq_some]; exact ⟨hs, ha⟩
                    rw [List.drop_eq_getElem_cons (List.getElem?_eq_some_iff.1 hz).1, (List.getElem?_eq_some_iff.1 hz).2]
                  clear hr1 hr2 hs ha
                  obtain ⟨sv, sn⟩ := s
                  simp only at *
                  cases sv with
                  | false =>
                    go_wp2
                    go_roundw
                    case rel => exact ⟨j + 1, x, by omega, by go_num, rfl, HXi.out, by show placeP _ _ _ = _; rw [HPl.out, HDr.out, placeP]; simp, HBn.out⟩
                    case measure => simp [intOf]; omega
                  | true =>
                    by_cases hni : sn = (i : Int)
                    · have hni2 : (sn == (i : Int)) = true := by simpa using hni
                      have HNi := hide hni
                      clear hni
                      by_cases hx0 : 0 ≤ x
                      · by_cases hxa : x = a
                        · have hxa2 : (x != a) = false := by simpa using hxa
                          have HXa := hide hxa
                          clear hxa
                          go_wp2
                          go_roundw
                          case rel => exact ⟨j + 1, a, by omega, by go_num, rfl, HAi.out, by show placeP _ _ _ = _; rw [HPl.out, HDr.out, placeP]; rw [if_pos ⟨rfl, HNi.out⟩, if_neg (by have := HXa.out; omega)], HBn.out⟩
                          case measure => simp [intOf]; omega
                        · have hxa2 : (x != a) = true := by simpa using hxa
                          have HRn : Hid (extendP ss args sub = none) := by
                            show _ = _
                            rw [HR.out]
                            refine allP_none hlt2 ?_
                            show placeP _ _ _ = _
                            rw [HPl.out, HDr.out, placeP, if_pos ⟨rfl, HNi.out⟩, if_pos ⟨hx0, hxa⟩]
                          clear hxa
                          go_wp2
                          go_ret2
                          exact ⟨.inl ⟨HRn.out, rfl⟩, HBm.out⟩
                      · have hx1 : decide (0 ≤ x) = false := by simpa using hx0
                        go_wp2
                        go_roundw
                        case rel => exact ⟨j + 1, a, by omega, by go_num, rfl, HAi.out, by show placeP _ _ _ = _; rw [HPl.out, HDr.out, placeP]; rw [if_pos ⟨rfl, HNi.out⟩, if_neg (by omega)], HBn.out⟩
                        case measure => simp [intOf]; omega
                    · have hni2 : (sn == (i : Int)) = false := by simpa using hni
                      have HNi := hide hni
                      clear hni
                      go_wp2
                      go_roundw
                      case rel => exact ⟨j + 1, x, by omega, by go_num, rfl, HXi.out, by show placeP _ _ _ = _; rw [HPl.out, HDr.out, placeP]; rw [if_neg (fun h => HNi.out h.2)], HBn.out⟩
                      case measure => simp [intOf]; omega
                · obtain rfl : j = k := by omega
                  have hj1 : ¬ (j : Int) < (j : Int) := by omega
                  have HF : Hid (placeP i (ss.zip args) (startP sub i) = some x) := by
                    show _ = _
                    rw [HPl.out, List.drop_eq_nil_of_le (by rw [List.length_zip, HP.out.1, HA.out.1]; omega)]
                    rfl
                  have HO2 := hide (own_kept6 (own_kept6 HOl.out HBj.out) ((Below.refl _ _).alloc (Nat.le_refl _) (.cells #[.int .i64 x] 3)))
                  have HPn := hide (kept_cell HBj.out HPo.out)
                  have HSz : Hid (w.heap.size + 1 ≤ wr.heap.size) := by
                    have := lt_of_cell HPn.out
                    exact this
                  go_wp2_with (first
                    | (at_builtin; refine wpList_append_any rfl _ _ 25 rfl (w.heap.size + 1) 3 i0 (.int .i64 0) 1 8 Try.underlying25 hi0 hz0 hzi1 hzi2 rfl (by decide) _ i (numsV l) rfl HO2.out (some ⟨wr.heap.size, 0, none⟩) 1 1 [.int .i64 x] rfl (fun h => by cases h) rfl (fun ad h => by cases h; exact World.news_of_block (cs := #[.int .i64 x]) (t := 3) (fr := (0, 0)) (heap_alloc_new wr _)) (by simp [Value.oneCell']) (by unfold maxLen; omega) (by omega) (by simp; have := HSz.out; omega) ?_))
                  intro v3 w3 hown3 hgrow
                  have hB3 : Below (w.heap.size + 1) (wr.alloc (.cells #[.int .i64 x] 3)) w3 := below_grown (Below.refl _ _) HO2.out hgrow (by simp; have := HSz.out; omega)
                  have HO3 := hide hown3
                  have HB3 : Hid (Below w.heap.size w w3) := (HBw.out.alloc HBw.out.size _).trans (hB3.mono (by omega))
                  have HP3 : Hid (w3.cell? ⟨w.heap.size, 1, none⟩ = some (.slice pa j pc)) := by
                    show _ = _
                    rw [hB3.cell (show w.heap.size < w.heap.size + 1 by omega)]
                    exact kept_cell ((Below.refl _ _).alloc (Nat.le_refl _) _) HPn.out
                  clear hown3 hgrow hB3
                  go_wp2
                  go_roundw
                  case rel => exact ⟨i + 1, by omega, by go_num, ⟨l ++ [x], by rw [allP, HAl.out, HF.out], fun y hy => by
                      rcases List.mem_append.1 hy with h | h
                      · exact HIl.out y h
                      · simp only [List.mem_singleton] at h; rw [h]; exact HXi.out, by rw [numsV_append]; exact HO3.out⟩, HP3.out, HB3.out⟩
                  case measure => simp [intOf]; omega
          · obtain rfl : i = W := by omega
            have hi3 : ¬ (i : Int) < (i : Int) := by omega
            obtain ⟨l, hal, hIl, hol⟩ := HO.out
            obtain ⟨oa, oc, rfl, hoc, hon, hob⟩ := own_shape6 hol
            have hll : l.length = i := by have := hol.1; rw [numsV_len] at this; omega
            have HRn : Hid (extendP ss args sub = some l) := by show _ = _; rw [HR.out]; exact hal
            have HLl := hide hll
            have HNl := hide (own_nums hol hIl (by omega))
            have HSh := hide (And.intro hoc (And.intro hon hob))
            clear hal hIl hol hoc hon hob HO hll
            go_wp2
            go_ret2
            refine ⟨.inr ⟨l, oa, oc, HRn.out, by rw [HLl.out]; rfl, by rw [HLl.out]; exact HNl.out, by rw [HLl.out]; exact HSh.out.1, by rw [HLl.out]; exact HSh.out.2.1, fun ad had => ?_⟩, HBo.out⟩
            obtain ⟨g, rfl, hg⟩ := HSh.out.2.2 ad had
            exact Nat.le_of_succ_le hg
        -- POOL2
    -- POOL1
  · have HR := hide (extend_len (ss := ss) (args := args) (sub := sub) (by rw [HP.out.1, HA.out.1]; exact hl))
    have hl1 : ¬ ((pl : Int) = (al : Int)) := by omega
    have hl2 : ((pl : Int) != (al : Int)) = true := by simpa using hl1
    go_enter Try.func9, Try.ntmps9
    go_wp2
    go_ret2
    exact ⟨.inl ⟨HR.out, rfl⟩, HB0.out⟩
end Go.Proofs.Ytnahfhfnodghaaa
