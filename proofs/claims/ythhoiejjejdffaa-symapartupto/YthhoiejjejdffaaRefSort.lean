/- The document's own Sort: the list in order, in new memory. -/
import Derived.Test.YthhoiejjejdffaaMerge
import Derived.Test.YthhoiejjejdffaaBlocks
import Derived.Test.YthhoiejjejdffaaHolds
import Derived.Deep.RegionWith
namespace Go.Proofs.Ythhoiejjejdffaa
set_option linter.unusedSimpArgs false
set_option linter.unusedVariables false
open Go.RowKit

theorem cut_one {L : List Con} {I W mid : Nat} (h : mid = min (I + W) L.length) (hI : I ≤ L.length) : (L.drop I).take W = (L.drop I).take (mid - I) := by
  subst h
  by_cases c : I + W ≤ L.length
  · rw [Nat.min_eq_left c, Nat.add_sub_cancel_left]
  · rw [Nat.min_eq_right (by omega), List.take_of_length_le (by rw [List.length_drop]; omega), List.take_of_length_le (by rw [List.length_drop]; omega)]
theorem cut_two {L : List Con} {I W mid en : Nat} (h : mid = min (I + W) L.length ∧ en = min (I + 2 * W) L.length) : (L.drop (I + W)).take W = (L.drop mid).take (en - mid) := by
  obtain ⟨rfl, rfl⟩ := h
  by_cases c : I + W ≤ L.length
  · rw [Nat.min_eq_left c]
    have := cut_one (L := L) (I := I + W) (W := W) (mid := min (I + W + W) L.length) rfl c
    rw [this]
    congr 2
    omega
  · rw [List.drop_of_length_le (by omega), List.drop_of_length_le (by omega)]
    simp

set_option maxRecDepth 100000 in
set_option maxHeartbeats 2000000 in
theorem refSort_any (ao : Option Addr) (len cap : Nat) (cs : List Con) (w : World) (h : IsCons w ao len cs) (hlb : len * 32 ≤ 140737488351232) :
    Calls Try.prog 73 #[.slice ao len cap] w fun e w' => ∃ v L, e = .returned v ∧ Holds3 w.heap.size w' v L ∧ Srt L ∧ L.Perm cs ∧ Below w.heap.size w w' := by
  obtain ⟨hx1, hx2, hx3, hx4⟩ := h
  have HX := hide hx1
  clear hx1
  obtain ⟨i0, hi0, hz0, hz1, hz2⟩ := info_parts Try.info3
  go_enter Try.func73, Try.ntmps73
  go_wp2_with fail
  go_loopw [3, 4] (fun l i wr => ∃ k : Nat, k ≤ len ∧ i = .int .i64 k ∧ Hid (Holds3 w.heap.size wr l (cs.take k)) ∧ Below w.heap.size w wr) (fun _ i _ => len - (intOf i).toNat)
  case atStart => exact ⟨0, Nat.zero_le _, rfl, by show Holds3 _ _ _ (cs.take 0); rw [List.take_zero]; exact World.ownsRow_nil _ _ _ _, Below.refl _ _⟩
  case round =>
    obtain ⟨k, hk, rfl, HO, hb⟩ := hrel
    by_cases hlt : k < len
    · have e1 : (k : Int) < (len : Int) := by omega
      obtain ⟨b1, o1, rfl, hr1⟩ := hx4 (by omega)
      obtain ⟨x, hxx⟩ : ∃ x, cs[k]? = some x := ⟨_, List.getElem?_eq_getElem (by rw [HX.out]; exact hlt)⟩
      obtain ⟨x0, x1, x2⟩ := hr1 k x hxx
      have x0'' := kept_cell hb x0
      have x1'' := kept_cell hb x1
      have x2'' := kept_cell hb x2
      have hts : Hid (cs.take (k + 1) = cs.take k ++ [x]) := by
        show cs.take (k + 1) = _
        obtain ⟨hl, rfl⟩ := List.getElem?_eq_some_iff.1 hxx
        exact List.take_succ_eq_append_getElem hl
      have htl : Hid ((cs.take k).length = k) := by show (cs.take k).length = k; rw [List.length_take, HX.out]; omega
      have hown : wr.ownsRow w.heap.size 34 3 u3 k ((cs.take k).flatMap cells3) := by have := HO.out; unfold Holds3 at this; rw [htl.out] at this; exact this
      clear x0 x1 x2 hxx
      go_wp2_with (at_builtin; refine wpList_append_lies _ rfl _ _ 32 rfl w.heap.size 34 i0 (.agg #[.int .i64 0, .int .i64 0, .string ⟨#[]⟩]) 3 32 Try.underlying32 hi0 hz0 hz1 hz2 rfl (by decide) u3 k ((cs.take k).flatMap cells3) rfl (World.ownsRow.alloc hown _) ⟨wr.heap.size, 0, none⟩ 1 1 [.int .i64 x.k, .int .i64 x.n, .string x.s] rfl rfl (World.news_of_block (cs := #[.int .i64 x.k, .int .i64 x.n, .string x.s]) (t := 34) (fr := (0, 0)) (heap_alloc_new wr _)) (by simp [Value.oneCell']) (by decide) (by unfold maxLen; omega) (by omega) (by have := hb.size; simp; omega) (wr.heap.size + 1) (by simp) ?_; intro g cap' w1 hown1 hgrow hat hlt)
      have HN := hide (holds_snoc htl.out.symm hown1)
      have hb1 : Below w.heap.size w w1 := (hb.alloc hb.size _).grown hgrow (by have := hb.size; simp; omega) (fun q hq => (hown.lt q hq).1)
      clear hown1 hgrow hat hlt hown
      go_wp2
      go_roundw
      case rel => exact ⟨k + 1, by omega, by go_num, by show Holds3 _ _ _ (cs.take (k + 1)); rw [hts.out]; exact HN.out, hb1⟩
      case measure => simp [intOf]; omega
    · have e1 : ¬ (k : Int) < (len : Int) := by omega
      obtain ⟨wo, hwo⟩ : ∃ wo : World, wo = wr := ⟨_, rfl⟩
      subst hwo
      have HO2 : Hid (Holds3 w.heap.size wo u3 cs) := by
        have := HO.out
        rw [List.take_of_length_le (by rw [HX.out]; omega)] at this
        exact this
      go_wp2_with fail
      clear HO e1 hlt
      go_loopw [3, 5, 6, 7, 8, 9, 10] (fun l wv _ _ _ _ _ wr => ∃ (L : List Con) (W : Nat), 1 ≤ W ∧ W ≤ 2 * len + 1 ∧ wv = .int .i64 W ∧ Hid (L.Perm cs) ∧ Hid (Blk W L) ∧ Hid (Holds3 w.heap.size wr l L) ∧ Below w.heap.size w wr) (fun _ wv _ _ _ _ _ _ => 2 * len + 2 - (intOf wv).toNat)
      case atStart => exact ⟨cs, 1, by omega, by omega, rfl, List.Perm.refl _, blk_one _, HO2.out, hb⟩
      case round =>
        clear hb HO2 hx4
        obtain ⟨L, W, hW1, hW2, rfl, HP, HB, HL, hb⟩ := hrel
        have hll : L.length = len := by rw [HP.out.length_eq]; exact HX.out
        have hok : Hid (∀ c ∈ L, c.ok) := fun c hc => hx3 c (HP.out.mem_iff.1 hc)
        obtain ⟨ao', cap', rfl, hcap, hic, hgg⟩ := holds_cons HL.out hok.out (by rw [hll]; exact hx2)
        rw [hll] at hcap hic hgg
        have HG := hide hgg
        clear hgg hic
        have HLL := hide hll
        by_cases hlt : W < len
        · have e1 : (W : Int) < (L.length : Int) := by rw [hll]; omega
          rw [hll] at e1 ⊢
          clear hll
          go_wp2_with fail
          clear e1
          obtain ⟨wo, hwo⟩ : ∃ wo : World, wo = wr := ⟨_, rfl⟩
          subst hwo
          have HLW : Hid (Holds3 w.heap.size wo (.slice ao' len cap') L) := by have := HL.out; rw [HLL.out] at this; exact this
          clear HL
          obtain ⟨g, rfl, hrow, hbase⟩ := HG.out (by omega)
          clear HG
          have HR := hide hrow
          clear hrow
          go_loopw [6, 7, 8, 9, 10] (fun m i _ _ _ wr => ∃ (I t : Nat) (M : List Con), I ≤ len + 2 * W ∧ i = .int .i64 I ∧ Hid (I = t * (2 * W)) ∧ Hid (M.length = min I len) ∧ Hid (M.Perm (L.take I)) ∧ Hid (Blk (2 * W) M) ∧ Hid (Holds3 wo.heap.size wr m M) ∧ Below wo.heap.size wo wr) (fun _ i _ _ _ _ => len + 2 * W - (intOf i).toNat)
          case atStart => exact ⟨0, 0, [], by omega, rfl, (Nat.zero_mul _).symm, by show (0 : Nat) = min 0 len; omega, by show List.Perm [] (L.take 0); rw [List.take_zero], by intro k; simp [Srt], World.ownsRow_nil _ _ _ _, Below.refl _ _⟩
          case round =>
            obtain ⟨I, t, M, hI, rfl, HI, HML, HMP, HMB, HMH, hbo⟩ := hrel
            by_cases hIl : I < len
            · have e1 : (I : Int) < (len : Int) := by omega
              obtain ⟨mid, hmid⟩ : ∃ mid, mid = min (I + W) len := ⟨_, rfl⟩
              obtain ⟨en, hen⟩ : ∃ en, en = min (I + 2 * W) len := ⟨_, rfl⟩
              obtain ⟨xs, hxs⟩ : ∃ xs, xs = (L.drop I).take W := ⟨_, rfl⟩
              obtain ⟨ys, hys⟩ : ∃ ys, ys = (L.drop (I + W)).take W := ⟨_, rfl⟩
              have HXS : Hid (xs = (L.drop I).take (mid - I)) := by rw [hxs]; exact cut_one (by rw [HLL.out]; exact hmid) (by rw [HLL.out]; omega)
              have HYS : Hid (ys = (L.drop mid).take (en - mid)) := by rw [hys]; exact cut_two (by rw [HLL.out]; exact ⟨hmid, hen⟩)
              have hxl : xs.length = mid - I := by rw [HXS.out, List.length_take, List.length_drop, HLL.out]; omega
              have hyl : ys.length = en - mid := by rw [HYS.out, List.length_take, List.length_drop, HLL.out]; omega
              have HMX : Hid ((List.merge xs ys leC).length = en - I) := by show _ = _; rw [(merge_perm _ _).length_eq, List.length_append, hxl, hyl]; omega
              have HXL := hide hxl
              have HYL := hide hyl
              have HPS : Hid ((M ++ List.merge xs ys leC).Perm (L.take (I + 2 * W))) := by rw [hxs, hys]; exact perm_step HMP.out
              have HBS : Hid (Blk (2 * W) (M ++ List.merge xs ys leC)) := by
                have := blk_step (t := t) HB.out HMB.out (by rw [← HI.out, HML.out]; omega)
                rw [← HI.out] at this
                rw [hxs, hys]; exact this
              have HMOK : Hid (∀ c ∈ List.merge xs ys leC, c.ok) := by
                intro c hc
                have := (merge_perm xs ys).mem_iff.1 hc
                rw [hxs, hys] at this
                refine hok.out c ?_
                rcases List.mem_append.1 this with h | h <;> exact List.mem_of_mem_drop (List.mem_of_mem_take h)
              clear hxs hys hxl hyl HMP HMB HB
              have m1 : I < mid := by omega
              have m2 : mid ≤ en := by omega
              have m3 : en ≤ len := by omega
              have HMID := hide hmid
              have HEN := hide hen
              clear hmid hen
              go_upto_region 13 with fail
              go_cut [8] (fun v wc => v = .int .i64 mid ∧ wc = wr)
              case first =>
                by_cases c1 : I + W ≤ len
                · go_wp2
                  all_goals go_meet
                  have hm : mid = I + W := by rw [HMID.out]; omega
                  exact ⟨by rw [hm]; go_num, rfl⟩
                · go_wp2
                  all_goals go_meet
                  have hm : mid = len := by rw [HMID.out]; omega
                  exact ⟨by rw [hm], rfl⟩
              case rest =>
                obtain ⟨rfl, rfl⟩ := hcut
                go_upto_region 14 with fail
                go_cut [9] (fun v wc' => v = .int .i64 en ∧ wc' = wc)
                case first =>
                  by_cases c1 : I + 2 * W ≤ len
                  · go_wp2
                    all_goals go_meet
                    have hm : en = I + 2 * W := by rw [HEN.out]; omega
                    exact ⟨by rw [hm]; go_num, rfl⟩
                  · go_wp2
                    all_goals go_meet
                    have hm : en = len := by rw [HEN.out]; omega
                    exact ⟨by rw [hm], rfl⟩
                case rest =>
                  obtain ⟨rfl, rfl⟩ := hcut
                  obtain ⟨wb, hwb⟩ : ∃ wb : World, wb = wc := ⟨_, rfl⟩
                  subst hwb
                  have HMW : Hid (Holds3 wo.heap.size wb u6 M) := HMH
                  have HRW : Hid (conRow wb g 0 L) := fun i c hc => conAt_kept (HR.out i c hc) hbo
                  go_upto_region 15 with fail
                  go_cut [10] (fun v w2 => Hid (Holds3 wb.heap.size w2 v (List.merge xs ys leC)) ∧ Below wb.heap.size wb w2)
                  case first =>
                    have IX : IsCons wb.drew (some ⟨g, I * 3, none⟩) (mid - I) xs := by
                      rw [HXS.out]
                      exact piece (w := wb.drew) HRW.out hok.out I (mid - I) (by rw [← HXS.out, HXL.out]) (by omega) _ (fun _ => rfl)
                    have IY : ∀ ao, (0 < en - mid → ao = some ⟨g, mid * 3, none⟩) → IsCons wb.drew ao (en - mid) ys := by
                      intro ao ha
                      rw [HYS.out]
                      exact piece (w := wb.drew) HRW.out hok.out mid (en - mid) (by rw [← HYS.out, HYL.out]) (by omega) _ ha
                    have hzz : (mid - I + (en - mid)) * 32 ≤ 140737488351232 := by omega
                    have IX := hide IX
                    have IY := hide IY
                    have f1 : mid ≤ cap' := by omega
                    have f2 : I ≤ mid := by omega
                    have f3 : ¬ cap' = I := by omega
                    have f4 : en ≤ cap' := by omega
                    clear HX HP HLL HLW HR HMID HEN HPS HBS HMOK HML HMX HMH hbo HMW HRW HXS HYS HXL HYL hok hx3 m1 m3 e1 hIl hI hW1 hW2 hbase hcap hb hx2
                    by_cases hcm : mid < cap'
                    · have hc1 : ¬ cap' = mid := by omega
                      go_region_with (go_at_call 91; refine (merge_any _ _ _ _ _ _ xs ys _ IX.out (IY.out _ (fun _ => rfl)) hzz).mono ?_; rintro e w2 ⟨v, rfl, hv, hbv⟩)
                      all_goals (try go_wp2)
                      all_goals go_meet
                      all_goals exact ⟨hv, (below_drewN _ wb 1).trans hbv⟩
                    · have hc1 : cap' = mid := by omega
                      have IY0 : ∀ ao, IsCons wb.drew ao 0 ys := by
                        intro ao
                        have h0 : en - mid = 0 := by omega
                        have := IY.out ao (fun h => absurd h (by omega))
                        rw [h0] at this
                        exact this
                      have IY0 := hide IY0
                      have hzz0 : (mid - I + 0) * 32 ≤ 140737488351232 := by omega
                      obtain rfl := hc1
                      go_region_with (go_at_call 91; refine (merge_any _ _ _ _ 0 _ xs ys _ IX.out (IY0.out _) hzz0).mono ?_; rintro e w2 ⟨v, rfl, hv, hbv⟩)
                      all_goals (try go_wp2)
                      all_goals go_meet
                      all_goals exact ⟨hv, (below_drewN _ wb 1).trans hbv⟩
                  case rest =>
                    obtain ⟨HV, hbv⟩ := hcut
                    clear HMH HRW HMID
                    have hbo2 : Below wo.heap.size wo wc := hbo.trans (hbv.mono hbo.size)
                    have HM2 : Hid (wc.ownsRow wo.heap.size 34 3 u6 I (M.flatMap cells3)) := by
                      have := holds_grow HMW.out hbv
                      unfold Holds3 at this
                      rw [HML.out, Nat.min_eq_left (by omega)] at this
                      exact this
                    obtain ⟨ao2, cap2, rfl, hcap2, _, hgg2⟩ := holds_cons HV.out HMOK.out (by rw [HMX.out]; omega)
                    rw [HMX.out] at hcap2 hgg2
                    obtain ⟨g2, rfl, _, hg2⟩ := hgg2 (by omega)
                    have HN2 := hide (holds_news HV.out)
                    have HLE : Hid (((List.merge xs ys leC).flatMap cells3).length = (en - I) * 3) := by show _ = _; rw [len3, HMX.out]
                    clear HV HMW
                    rw [HMX.out]
                    go_wp2_with (at_builtin; refine wpList_append_lies _ rfl _ _ 32 rfl wo.heap.size 34 i0 (.agg #[.int .i64 0, .int .i64 0, .string ⟨#[]⟩]) 3 32 Try.underlying32 hi0 hz0 hz1 hz2 rfl (by decide) u6 I (M.flatMap cells3) rfl HM2.out ⟨g2, 0, none⟩ (en - I) cap2 ((List.merge xs ys leC).flatMap cells3) rfl HLE.out HN2.out (one3 _) (by omega) (by unfold maxLen; omega) (by omega) hbo2.size wc.heap.size rfl ?_; intro g3 cap3 w3 hown3 hgrow hat hlt)
                    have HN := hide (holds_append (n := I) (m := en - I) (by rw [HML.out]; omega) HMX.out.symm hown3)
                    have hb3 : Below wo.heap.size wo w3 := hbo2.grown hgrow hbo2.size (fun q hq => (HM2.out.lt q hq).1)
                    clear hown3 hgrow hat hlt HM2 HN2 HLE
                    have hM3 : Hid ((M ++ List.merge xs ys leC).length = min (I + 2 * W) len) := by
                      show _ = _
                      rw [List.length_append, HML.out, HMX.out, HEN.out]; omega
                    have hI3 : Hid (I + 2 * W = (t + 1) * (2 * W)) := by show _ = _; rw [Nat.add_mul t 1, ← HI.out, Nat.one_mul]
                    go_wp2
                    go_roundw
                    case rel => exact ⟨I + 2 * W, t + 1, M ++ List.merge xs ys leC, by omega, by go_num, hI3, hM3, HPS, HBS, HN, hb3⟩
                    case measure => simp [intOf]; omega
            · have e1 : ¬ (I : Int) < (len : Int) := by omega
              go_wp2
              go_roundw
              case rel => exact ⟨M, 2 * W, by omega, by omega, by go_num, (HMP.out.trans (by rw [List.take_of_length_le (by rw [HLL.out]; omega)])).trans HP.out, HMB.out, holds_mono hb.size HMH.out, hb.trans (hbo.mono hb.size)⟩
              case measure => simp [intOf]; omega
        · have e1 : ¬ (W : Int) < (L.length : Int) := by rw [hll]; omega
          rw [hll] at e1 ⊢
          have hll := HLL.out
          go_wp2
          go_ret
          rw [← hll]
          exact ⟨_, rfl, L, HL.out, blk_whole HB.out (by rw [HLL.out]; omega), HP.out, hb⟩
end Go.Proofs.Ythhoiejjejdffaa
