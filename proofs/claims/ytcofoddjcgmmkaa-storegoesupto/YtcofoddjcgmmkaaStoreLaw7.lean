/- edictlaw05.holds. -/
import Derived.Test.YtcofoddjcgmmkaaStoreLaw6
import Derived.Test.YtcofoddjcgmmkaaStoreHas
namespace Go.Proofs.Ytcofoddjcgmmkaa
set_option linter.unusedSimpArgs false
set_option linter.unusedVariables false
open Go.RowKit Go.Maps
variable {mk : Mk}

set_option maxRecDepth 100000 in
set_option maxHeartbeats 4000000 in
theorem holds_st {w : World} {p : Nat} {own : Own} {ar : List Int} {W : List Rw} {M : Nat} (h : Keeps mk w p own ar W M) (hM : M < 549755813888) {wa : Option Addr} {wn wc : Nat} (hw : FreeRows w own wa wn W) {pr : Nat} (hpr : pr < 1000000) :
    Calls Try.prog 12 #[.pointer (some ⟨p, 0, none⟩), .int .i64 (pr : Int), .slice wa wn wc] w fun e w' => e = .returned (.bool true) ∧ Below w.heap.size w w' := by
  obtain ⟨j0, hj0, hy0, hy1, hy2⟩ := info_parts Try.infoInt5
  have HK := hide h
  have HW := hide hw
  have HTl := hide (told_st h hM)
  have hn := h.num
  rw [hw.1] at hn
  clear h hw
  go_enter Try.func12, Try.ntmps12
  go_wp2_with (go_at_call 32; refine HTl.out.mono ?_; rintro e w1 ⟨v1, rfl, m1, h1⟩; obtain ⟨la, lc, rfl, -⟩ := m1.shape; rw [HW.out.1] at m1; rw [HW.out.1]; have HM1 := hide m1; have HB1 := hide h1; clear m1 h1)
  go_loopw [9] (fun i wl => ∃ k : Nat, k ≤ wn ∧ i = .int .i64 k ∧ Hid (Below w1.heap.size w1 wl)) (fun i _ => wn - (intOf i).toNat)
  case atStart => exact ⟨0, by omega, rfl, Below.refl _ _⟩
  case round =>
    obtain ⟨k, hk, rfl, HB⟩ := hrel
    have HBw := hide (HB1.out.trans (HB.out.mono HB1.out.size))
    by_cases hlt : k < wn
    · have hi : (k : Int) < (wn : Int) := by omega
      have hi0 : (0 : Int) ≤ (k : Int) := by omega
      obtain ⟨b1, o1, rfl, -, hr1⟩ := HW.out.2.2.2 (by omega)
      obtain ⟨b2, o2, rfl, -, hr2⟩ := (HM1.out.free (by rw [HW.out.1]; omega)).2.2.2 (by omega)
      obtain ⟨r, hr⟩ : ∃ r, W[k]? = some r := ⟨_, List.getElem?_eq_getElem (by rw [HW.out.1]; omega)⟩
      obtain ⟨y0, ra, rc, y1, hf1⟩ := hr1 k r hr
      obtain ⟨z0, sa, sc, z1, hf2⟩ := hr2 k r hr
      have y0' := over_cell (kept_cell HBw.out y0)
      have y1' := over_cell (kept_cell HBw.out y1)
      have z0' := over_cell (kept_cell HB.out z0)
      have z1' := over_cell (kept_cell HB.out z1)
      have hat := HK.out.at hr
      have hI := HW.out.2.2.1 r (List.mem_of_getElem? hr)
      have HEq : Hid (∀ x, Calls Try.prog 17 #[.agg #[.int .i64 r.1, .slice sa r.2.length sc], .agg #[.int .i64 r.1, .slice ra r.2.length rc]] (over wr x) fun e w' => e = .returned (.bool true) ∧ Below (over wr x).heap.size (over wr x) w') := fun x => by
        have := equal_any (q1 := r.1) (q2 := r.1) (c1 := sc) (c2 := rc) (hf2.1.kept (over_bel (x := x) HB.out HB.out.size)) (hf1.1.kept (over_bel (x := x) HBw.out HBw.out.size))
        rw [show eqRw (r.1, r.2) (r.1, r.2) = true from (eqRw_iff _ _).2 rfl] at this
        exact this
      have HNm : Hid (∀ x, Calls Try.prog 23 #[.pointer (some ⟨p, 0, none⟩), .agg #[.int .i64 r.1, .slice ra r.2.length rc]] (over wr x) fun e w' => e = .returned (.int .i64 (k : Int)) ∧ Below (over wr x).heap.size (over wr x) w') := fun x => by
        have := num_any (cap := rc) (HK.out.1.below (over_bel (x := x) HBw.out HBw.out.size)) hI (hf1.1.kept (over_bel (x := x) HBw.out HBw.out.size))
        rw [hat] at this
        exact this
      have HHs : Hid (∀ x, Calls Try.prog 33 #[.pointer (some ⟨p, 0, none⟩), .agg #[.int .i64 r.1, .slice ra r.2.length rc]] (over wr x) fun e w' => e = .returned (.bool true) ∧ Below (over wr x).heap.size (over wr x) w') := fun x => by
        have := has_any (cap := rc) (HK.out.1.below (over_bel (x := x) HBw.out HBw.out.size)) hI (hf1.1.kept (over_bel (x := x) HBw.out HBw.out.size))
        rw [hat] at this
        simpa using this
      have hkk : ((k : Int) != (k : Int)) = false := by simp
      clear hr1 hr2 hr y0 y1 z0 z1 hf1 hf2 hat hI
      go_wp2
      refine wp_region_over (fun W => W = wr) (by kernel_rfl) (by kernel_rfl) rfl ?_
      rintro V rfl
      repeat (go_big_quiet_step (first | (go_at_call 17; exact calls_over (HEq.out _)) | (go_at_call 23; exact calls_over (HNm.out _)) | (go_at_call 33; exact calls_over (HHs.out _))))
      refine wpQuiet_nil ?_
      rintro _ ⟨z, rfl⟩
      have HB3 := hide (HB.out.trans ((over_below V z).mono HB.out.size))
      clear y0' y1' z0' z1'
      go_wp2
      go_roundw
      case rel => exact ⟨k + 1, by omega, by go_num, HB3⟩
      case measure => simp [intOf]; omega
    · obtain rfl : k = wn := by omega
      have hi : ¬ (k : Int) < (k : Int) := by omega
      generalize wr = w2 at *
      clear HTl HM1
      go_wp2
      go_loopw [10, 11, 12] (fun q _ _ wl => ∃ j : Nat, j ≤ pr + 2 ∧ q = .int .i64 ((j : Int) - 1) ∧ Hid (Below w.heap.size w wl)) (fun q _ _ _ => pr + 2 - (intOf q + 1).toNat)
      case atStart => exact ⟨0, by omega, rfl, HBw.out⟩
      case round =>
        obtain ⟨j, hj, rfl, HBo⟩ := hrel
        generalize wr = wo at *
        by_cases hlt2 : j ≤ pr + 1
        · have hj1 : (j : Int) - 1 ≤ (pr : Int) := by omega
          obtain ⟨q, hq⟩ : ∃ q : Int, (j : Int) - 1 = q := ⟨_, rfl⟩
          have HQ := hide hq
          have hq1 : -1 ≤ q ∧ q ≤ 1000000 := by omega
          obtain ⟨hq1, hq2⟩ := hq1
          rw [hq] at hj1 ⊢
          clear hq
          go_wp2
          go_loopw [11, 12] (fun o c wl => ∃ i : Nat, i ≤ k ∧ c = .int .i64 i ∧ Hid (wl.ownsRow wo.heap.size 3 1 o (posP (W.take i) q).length (ints (posP (W.take i) q))) ∧ Hid (Below wo.heap.size wo wl)) (fun _ c _ => k - (intOf c).toNat)
          case atStart => exact ⟨0, by omega, rfl, World.ownsRow_nil _ _ _ _, Below.refl _ _⟩
          case round =>
            obtain ⟨i, hi2, rfl, HO, HBi⟩ := hrel
            obtain ⟨oa, oc, rfl, -, -, -⟩ := own_shape6 HO.out
            have HBx := hide (HBo.out.trans (HBi.out.mono HBo.out.size))
            by_cases hlt3 : i < k
            · have hi3 : (i : Int) < (k : Int) := by omega
              have hi0 : (0 : Int) ≤ (i : Int) := by omega
              obtain ⟨b1, o1, rfl, -, hr1⟩ := HW.out.2.2.2 (by omega)
              obtain ⟨r, hr⟩ : ∃ r, W[i]? = some r := ⟨_, List.getElem?_eq_getElem (by rw [HW.out.1]; omega)⟩
              have x0 := kept_cell HBx.out (hr1 i r hr).1
              have hil : (W.take i).length = i := by rw [List.length_take, HW.out.1]; omega
              have HPs : Hid (posP (W.take (i + 1)) q = if r.1 = q then posP (W.take i) q ++ [(i : Int)] else posP (W.take i) q) := by
                show _ = _
                rw [List.take_add_one, hr]
                have := posP_snoc (W.take i) r q
                rw [hil] at this
                exact this
              have hpl := (posP_len (W.take i) q).1
              rw [hil] at hpl
              clear hr1 hr hil
              generalize posP (W.take i) q = P0 at *
              by_cases hrq : r.1 = q
              · have hrq2 : (r.1 == q) = true := by simpa using hrq
                rw [if_pos hrq] at HPs
                clear hrq
                obtain ⟨xs, hxs⟩ : ∃ xs, ints P0 = xs := ⟨_, rfl⟩
                have HXs := hide hxs
                obtain ⟨m, hm⟩ : ∃ m, P0.length = m := ⟨_, rfl⟩
                have HMl := hide hm
                rw [hxs, hm] at HO
                rw [hm] at hpl ⊢
                clear hxs hm
                go_wp2_with (first
                  | (at_builtin; refine wpList_append_any rfl _ _ 22 rfl wo.heap.size 3 j0 (.int .i64 0) 1 8 Try.underlying22 hj0 hy0 hy1 hy2 rfl (by decide) _ m xs rfl (own_kept6 HO.out ((Below.refl _ _).alloc (Nat.le_refl _) _)) (some ⟨wr.heap.size, 0, none⟩) 1 1 [.int .i64 (i : Int)] rfl (fun h => by cases h) rfl (fun ad h => by cases h; exact World.news_of_block (cs := #[.int .i64 (i : Int)]) (t := 3) (fr := (0, 0)) (heap_alloc_new wr _)) (by simp [Value.oneCell']) (by unfold maxLen; omega) (by omega) (by simp; have := HBi.out.size; omega) ?_))
                intro v3 w3 hown3 hgrow
                have hB3 : Below wo.heap.size wo w3 := below_grown (HBi.out.alloc HBi.out.size _) (own_kept6 HO.out ((Below.refl _ _).alloc (Nat.le_refl _) (.cells #[.int .i64 (i : Int)] 3))) hgrow (by simp; have := HBi.out.size; omega)
                have HO3 := hide hown3
                have HB3 := hide hB3
                clear hown3 hgrow hB3
                go_wp2
                go_roundw
                case rel => exact ⟨i + 1, by omega, by go_num, by
                  show World.ownsRow _ _ _ _ _ _ _
                  rw [HPs.out, List.length_append, HMl.out, show ints (P0 ++ [(i : Int)]) = ints P0 ++ [.int .i64 (i : Int)] from by simp [ints], HXs.out]
                  exact HO3.out, HB3.out⟩
                case measure => simp [intOf]; omega
              · have hrq2 : (r.1 == q) = false := by simpa using hrq
                rw [if_neg hrq] at HPs
                clear hrq
                go_wp2
                go_roundw
                case rel => exact ⟨i + 1, by omega, by go_num, by show World.ownsRow _ _ _ _ _ _ _; rw [HPs.out]; exact HO.out, HBi.out⟩
                case measure => simp [intOf]; omega
            · obtain rfl : i = k := by omega
              have hi3 : ¬ (i : Int) < (i : Int) := by omega
              have hfull : W.take i = W := List.take_of_length_le (by rw [HW.out.1]; exact Nat.le_refl _)
              rw [hfull] at HO ⊢
              have hpl := posP_len W q
              have HOf := hide (of_st (HK.out.below HBx.out) hM (x := q) ⟨by omega, by omega⟩)
              have HIn : Hid (IsInts wr oa (posP W q).length (posP W q)) := own_isInts HO.out (fun x hx => by have := hpl.2 x hx; rw [HW.out.1] at this; exact ⟨by omega, by omega⟩) (by have := hpl.1; rw [HW.out.1] at this; omega)
              clear hfull hpl HO
              go_wp2_with fail
              refine HOf.out.mono ?_
              rintro e w3 ⟨fa, fc, rfl, f1, f2⟩
              have HEq := hide (equalInts_any (c1 := fc) (c2 := oc) f1 (HIn.out.kept f2))
              rw [beq_self_eq_true] at HEq
              have HB3 := hide (HBx.out.trans (f2.mono HBx.out.size))
              clear f1 f2 HOf HIn
              generalize (posP W q).length = m at *
              go_wp2_with (go_at_call 19; refine HEq.out.mono ?_; rintro e w4 ⟨rfl, h4⟩; have HB4 := hide (HB3.out.trans (h4.mono HB3.out.size)); clear h4)
              go_roundw
              case rel => exact ⟨j + 1, by omega, by have := HQ.out; go_num, HB4.out⟩
              case measure => have := HQ.out; simp [intOf]; omega
        · obtain rfl : j = pr + 2 := by omega
          have hj1 : ¬ ((pr + 2 : Nat) : Int) - 1 ≤ (pr : Int) := by omega
          go_wp2
          go_ret
          exact ⟨rfl, HBo.out⟩
end Go.Proofs.Ytcofoddjcgmmkaa
