/- The document's table of who reaches whom. (Its drawn region by RegionLast's law, an operation at a time.) -/
import Derived.Test.YtjifhmlfnnagcaaReachPure
import Derived.Test.YtjifhmlfnnagcaaEdgeRFit
import Derived.Test.YtjifhmlfnnagcaaRegionLast
namespace Go.Proofs.Ytjifhmlfnnagcaa
set_option linter.unusedSimpArgs false
set_option linter.unusedVariables false
open Go.RowKit Go.Maps

theorem Try.infoSlb8 : (Try.prog.info? 43).map (fun i => (i.zero, i.size, i.bytes)) = some (some (.slice none 0 0), 1, 24) := by kernel_rfl
theorem Try.infoBool8 : (Try.prog.info? 4).map (fun i => (i.zero, i.size, i.bytes)) = some (some (.bool false), 1, 1) := by kernel_rfl

set_option maxRecDepth 100000 in
set_option maxHeartbeats 4000000 in
theorem rreach_any {w : World} {v : Value} {es : List Edg} {n : Nat} (h : Has elEdg w v es) (hfit : fitP n es = true) :
    Calls Try.prog 21 #[.int .i64 n, v] w fun e w' => ∃ (tv : Value) (gs : List Nat) (f : Nat → Nat → Bool), e = .returned tv ∧ gs.length = n ∧ TabAt w.heap.size w' tv n gs f ∧ (∀ i j, i < n → j < n → (f i j = true ↔ Wk (Ed n (lnkT es)) n i j)) ∧ Below w.heap.size w w' := by
  have hn : n ≤ 128 := by have := (fit_in8 hfit).1; omega
  obtain ⟨is, his, hs0, hs1, hs2⟩ := info_parts Try.infoSlb8
  have hmk := fun W : World => run_make_row' (P := Try.prog) 43 4 (.bool false) 1 Try.underlying43 Try.infoBool8 rfl .i64 .i64 n (by omega) (by omega) W
  obtain ⟨va, vc, rfl, -, -, hlen⟩ := h.shape
  obtain ⟨q, hq⟩ : ∃ q, es.length = q := ⟨_, rfl⟩
  have HQ := hide hq
  have HIn := hide (fit_in8 hfit).2
  have HL := hide h
  rw [hq] at HL hlen ⊢
  clear h hfit hq
  go_enter Try.func21, Try.ntmps21
  go_wp2
  go_loopw [5, 6] (fun tv y wl => ∃ (i : Nat) (gs : List Nat), i ≤ n ∧ y = .int .i64 i ∧ Hid (gs.length = i) ∧ Hid (TabAt w.heap.size wl tv n gs (fun _ _ => false)) ∧ Hid (Below w.heap.size w wl)) (fun _ y _ => n - (intOf y).toNat)
  case atStart => exact ⟨0, [], by omega, rfl, rfl, ⟨Grow.nil _ _ _ _, List.nodup_nil, fun k g hk => by simp at hk⟩, Below.refl _ _⟩
  case round =>
    obtain ⟨i, gs, hi, rfl, HGl, HT, HB⟩ := hrel
    obtain ⟨la, lc, hlv, -, -⟩ := HT.out.grow.shape
    rw [List.length_map, HGl.out] at hlv
    subst hlv
    by_cases hlt : i < n
    · have hi1 : (i : Int) < (n : Int) := by omega
      have hi0 : (0 : Int) ≤ (i : Int) := by omega
      have hb1 := belo1 wr (.cells (madeCells #[.bool false] n) 4)
      have hb2 := belo1 (wr.alloc (.cells (madeCells #[.bool false] n) 4)) (.cells #[.slice (some ⟨wr.heap.size, 0, none⟩) n n] 43)
      have HT2 := hide ((HT.out.kept hb1).kept hb2)
      have hr0 := World.rowIs_made wr (.bool false) n 4
      have HR2 := hide (hr0.of_block (hb2.block _ hr0.lt))
      have HB2 := hide ((HB.out.alloc HB.out.size (.cells (madeCells #[.bool false] n) 4)).alloc (HB.out.alloc HB.out.size (.cells (madeCells #[.bool false] n) 4)).size (.cells #[.slice (some ⟨wr.heap.size, 0, none⟩) n n] 43))
      have HGm : Hid ((gs.map (slN n)).length = i) := by show _ = _; rw [List.length_map, HGl.out]
      have HSz : Hid (w.heap.size ≤ wr.heap.size) := HB.out.size
      have HNe : Hid ((Value.slice la i lc).ownBlock ≠ some wr.heap.size) := fun e => by have := own_lt6 HT.out.grow.1 _ e; omega
      have HNm : Hid (wr.heap.size ∉ gs) := fun hm => by have := HT.out.lt hm; omega
      have HMe := hide (show (wr.alloc (.cells (madeCells #[.bool false] n) 4)).heap.size = wr.heap.size + 1 by simp)
      clear hb1 hb2 hr0 HT HB
      go_wp2_with (at_builtin; refine wpList_pushs_keep (w0 := (wr.alloc (.cells (madeCells #[.bool false] n) 4)).alloc (.cells #[.slice (some ⟨wr.heap.size, 0, none⟩) n n] 43)) elSl rfl _ _ 41 rfl w.heap.size 43 is _ 24 Try.underlying41 his hs0 hs1 hs2 rfl (by decide) _ (gs.map (slN n)) rfl HT2.out.grow [slN n wr.heap.size] 1 rfl (wr.alloc (.cells (madeCells #[.bool false] n) 4)).heap.size 1 (by go_simp) (fun j u hu => new_cells (w := wr.alloc (.cells (madeCells #[.bool false] n) 4)) (cs := #[.slice (some ⟨wr.heap.size, 0, none⟩) n n]) j u hu) (fun z hz _ _ => by rcases List.mem_append.1 hz with h | h; exact HT2.out.grow.2 z h; rw [List.mem_singleton.1 h]; rfl) (by rw [HGm.out]; omega) (Below.refl _ _) HB2.out.size ?_; intro v4 W4 HX4 HG4 HB4 HGr4 HOw4)
      obtain ⟨g4, c4, hv4, -, -⟩ := HX4.out.1.form (by rw [List.length_append]; exact Nat.succ_pos _)
      rw [show (gs.map (slN n) ++ [slN n wr.heap.size]).length = i + 1 by rw [List.length_append, HGm.out]; rfl] at hv4
      subst hv4
      have HTn := hide (HT2.out.push HGr4.out HX4.out HOw4.out HR2.out HSz.out HNe.out HNm.out)
      have HBn := hide (HB2.out.trans HB4.out)
      have HGn : Hid ((gs ++ [wr.heap.size]).length = i + 1) := by show _ = _; rw [List.length_append, HGl.out]; rfl
      clear HX4 HG4 HB4 HGr4 HOw4
      go_wp2
      go_roundw
      case rel => exact ⟨i + 1, _, by omega, by go_num, HGn, HTn, HBn⟩
      case measure => simp [intOf]; omega
    · obtain rfl : n = i := by omega
      have hi1 : ¬ (n : Int) < (n : Int) := by omega
      have HT0 : Hid (TabAt w.heap.size wr (.slice la n lc) n gs (fun u v => lnkT (es.take 0) u v)) := HT.out.congr fun _ _ _ _ => by simp [lnkT]
      clear HT hmk
      go_wp2
      go_loopw [7] (fun y wl => ∃ i : Nat, i ≤ q ∧ y = .int .i64 i ∧ Hid (TabAt w.heap.size wl (.slice la n lc) n gs (fun u v => lnkT (es.take i) u v)) ∧ Hid (Below w.heap.size w wl)) (fun y _ => q - (intOf y).toNat)
      case atStart => exact ⟨0, by omega, rfl, HT0, HB⟩
      case round =>
        clear HT0 HB
        obtain ⟨i, hi, rfl, HT, HB⟩ := hrel
        by_cases hlt : i < q
        · have hi1 : (i : Int) < (q : Int) := by omega
          have hi0 : (0 : Int) ≤ (i : Int) := by omega
          obtain ⟨b, off, rfl, -, -, hrow⟩ := HL.out.row (by rw [HQ.out]; omega)
          obtain ⟨x, hx⟩ : ∃ x, es[i]? = some x := ⟨_, List.getElem?_eq_getElem (by rw [HQ.out]; exact hlt)⟩
          have y0 := kept_cell HB.out (hrow i x hx 0 _ rfl)
          have y1 := kept_cell HB.out (hrow i x hx 1 _ rfl)
          simp only [elEdg, Nat.add_zero] at y0 y1
          obtain ⟨q1, q2, q3, q4⟩ := HIn.out x (List.mem_of_getElem? hx)
          have HTk := hide (fun u v => lnkT_take hx u v)
          clear hrow hx
          obtain ⟨f, t, neg, r⟩ := x
          obtain ⟨kf, rfl⟩ : ∃ kf : Nat, f = kf := ⟨f.toNat, by dsimp only at q1; omega⟩
          obtain ⟨kt, rfl⟩ : ∃ kt : Nat, t = kt := ⟨t.toNat, by dsimp only at q3; omega⟩
          dsimp only at q1 q2 q3 q4 y0 y1
          obtain ⟨gt, cap, hgt, hout⟩ := HT.out.outer (by rw [HGl.out]; omega)
          rw [HGl.out] at hgt
          cases hgt
          obtain ⟨gf, hgf⟩ : ∃ g, gs[kf]? = some g := ⟨_, List.getElem?_eq_getElem (by rw [HGl.out]; omega)⟩
          have z0 := hout kf gf hgf
          simp only [slN] at z0
          obtain ⟨hrw, hbg, -⟩ := HT.out.row kf gf hgf
          have z1 := hrw.cell (i := kt) (by omega)
          have z1f := hrw.frozen kt
          have HBg := hide hbg
          have HTn : Hid (TabAt w.heap.size (wr.drew.setCell ⟨gf, kt, none⟩ (.bool true)) (.slice (some ⟨gt, 0, none⟩) n lc) n gs (fun u v => lnkT (es.take (i + 1)) u v)) := (HT.out.drew.set hgf kt).congr fun a c _ _ => by
            rw [HTk.out a c]
            unfold updTb isE
            by_cases e : a = kf ∧ c = kt
            · rw [if_pos e]; obtain ⟨rfl, rfl⟩ := e; simp
            · rw [if_neg e]
              have : (((kf : Int) == (a : Int)) && ((kt : Int) == (c : Int))) = false := by
                rw [Bool.and_eq_false_iff]
                by_cases e1 : a = kf
                · right; simp; omega
                · left; simp; omega
              rw [this, Bool.or_false]
          clear hout hgf hrw hbg
          go_upto_region 9 with fail
          refine wp_region_last (by kernel_rfl) (fun V => V.cell? ⟨b, off + i * 4, none⟩ = some (.int .i64 (kf : Int)) ∧ V.cell? ⟨b, off + i * 4 + 1, none⟩ = some (.int .i64 (kt : Int)) ∧ V.cell? ⟨gt, kf, none⟩ = some (.slice (some ⟨gf, 0, none⟩) n n)) 14 ?_
          have HS1 : wr.drew.cell? ⟨b, off + i * 4, none⟩ = some (.int .i64 (kf : Int)) ∧ wr.drew.cell? ⟨b, off + i * 4 + 1, none⟩ = some (.int .i64 (kt : Int)) ∧ wr.drew.cell? ⟨gt, kf, none⟩ = some (.slice (some ⟨gf, 0, none⟩) n n) := ⟨y0, y1, z0⟩
          refine wpAnyM_take (i := 0) (v := ?_) rfl (by kernel_rfl) (by kernel_rfl) (by kernel_rfl) (by kernel_rfl) (fun _ _ _ h => h) HS1 (Or.inl ⟨by rfl, ?_⟩) ?_
          rotate_left
          · (intro w hSw; (try dsimp only at hSw); go_simp; try with_reducible rfl)
          simp only [Act.put, List.setIfInBounds_toArray, List.set_cons_zero, List.set_cons_succ]
          refine wpAnyM_take (i := 1) (v := ?_) rfl (by kernel_rfl) (by kernel_rfl) (by kernel_rfl) (by kernel_rfl) (fun _ _ _ h => h) HS1 (Or.inl ⟨by rfl, ?_⟩) ?_
          rotate_left
          · (intro w hSw; (try dsimp only at hSw); go_simp; try with_reducible rfl)
          simp only [Act.put, List.setIfInBounds_toArray, List.set_cons_zero, List.set_cons_succ]
          refine wpAnyM_take (i := 2) (v := ?_) rfl (by kernel_rfl) (by kernel_rfl) (by kernel_rfl) (by kernel_rfl) (fun _ _ _ h => h) HS1 (Or.inl ⟨by rfl, ?_⟩) ?_
          rotate_left
          · (intro w hSw; (try dsimp only at hSw); go_simp; try with_reducible rfl)
          simp only [Act.put, List.setIfInBounds_toArray, List.set_cons_zero, List.set_cons_succ]
          refine wpAnyM_take (i := 3) (v := ?_) rfl (by kernel_rfl) (by kernel_rfl) (by kernel_rfl) (by kernel_rfl) (fun _ _ _ h => h) HS1 (Or.inl ⟨by rfl, ?_⟩) ?_
          rotate_left
          · (intro w hSw; (try dsimp only at hSw); go_simp; try with_reducible rfl)
          simp only [Act.put, List.setIfInBounds_toArray, List.set_cons_zero, List.set_cons_succ]
          refine wpAnyM_take (i := 4) (v := ?_) rfl (by kernel_rfl) (by kernel_rfl) (by kernel_rfl) (by kernel_rfl) (fun _ _ _ h => h) HS1 (Or.inl ⟨by rfl, ?_⟩) ?_
          rotate_left
          · (intro w hSw; (try dsimp only at hSw); go_simp; try with_reducible rfl)
          simp only [Act.put, List.setIfInBounds_toArray, List.set_cons_zero, List.set_cons_succ]
          refine wpAnyM_take (i := 5) (v := ?_) rfl (by kernel_rfl) (by kernel_rfl) (by kernel_rfl) (by kernel_rfl) (fun _ _ _ h => h) HS1 (Or.inl ⟨by rfl, ?_⟩) ?_
          rotate_left
          · (intro w hSw; (try dsimp only at hSw); go_simp; try with_reducible rfl)
          simp only [Act.put, List.setIfInBounds_toArray, List.set_cons_zero, List.set_cons_succ]
          refine wpAnyM_take (i := 6) (v := ?_) rfl (by kernel_rfl) (by kernel_rfl) (by kernel_rfl) (by kernel_rfl) (fun _ _ _ h => h) HS1 (Or.inl ⟨by rfl, ?_⟩) ?_
          rotate_left
          · (intro w hSw; (try dsimp only at hSw); go_simp; try with_reducible rfl)
          simp only [Act.put, List.setIfInBounds_toArray, List.set_cons_zero, List.set_cons_succ]
          refine wpAnyM_take (i := 7) (v := ?_) rfl (by kernel_rfl) (by kernel_rfl) (by kernel_rfl) (by kernel_rfl) (fun _ _ _ h => h) HS1 (Or.inl ⟨by rfl, ?_⟩) ?_
          rotate_left
          · (intro w hSw; (try dsimp only at hSw); go_simp; try with_reducible rfl)
          simp only [Act.put, List.setIfInBounds_toArray, List.set_cons_zero, List.set_cons_succ]
          refine wpAnyM_take (i := 8) (v := ?_) rfl (by kernel_rfl) (by kernel_rfl) (by kernel_rfl) (by kernel_rfl) (fun _ _ _ h => h) HS1 (Or.inl ⟨by rfl, ?_⟩) ?_
          rotate_left
          · (intro w hSw; (try dsimp only at hSw); go_simp; try with_reducible rfl)
          simp only [Act.put, List.setIfInBounds_toArray, List.set_cons_zero, List.set_cons_succ]
          refine wpAnyM_take (i := 9) (v := ?_) rfl (by kernel_rfl) (by kernel_rfl) (by kernel_rfl) (by kernel_rfl) (fun _ _ _ h => h) HS1 (Or.inl ⟨by rfl, ?_⟩) ?_
          rotate_left
          · (intro w hSw; (try dsimp only at hSw); go_simp; try with_reducible rfl)
          simp only [Act.put, List.setIfInBounds_toArray, List.set_cons_zero, List.set_cons_succ]
          refine wpAnyM_take (i := 10) (v := ?_) rfl (by kernel_rfl) (by kernel_rfl) (by kernel_rfl) (by kernel_rfl) (fun _ _ _ h => h) HS1 (Or.inl ⟨by rfl, ?_⟩) ?_
          rotate_left
          · (intro w hSw; (try dsimp only at hSw); go_simp; try with_reducible rfl)
          simp only [Act.put, List.setIfInBounds_toArray, List.set_cons_zero, List.set_cons_succ]
          refine wpAnyM_take (i := 11) (v := ?_) rfl (by kernel_rfl) (by kernel_rfl) (by kernel_rfl) (by kernel_rfl) (fun _ _ _ h => h) HS1 (Or.inl ⟨by rfl, ?_⟩) ?_
          rotate_left
          · (intro w hSw; (try dsimp only at hSw); go_simp; try with_reducible rfl)
          simp only [Act.put, List.setIfInBounds_toArray, List.set_cons_zero, List.set_cons_succ]
          refine wpAnyM_take (i := 12) (v := ?_) rfl (by kernel_rfl) (by kernel_rfl) (by kernel_rfl) (by kernel_rfl) (fun _ _ _ h => h) HS1 (Or.inl ⟨by rfl, ?_⟩) ?_
          rotate_left
          · (intro w hSw; (try dsimp only at hSw); go_simp; try with_reducible rfl)
          simp only [Act.put, List.setIfInBounds_toArray, List.set_cons_zero, List.set_cons_succ]
          refine wpAnyM_take (i := 13) (v := ?_) rfl (by kernel_rfl) (by kernel_rfl) (by kernel_rfl) (by kernel_rfl) (fun _ _ _ h => h) HS1 (Or.inl ⟨by rfl, ?_⟩) ?_
          rotate_left
          · (intro w hSw; (try dsimp only at hSw); go_simp; try with_reducible rfl)
          simp only [Act.put, List.setIfInBounds_toArray, List.set_cons_zero, List.set_cons_succ]
          refine wpAnyM_end (by kernel_rfl) rfl (by kernel_rfl) (fun K hK => ?_)
          go_simp
          refine hK.out _ _ ?_
          clear hK K
          go_wp2
          go_roundw
          case rel => exact ⟨i + 1, by omega, by go_num, HTn, HB.out.drew.setCell HBg.out _⟩
          case measure => simp [intOf]; omega
        · obtain rfl : q = i := by omega
          have hi1 : ¬ (q : Int) < (q : Int) := by omega
          rw [List.take_of_length_le (by rw [HQ.out]; exact Nat.le_refl _)] at HT
          have HS0 : Hid (Snd n (lnkT es) (fun u v => lnkT es u v && (decide (u < n) && decide (v < n)))) := fun a c e => by
            simp at e
            exact .edge ⟨e.2.1, e.2.2, e.1⟩
          have HC0 : Hid (Cmp3 n (lnkT es) (fun u v => lnkT es u v && (decide (u < n) && decide (v < n))) 0 0 0) := fun a c ha hc => ⟨fun e => by simp [(wk_zero e).2.2, ha, hc], fun e => by omega⟩
          have HT0 := hide (HT.out.congr (f' := fun u v => lnkT es u v && (decide (u < n) && decide (v < n))) fun a c ha hc => by rw [HGl.out] at ha; simp [ha, hc])
          clear HT
          go_wp2
          go_loopw [8] (fun y wl => ∃ (k : Nat) (f : Nat → Nat → Bool), k ≤ n ∧ y = .int .i64 k ∧ Hid (TabAt w.heap.size wl (.slice la n lc) n gs f) ∧ Hid (Snd n (lnkT es) f) ∧ Hid (Cmp3 n (lnkT es) f k 0 0) ∧ Hid (Below w.heap.size w wl)) (fun y _ => n - (intOf y).toNat)
          case atStart => exact ⟨0, _, by omega, rfl, HT0, HS0, HC0, HB⟩
          case round =>
            clear HT0 HS0 HC0 HB
            obtain ⟨k, f, hk, rfl, HT, HS, HC, HB⟩ := hrel
            by_cases hlt : k < n
            · have hk1 : (k : Int) < (n : Int) := by omega
              have hk0 : (0 : Int) ≤ (k : Int) := by omega
              obtain ⟨gk, hgk⟩ : ∃ g, gs[k]? = some g := ⟨_, List.getElem?_eq_getElem (by rw [HGl.out]; omega)⟩
              have HGk := hide hgk
              obtain ⟨gt, cap, hgt, -⟩ := HT.out.outer (by rw [HGl.out]; omega)
              rw [HGl.out] at hgt
              cases hgt
              clear hgk
              go_wp2
              go_loopw [9] (fun y wl => ∃ (i : Nat) (f : Nat → Nat → Bool), i ≤ n ∧ y = .int .i64 i ∧ Hid (TabAt w.heap.size wl (.slice (some ⟨gt, 0, none⟩) n lc) n gs f) ∧ Hid (Snd n (lnkT es) f) ∧ Hid (Cmp3 n (lnkT es) f k i 0) ∧ Hid (Below w.heap.size w wl)) (fun y _ => n - (intOf y).toNat)
              case atStart => exact ⟨0, f, by omega, rfl, HT, HS, HC, HB⟩
              case round =>
                clear HT HS HC HB
                obtain ⟨i, f, hi, rfl, HT, HS, HC, HB⟩ := hrel
                by_cases hlt2 : i < n
                · have hi1 : (i : Int) < (n : Int) := by omega
                  have hi0 : (0 : Int) ≤ (i : Int) := by omega
                  obtain ⟨gi, hgi⟩ : ∃ g, gs[i]? = some g := ⟨_, List.getElem?_eq_getElem (by rw [HGl.out]; omega)⟩
                  have HGi := hide hgi
                  clear hgi
                  go_wp2
                  go_loopw [10] (fun y wl => ∃ (j : Nat) (f : Nat → Nat → Bool), j ≤ n ∧ y = .int .i64 j ∧ Hid (TabAt w.heap.size wl (.slice (some ⟨gt, 0, none⟩) n lc) n gs f) ∧ Hid (Snd n (lnkT es) f) ∧ Hid (Cmp3 n (lnkT es) f k i j) ∧ Hid (0 < j → f i k = true) ∧ Hid (Below w.heap.size w wl)) (fun y _ => n - (intOf y).toNat)
                  case atStart => exact ⟨0, f, by omega, rfl, HT, HS, HC, fun h => absurd h (Nat.lt_irrefl _), HB⟩
                  case round =>
                    clear HT HS HC HB
                    obtain ⟨j, f, hj, rfl, HT, HS, HC, HJ, HB⟩ := hrel
                    obtain ⟨gt2, cap2, hgt2, hout⟩ := HT.out.outer (by rw [HGl.out]; omega)
                    rw [HGl.out] at hgt2
                    cases hgt2
                    have z0 := hout i gi HGi.out
                    have z1 := hout k gk HGk.out
                    simp only [slN] at z0 z1
                    have x0 := (HT.out.row i gi HGi.out).1.cell (i := k) hlt
                    clear hout
                    cases hik : f i k with
                    | false =>
                      rw [hik] at x0
                      have hj0 : j = 0 := by
                        rcases Nat.eq_zero_or_pos j with h | h
                        · exact h
                        · have := HJ.out h; rw [hik] at this; cases this
                      subst hj0
                      have HCn := hide (HC.out.skip hlt hlt2 hik)
                      go_wp2
                      go_roundw
                      case rel => exact ⟨i + 1, f, by omega, by go_num, HT, HS, HCn, HB⟩
                      case measure => simp [intOf]; omega
                    | true =>
                      rw [hik] at x0
                      by_cases hlt3 : j < n
                      · have hj1 : (j : Int) < (n : Int) := by omega
                        have hj0 : (0 : Int) ≤ (j : Int) := by omega
                        have x1 := (HT.out.row k gk HGk.out).1.cell (i := j) hlt3
                        cases hkj : f k j with
                        | false =>
                          rw [hkj] at x1
                          have HCn := hide (HC.out.col hlt hlt3 (fun e => by rw [hkj] at e; cases e))
                          have HJn : Hid (0 < j + 1 → f i k = true) := fun _ => hik
                          clear hik hkj
                          go_wp2
                          go_roundw
                          case rel => exact ⟨j + 1, f, by omega, by go_num, HT, HS, HCn, HJn, HB⟩
                          case measure => simp [intOf]; omega
                        | true =>
                          rw [hkj] at x1
                          have x2 := (HT.out.row i gi HGi.out).1.cell (i := j) hlt3
                          have x2f := (HT.out.row i gi HGi.out).1.frozen j
                          have HBg := hide (HT.out.row i gi HGi.out).2.1
                          have HTn := hide (HT.out.set HGi.out j)
                          have HSn := hide (HS.out.upd (Wk.comp (HS.out i k hik) hlt (HS.out k j hkj)))
                          have HCn := hide ((HC.out.upd i j).col hlt hlt3 (fun _ => updTb_at f i j))
                          have HJn : Hid (0 < j + 1 → updTb f i j i k = true) := fun _ => updTb_mono hik
                          clear hik hkj
                          go_wp2
                          go_roundw
                          case rel => exact ⟨j + 1, _, by omega, by go_num, HTn, HSn, HCn, HJn, HB.out.setCell HBg.out _⟩
                          case measure => simp [intOf]; omega
                      · obtain rfl : n = j := by omega
                        have hj1 : ¬ (n : Int) < (n : Int) := by omega
                        have HCn := hide HC.out.row
                        clear hik
                        go_wp2
                        go_roundw
                        case rel => exact ⟨i + 1, f, by omega, by go_num, HT, HS, HCn, HB⟩
                        case measure => simp [intOf]; omega
                · obtain rfl : n = i := by omega
                  have hi1 : ¬ (n : Int) < (n : Int) := by omega
                  have HCn := hide HC.out.next
                  go_wp2
                  go_roundw
                  case rel => exact ⟨k + 1, f, by omega, by go_num, HT, HS, HCn, HB⟩
                  case measure => simp [intOf]; omega
            · obtain rfl : n = k := by omega
              have hk1 : ¬ (n : Int) < (n : Int) := by omega
              have HD := hide (fun i j (hi : i < n) (hj : j < n) => tab_done HS.out HC.out hi hj)
              go_wp2
              go_ret
              exact ⟨_, rfl, gs, HGl.out, f, HT.out, HD.out, HB.out⟩
end Go.Proofs.Ytjifhmlfnnagcaa
