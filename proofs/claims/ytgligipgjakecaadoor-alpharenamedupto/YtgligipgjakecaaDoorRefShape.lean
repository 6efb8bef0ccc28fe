/- The document's Shape: what alpha.Shape answers. -/
import Derived.Test.YtgligipgjakecaaDoorAlphaShape
import Derived.Test.YtgligipgjakecaaDoorShpBuild
namespace Go.Proofs.YtgligipgjakecaaDoor
set_option linter.unusedSimpArgs false
set_option linter.unusedVariables false
open Go.RowKit

theorem firstI_before {ss : List Slo} {n : Int} {j : Nat} {t : Slo} (h : ss[j]? = some t) (hj : j < firstI ss n) : varIs n t = false := by
  cases hv : varIs n t with
  | false => rfl
  | true => have := firstI_le h hv; omega

theorem boxesS {w : World} {q : Int} {v : Value} {W : World} (hW : W = ((w.alloc (.cells #[.int .i64 q, v] 29)).alloc (.cells #[.int .i64 0, .slice none 0 0] 25)).alloc (.cells #[.int .i64 q, .slice none 0 0] 25)) :
    Below w.heap.size w W ∧ W.cell? ⟨w.heap.size, 0, none⟩ = some (.int .i64 q) ∧ W.cell? ⟨w.heap.size, 1, none⟩ = some v ∧ W.heap[w.heap.size + 1]? = some (.cells #[.int .i64 0, .slice none 0 0] 25 (0, 0)) ∧ ShpAt W W (w.heap.size + 1 + 1) (w.heap.size + 1 + 1 + 1) q (.slice none 0 0) [] := by
  subst hW
  have h1 := heap_alloc_new (w.alloc (.cells #[.int .i64 q, v] 29)) (.cells #[.int .i64 0, .slice none 0 0] 25)
  have h2 := heap_alloc_new ((w.alloc (.cells #[.int .i64 q, v] 29)).alloc (.cells #[.int .i64 0, .slice none 0 0] 25)) (.cells #[.int .i64 q, .slice none 0 0] 25)
  simp only [size_alloc10] at h1 h2
  refine ⟨belot (belot (belo1 w _) (belo1 _ _)) (belo1 _ _), kept_cell (belot (belo1 _ _) (belo1 _ _)) (new_cells (cs := #[.int .i64 q, v]) 0 _ rfl), kept_cell (belot (belo1 _ _) (belo1 _ _)) (new_cells (cs := #[.int .i64 q, v]) 1 _ rfl), ?_, h2, Grow.nil _ _ _ _, Below.refl _ _, by omega, by simp only [size_alloc10]; omega⟩
  rw [(belo1 _ _).block _ (by simp only [size_alloc10]; omega)]
  exact h1

set_option maxRecDepth 100000 in
set_option maxHeartbeats 4000000 in
theorem rshape_any {w : World} {q : Int} {v : Value} {ss : List Slo} (h : Has elSlo w v ss) :
    Calls Tryd.prog 5 #[.agg #[.int .i64 q, v]] w fun e w' => ShapeAns q ss w w' e ∧ Below w.heap.size w w' := by
  obtain ⟨i0, hi0', hz0, hz1, hz2⟩ := info_parts Tryd.infoInt11
  obtain ⟨va, vc, rfl, -, -, hlen⟩ := h.shape
  obtain ⟨W, hW⟩ : ∃ W, W = ((w.alloc (.cells #[.int .i64 q, .slice va ss.length vc] 29)).alloc (.cells #[.int .i64 0, .slice none 0 0] 25)).alloc (.cells #[.int .i64 q, .slice none 0 0] 25) := ⟨_, rfl⟩
  obtain ⟨hb, c0, c1, hr, hP⟩ := boxesS hW
  have HWb := hide hb
  have HP0 := hide hP
  have HR0 := hide hr
  have HC := hide c1
  have HWd := hide hW
  obtain ⟨qb, hqb⟩ : ∃ qb, w.heap.size + 1 + 1 = qb := ⟨_, rfl⟩
  have HQb := hide hqb
  rw [hqb] at HP0
  have HL0 : Hid (Lst elSlo W (fun b => b < w.heap.size) (.slice va ss.length vc) ss) := h.move fun b hlt _ => ⟨hlt, hb.block b hlt⟩
  clear h hb c0 c1 hr hP hW hqb
  by_cases hq : q < 0
  · have HN : Hid (¬ ShapeOk q ss) := fun h => by have := h.1; omega
    go_enter Tryd.func5, Tryd.ntmps5
    have hb : Below w.heap.size w (((w.alloc (.cells #[.int .i64 q, .slice va ss.length vc] 29)).alloc (.cells #[.int .i64 (-1), .slice none 0 0] 25)).alloc (.cells #[.int .i64 q, .slice none 0 0] 25)) := belot (belot (belo1 w _) (belo1 _ _)) (belo1 _ _)
    have HBe := hide hb
    clear hb
    go_wp2
    exact bodyPost_ret (v := .agg #[.int .i64 (-1), .slice none 0 0]) (by simp [results, Tryd.results5, go_sem]) rfl ⟨.inr ⟨HN.out, rfl⟩, HBe.out⟩
  · have HQ : Hid (0 ≤ q) := by show 0 ≤ q; omega
    have hq1 : decide (q < 0) = false := by simp; omega
    go_enter Tryd.func5, Tryd.ntmps5
    go_wp2
    rw [← HWd.out, HQb.out]
    have hqb : w.heap.size + 1 < qb := by have := HQb.out; omega
    clear HWd HQb
    go_loopw [4] (fun i wl => ∃ (k : Nat) (u : Value), k ≤ ss.length ∧ i = .int .i64 k ∧ Hid (∀ s ∈ ss.take k, s.v = false → 0 ≤ s.n) ∧ Hid (ShpAt W wl qb (qb + 1) q u ((ss.take k).map (cellS ss)))) (fun i _ => ss.length - (intOf i).toNat)
    case atStart => exact ⟨0, _, by omega, rfl, (by intro s hs; simp at hs), HP0⟩
    case round =>
      obtain ⟨k, u, hk, rfl, HN, HP⟩ := hrel
      have d1 := below_cell HP.out.low HC.out (by dsimp only; omega)
      have HLk : Hid (((ss.take k).map (cellS ss)).length = k) := by show _ = _; rw [List.length_map, List.length_take]; omega
      obtain ⟨ua, uc, hu, -, -⟩ := HP.out.row.shape
      rw [HLk.out] at hu
      subst hu
      have HRr : Hid (wr.heap[w.heap.size + 1]? = some (.cells #[.int .i64 0, .slice none 0 0] 25 (0, 0))) := by show _ = _; rw [HP.out.low.block _ (by omega)]; exact HR0.out
      by_cases hlt : k < ss.length
      · have hi : (k : Int) < (ss.length : Int) := by omega
        have hi0 : (0 : Int) ≤ (k : Int) := by omega
        have HLr : Hid (Lst elSlo wr (fun b => b < w.heap.size) (.slice va ss.length vc) ss) := HL0.out.move fun b hb hF => ⟨hF, HP.out.low.block b (by omega)⟩
        obtain ⟨b, off, rfl, -, hbw, hrow⟩ := HLr.out.row (by omega)
        obtain ⟨s, hs⟩ : ∃ s, ss[k]? = some s := ⟨_, List.getElem?_eq_getElem hlt⟩
        have y0 := hrow k s hs 0 _ rfl
        have y1 := hrow k s hs 1 _ rfl
        simp only [elSlo, Nat.add_zero] at y0 y1
        have hsn : I64 s.n := HLr.out.ok (List.mem_of_getElem? hs)
        have HTk : Hid ((ss.take (k + 1)).map (cellS ss) = (ss.take k).map (cellS ss) ++ [cellS ss s]) := by show _ = _; rw [List.take_add_one, hs, List.map_append]; rfl
        have HTs : Hid (ss.take (k + 1) = ss.take k ++ [s]) := by show _ = _; rw [List.take_add_one, hs]; rfl
        have HS := hide hs
        have HHr := hide hrow
        clear hs hrow
        go_upto_region 8 with fail
        obtain ⟨V1, hV1⟩ : ∃ V1, V1 = wr.alloc (.cells #[.bool s.v, .int .i64 s.n] 37) := ⟨_, rfl⟩
        have HB1 : Hid (Below wr.heap.size wr V1) := by rw [hV1]; exact belo1 _ _
        have e0 : V1.cell? ⟨wr.heap.size, 0, none⟩ = some (.bool s.v) := by rw [hV1]; exact new_cells (cs := #[.bool s.v, .int .i64 s.n]) 0 _ rfl
        have e1 : V1.cell? ⟨wr.heap.size, 1, none⟩ = some (.int .i64 s.n) := by rw [hV1]; exact new_cells (cs := #[.bool s.v, .int .i64 s.n]) 1 _ rfl
        obtain ⟨SB, hSB⟩ : ∃ SB, wr.heap.size = SB := ⟨_, rfl⟩
        have HP1 := hide (HP.out.kept HB1.out)
        have d1' := kept_cell HB1.out d1
        have HR1 : Hid (V1.heap[w.heap.size + 1]? = some (.cells #[.int .i64 0, .slice none 0 0] 25 (0, 0))) := by show _ = _; rw [HB1.out.block _ (lt_of_block HRr.out)]; exact HRr.out
        rw [← hV1]
        rw [hSB] at e0 e1 ⊢
        clear hV1 hSB y0 y1 d1
        cases hv : s.v with
        | false =>
          rw [hv] at e0
          by_cases hn : s.n < 0
          · have HNo : Hid (¬ ShapeOk q ss) := fun h => by have := h.2 s (List.mem_of_getElem? HS.out) hv; omega
            have r0 : V1.cell? ⟨w.heap.size + 1, 0, none⟩ = some (.int .i64 0) := by simp [World.cell?, HR1.out]
            have r1 : V1.cell? ⟨w.heap.size + 1, 1, none⟩ = some (.slice none 0 0) := by simp [World.cell?, HR1.out]
            have q0 : V1.frozen? ⟨w.heap.size + 1, 0, none⟩ = false := by simp [World.frozen?, HR1.out]
            have q1 : V1.frozen? ⟨w.heap.size + 1, 1, none⟩ = false := by simp [World.frozen?, HR1.out]
            go_wp2
            exact bodyPost_ret (v := .agg #[.int .i64 (-1), .slice none 0 0]) (by simp [results, Tryd.results5, go_sem, r0, r1]) rfl ⟨.inr ⟨HNo.out, rfl⟩, ((HWb.out.trans (HP1.out.low.mono (by omega))).setCell (by dsimp only; omega) _).setCell (by dsimp only; omega) _⟩
          · have hn1 : decide (s.n < 0) = false := by simp; omega
            have HEq : Hid (cellS ss s = s.n) := cellS_con hv
            have HG2 := hide (HP1.out.row.kept (belo1 V1 (.cells #[.int .i64 s.n] 3)))
            have HB2 : Hid (Below (qb + 1) V1 (V1.alloc (.cells #[.int .i64 s.n] 3))) := (belo1 V1 _).mono HP1.out.sz
            have HS2 : Hid (qb + 1 ≤ (V1.alloc (.cells #[.int .i64 s.n] 3)).heap.size) := by show _ ≤ _; have := HP1.out.sz; simp only [size_alloc10]; omega
            have p1 := HP1.out.c1
            have HNx : Hid (∀ t ∈ ss.take (k + 1), t.v = false → 0 ≤ t.n) := by
              show ∀ t ∈ ss.take (k + 1), t.v = false → 0 ≤ t.n
              rw [HTs.out]
              intro t ht
              rcases List.mem_append.1 ht with h1 | h1
              · exact HN.out t h1
              · simp only [List.mem_singleton] at h1
                subst h1
                intro _; omega
            go_wp2_with (at_builtin; refine wpList_push (w0 := V1) elInt rfl _ _ 23 rfl (qb + 1) 3 i0 _ 8 Tryd.underlying23 hi0' hz0 hz1 hz2 rfl (by decide) _ ((ss.take k).map (cellS ss)) k HLk.out rfl HG2.out s.n V1.heap.size 1 rfl (fun j u hu => new_cells j u hu) hsn (by omega) HB2.out HS2.out ?_; intro g cap' w1 HG1 HB1' HGr; obtain ⟨t0, t1, t2, hPn⟩ := HP1.out.grown HG1.out HB1'.out; have HPn := hide hPn; clear HGr hPn t0)
            go_roundw
            case rel => exact ⟨k + 1, _, by omega, by go_num, HNx, by rw [HTk.out, HEq.out]; exact HPn⟩
            case measure => simp [intOf]; omega
        | true =>
          rw [hv] at e0
          have HFa := hide (first_at HS.out hv)
          have HEq : Hid (cellS ss s = -1 - ((firstI ss s.n : Nat) : Int)) := cellS_var hv
          obtain ⟨fi, hfi⟩ : ∃ fi, firstI ss s.n = fi := ⟨_, rfl⟩
          have HFi := hide hfi
          rw [hfi] at HFa HEq
          clear hfi
          have HNx : Hid (∀ t ∈ ss.take (k + 1), t.v = false → 0 ≤ t.n) := by
            show ∀ t ∈ ss.take (k + 1), t.v = false → 0 ≤ t.n
            rw [HTs.out]
            intro t ht
            rcases List.mem_append.1 ht with h1 | h1
            · exact HN.out t h1
            · simp only [List.mem_singleton] at h1
              subst h1
              intro h2
              rw [hv] at h2; cases h2
          go_wp2
          go_loopw [6] (fun j wl => ∃ jj : Nat, jj ≤ fi ∧ j = .int .i64 jj ∧ Hid (Below V1.heap.size V1 wl)) (fun j _ => fi - (intOf j).toNat)
          case atStart => exact ⟨0, by omega, rfl, Below.refl _ _⟩
          case round =>
            obtain ⟨jj, hjj, rfl, HBj⟩ := hrel
            have hfk := HFa.out.1
            have hj1 : (jj : Int) < (ss.length : Int) := by omega
            have hj0 : (0 : Int) ≤ (jj : Int) := by omega
            obtain ⟨t, ht⟩ : ∃ t, ss[jj]? = some t := ⟨_, List.getElem?_eq_getElem (by omega)⟩
            have y0 := HHr.out jj t ht 0 _ rfl
            have y1 := HHr.out jj t ht 1 _ rfl
            simp only [elSlo, Nat.add_zero] at y0 y1
            have x0 := over_cell (kept_cell HBj.out (kept_cell HB1.out y0))
            have x1 := over_cell (kept_cell HBj.out (kept_cell HB1.out y1))
            have x2 := over_cell (kept_cell HBj.out d1')
            have x3 := over_cell (kept_cell HBj.out e1)
            have HT := hide ht
            clear y0 y1 ht
            by_cases hjl : jj < fi
            · have hnv := firstI_before (n := s.n) HT.out (by rw [HFi.out]; exact hjl)
              cases htv : t.v with
              | false =>
                rw [htv] at x0
                go_upto_region 13 with fail
                refine wp_region_over (fun W => wr = W) (by kernel_rfl) (by kernel_rfl) rfl ?_
                rintro _ rfl
                repeat (go_big_quiet_step (first | fail))
                refine wpQuiet_nil ?_
                rintro _ ⟨z, rfl⟩
                have HBz : Hid (Below V1.heap.size V1 (over wr z)) := HBj.out.trans ((over_below wr z).mono HBj.out.size)
                generalize over wr z = V2 at HBz ⊢
                clear x0 x1 x2 x3
                go_wp2
                go_roundw
                case rel => exact ⟨jj + 1, by omega, by go_num, HBz⟩
                case measure => simp [intOf]; omega
              | true =>
                have hne : ¬ t.n = s.n := fun e => by
                  have : varIs s.n t = true := varIs_iff.2 ⟨htv, e⟩
                  rw [hnv] at this; cases this
                have hne1 : (t.n != s.n) = true := by simp [hne]
                rw [htv] at x0
                go_upto_region 13 with fail
                refine wp_region_over (fun W => wr = W) (by kernel_rfl) (by kernel_rfl) rfl ?_
                rintro _ rfl
                repeat (go_big_quiet_step (first | fail))
                refine wpQuiet_nil ?_
                rintro _ ⟨z, rfl⟩
                have HBz : Hid (Below V1.heap.size V1 (over wr z)) := HBj.out.trans ((over_below wr z).mono HBj.out.size)
                generalize over wr z = V2 at HBz ⊢
                clear x0 x1 x2 x3
                go_wp2
                go_roundw
                case rel => exact ⟨jj + 1, by omega, by go_num, HBz⟩
                case measure => simp [intOf]; omega
            · obtain rfl : jj = fi := by omega
              obtain ⟨t', ht', htv, htn⟩ := HFa.out.2
              have htt : t' = t := by have h1 := HT.out; rw [ht'] at h1; exact Option.some.inj h1
              subst htt
              have hne1 : (t'.n != s.n) = false := by simp [htn]
              rw [htv] at x0
              go_upto_region 13 with fail
              refine wp_region_over (fun W => wr = W) (by kernel_rfl) (by kernel_rfl) rfl ?_
              rintro _ rfl
              repeat (go_big_quiet_step (first | fail))
              refine wpQuiet_nil ?_
              rintro _ ⟨z, rfl⟩
              have HBz : Hid (Below V1.heap.size V1 (over wr z)) := HBj.out.trans ((over_below wr z).mono HBj.out.size)
              generalize over wr z = V2 at HBz ⊢
              clear x0 x1 x2 x3
              have HP2 := hide (HP1.out.kept HBz.out)
              have hci : I64 (-1 - (jj : Int)) := ⟨by omega, by omega⟩
              have HG2 := hide (HP2.out.row.kept (belo1 V2 (.cells #[.int .i64 (-1 - (jj : Int))] 3)))
              have HB2 : Hid (Below (qb + 1) V2 (V2.alloc (.cells #[.int .i64 (-1 - (jj : Int))] 3))) := (belo1 V2 _).mono HP2.out.sz
              have HS2 : Hid (qb + 1 ≤ (V2.alloc (.cells #[.int .i64 (-1 - (jj : Int))] 3)).heap.size) := by show _ ≤ _; have := HP2.out.sz; simp only [size_alloc10]; omega
              have p1 := HP2.out.c1
              go_wp2_with (at_builtin; refine wpList_push (w0 := V2) elInt rfl _ _ 23 rfl (qb + 1) 3 i0 _ 8 Tryd.underlying23 hi0' hz0 hz1 hz2 rfl (by decide) _ ((ss.take k).map (cellS ss)) k HLk.out rfl HG2.out (-1 - (jj : Int)) V2.heap.size 1 rfl (fun j u hu => new_cells j u hu) hci (by omega) HB2.out HS2.out ?_; intro g cap' w1 HG1 HB1' HGr; obtain ⟨t0, t1, t2, hPn⟩ := HP2.out.grown HG1.out HB1'.out; have HPn := hide hPn; clear HGr hPn t0)
              go_roundw
              case rel => exact ⟨k + 1, _, by omega, by go_num, HNx, by rw [HTk.out, HEq.out]; exact HPn⟩
              case measure => simp [intOf]; omega
      · obtain rfl : k = ss.length := by omega
        have hi : ¬ (ss.length : Int) < (ss.length : Int) := by omega
        rw [List.take_of_length_le (Nat.le_refl _)] at HP HN
        have HOk : Hid (ShapeOk q ss) := ⟨HQ.out, HN.out⟩
        have r0 : wr.cell? ⟨w.heap.size + 1, 0, none⟩ = some (.int .i64 0) := by simp [World.cell?, HRr.out]
        have r1 : wr.cell? ⟨w.heap.size + 1, 1, none⟩ = some (.slice none 0 0) := by simp [World.cell?, HRr.out]
        have q0 : wr.frozen? ⟨w.heap.size + 1, 0, none⟩ = false := by simp [World.frozen?, HRr.out]
        have q1 : wr.frozen? ⟨w.heap.size + 1, 1, none⟩ = false := by simp [World.frozen?, HRr.out]
        have p0 := HP.out.c0
        have p1 := HP.out.c1
        go_wp2
        refine bodyPost_ret (v := .agg #[.int .i64 q, .slice ua ss.length uc]) (by simp [results, Tryd.results5, go_sem, r0, r1]) rfl ⟨.inl ⟨HOk.out, _, rfl, ?_⟩, ((HWb.out.trans (HP.out.low.mono (by omega))).setCell (by dsimp only; omega) _).setCell (by dsimp only; omega) _⟩
        have hg : Grow elInt 3 w.heap.size ((wr.setCell ⟨w.heap.size + 1, 0, none⟩ (.int .i64 q)).setCell ⟨w.heap.size + 1, 1, none⟩ (.slice ua ss.length uc)) (.slice ua ss.length uc) (shapeC ss) := by
          refine (HP.out.row.above fun b hb _ => ?_).mono (by omega)
          rw [Below.heap_setCell _ _ _ _ (by dsimp only; omega), Below.heap_setCell _ _ _ _ (by dsimp only; omega)]
        exact hg.new (by rw [shapeC_len]; exact hlen)
end Go.Proofs.YtgligipgjakecaaDoor
