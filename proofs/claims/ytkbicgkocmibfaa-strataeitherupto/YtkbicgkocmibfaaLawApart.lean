/- The law of the components' being apart: its walk. -/
import Derived.Test.YtkbicgkocmibfaaApartPure
import Derived.Test.YtkbicgkocmibfaaEdgeLaw
namespace Go.Proofs.Ytkbicgkocmibfaa
set_option linter.unusedSimpArgs false
set_option linter.unusedVariables false
open Go.RowKit Go.Maps

theorem own_small {w : World} {base n : Nat} {e : TypeId} {v : Value} {xs : List Value} (h : w.ownsRow base e 1 v n xs) : n ≤ 9223372036854775807 := by
  have hm : maxLen = 9223372036854775807 := by decide
  rcases h.2 with ⟨_, h0⟩ | ⟨g, cap, cur, h1, h2, h3, h4, h5, h6⟩
  · rw [h0]; exact Nat.zero_le _
  · omega

/-- What the lists of the components read, one by one. -/
theorem CompsAt.at_ {base : Nat} {w : World} {n : Nat} {es : List Edg} {H : Nat → Int} {reps : List Nat} {M : Nat → Value} {ta : Option Addr} {tc i : Nat} (h : CompsAt base w n (lnkT es) H reps M (.slice ta reps.length tc)) (hi : i < reps.length) : ∃ (gt r gr cr : Nat) (L : List Nat), ta = some ⟨gt, 0, none⟩ ∧ reps[i]? = some r ∧ L = memL H n r ∧ w.cell? ⟨gt, i, none⟩ = some (.slice (some ⟨gr, 0, none⟩) L.length cr) ∧ 0 < L.length ∧ L.length ≤ n ∧ (∀ (j x : Nat), L[j]? = some x → w.cell? ⟨gr, j, none⟩ = some (.int .i64 (x : Int)) ∧ x < n ∧ H x = (r : Int)) := by
  have hr : reps[i]? = some reps[i] := List.getElem?_eq_getElem hi
  obtain ⟨r1, r2⟩ := h.greedy.rep _ (List.mem_of_getElem? hr)
  have ho : w.ownsRow base 29 1 (.slice ta reps.length tc) (reps.map M).length (reps.map M) := by rw [List.length_map]; exact h.told.own
  obtain ⟨gt, cap, e, -, hc⟩ := own_cells ho (by rw [List.length_map]; omega)
  have hm : reps[i] ∈ memL H n reps[i] := mem_memL.2 ⟨r1, r2⟩
  have hpos : 0 < (memL H n reps[i]).length := List.length_pos_of_mem hm
  have hl := h.told.lst _ r1
  have hl' : w.ownsRow base 3 1 (M reps[i]) ((memL H n reps[i]).map nv).length ((memL H n reps[i]).map nv) := by rw [List.length_map]; exact hl
  obtain ⟨gr, cr, e2, -, hc2⟩ := own_cells hl' (by rw [List.length_map]; exact hpos)
  rw [List.length_map] at e2
  refine ⟨gt, reps[i], gr, cr, _, by injection e, hr, rfl, ?_, hpos, ?_, fun j x hj => ⟨?_, (mem_memL.1 (List.mem_of_getElem? hj))⟩⟩
  · rw [← e2]
    exact hc i _ (by rw [List.getElem?_map, hr]; rfl)
  · unfold memL
    have := List.length_filter_le (fun v => H v == (reps[i] : Int)) (List.range n)
    simpa using this
  · exact hc2 j _ (by rw [List.getElem?_map, hj]; rfl)

set_option maxRecDepth 100000 in
set_option maxHeartbeats 2000000 in
theorem strataApart_walk (n : Int) (v : Value) (es : List Edg) (w : World) (hn : I64 n) (h : Has elEdg w v es) (_ : es.length ≤ 1048576) :
    Calls Try.prog 3 #[.int .i64 n, v] w fun e w' => e = .returned (.bool true) ∧ Below w.heap.size w w' := by
  obtain ⟨va, vc, rfl, -, -, hlen⟩ := h.shape
  have HL := hide h
  have HF := hide (lfit_any h n)
  clear h hn
  have hfc : fitP n es = false ∨ fitP n es = true := by cases fitP n es <;> simp
  rcases hfc with hf | hf
  · rw [hf] at HF
    go_enter Try.func3, Try.ntmps3
    go_wp2_with (go_at_call 9; refine HF.out.mono ?_)
    rintro e w1 ⟨rfl, b1⟩
    have HB1 := hide b1
    clear b1
    go_wp2
    go_ret
    exact ⟨rfl, HB1.out⟩
  · rw [hf] at HF
    obtain ⟨⟨hk0, hk1⟩, hin⟩ := fit_in8 hf
    obtain ⟨k, rfl⟩ : ∃ k : Nat, n = k := ⟨n.toNat, by omega⟩
    have HIn := hide hin
    have HFt := hide hf
    clear hin hf hk0
    have hk : k ≤ 128 := by omega
    clear hk1
    have hmk := fun W : World => run_make_row' (P := Try.prog) 29 3 (.int .i64 0) 8 Try.underlying29 Try.infoInt9 rfl .i64 .i64 k (by omega) (by omega) W
    have hmb := fun W : World => run_make_row' (P := Try.prog) 32 4 (.bool false) 1 Try.underlying32 Try.infoBool rfl .i64 .i64 k (by omega) (by omega) W
    go_enter Try.func3, Try.ntmps3
    go_wp2_with (go_at_call 9; refine HF.out.mono ?_)
    rintro e w1 ⟨rfl, b1⟩
    have HB1 := hide b1
    clear b1 HF
    go_wp2_with (go_at_call 11; refine (edges_any (HL.out.kept HB1.out)).mono ?_)
    rintro e w2 ⟨g1, rfl, hg1, b2⟩
    obtain ⟨ga, gc, rfl, -, -⟩ := hg1.shape
    have HG1 := hide (hg1.list hlen)
    have HB2 := hide (HB1.out.trans (b2.mono HB1.out.size))
    clear hg1 b2 HB1
    go_wp2_with (go_at_call 10; refine (components_fit HG1.out HFt.out).mono ?_)
    rintro e w3 ⟨tv, H, reps, M, rfl, hc, b3⟩
    have HC := hide (hc.mono HB2.out.size)
    have HB3 := hide (HB2.out.trans (b3.mono HB2.out.size))
    obtain ⟨ta, tc, htv, -, -, -⟩ := own_shape6 hc.told.own
    have hrl := own_small hc.told.own
    clear hc b3 HG1 HB2
    subst htv
    go_wp2
    go_loopw [8] (fun iv wl => ∃ i : Nat, i ≤ k ∧ iv = .int .i64 i ∧ Hid (wl.rowIs w3.heap.size 3 k (fun p => .int .i64 (if p < i then -1 else 0))) ∧ Hid (Below w3.heap.size w3 wl)) (fun iv _ => k - (intOf iv).toNat)
    case atStart => exact ⟨0, by omega, rfl, (World.rowIs_made w3 (.int .i64 0) k 3).congr (fun i _ => by simp), (Below.refl _ w3).alloc (Nat.le_refl _) _⟩
    case round =>
      obtain ⟨i, hi, rfl, HR, HB⟩ := hrel
      by_cases hlt : i < k
      · have hi1 : (i : Int) < (k : Int) := by omega
        have hi0 : (0 : Int) ≤ (i : Int) := by omega
        have y0 := HR.out.cell hlt
        have y0f := HR.out.frozen i
        have HRn := hide ((HR.out.set i (.int .i64 (-1))).congr (g := fun p => .int .i64 (if p < i + 1 then -1 else 0)) (fun p _ => by
          by_cases e : p = i
          · subst e; simp
          · by_cases e2 : p < i
            · simp [e, e2, Nat.lt_succ_of_lt e2]
            · have e3 : ¬ p < i + 1 := by omega
              simp [e, e2, e3]))
        have HBn : Hid (Below w3.heap.size w3 (wr.setCell ⟨w3.heap.size, i, none⟩ (.int .i64 (-1)))) := HB.out.setCell (Nat.le_refl _) _
        go_wp2
        go_roundw
        case rel => exact ⟨i + 1, by omega, by go_num, HRn, HBn⟩
        case measure => simp [intOf]; omega
      · obtain rfl : i = k := by omega
        have hi1 : ¬ (i : Int) < (i : Int) := by omega
        have HRw := hide (HR.out.congr (g := fun p => .int .i64 (whF H reps (dn H reps 0) p)) (fun p hp => by unfold whF dn; simp [hp]))
        clear HR
        have hc0 : cnt i (dn H reps 0) = 0 := by
          unfold cnt dn
          simp
        go_wp2
        go_loopw [9, 10, 11, 12] (fun cv iv _ _ wl => ∃ j : Nat, j ≤ reps.length ∧ iv = .int .i64 j ∧ cv = .int .i64 (cnt i (dn H reps j)) ∧ Hid (wl.rowIs w3.heap.size 3 i (fun p => .int .i64 (whF H reps (dn H reps j) p))) ∧ Hid (Below w3.heap.size w3 wl)) (fun _ iv _ _ _ => reps.length - (intOf iv).toNat)
        case atStart => exact ⟨0, by omega, rfl, by rw [hc0]; rfl, HRw, HB⟩
        case round =>
          clear HRw HB
          obtain ⟨m, hm, rfl, rfl, HR, HB⟩ := hrel
          by_cases hlt : m < reps.length
          · have hm1 : (m : Int) < (reps.length : Int) := by omega
            have hm0 : (0 : Int) ≤ (m : Int) := by omega
            obtain ⟨gt, r, gr, cr, L, rfl, hr, hL, t0, hpos, hLn, hcs⟩ := HC.out.at_ hlt
            have y0 := kept_cell HB.out t0
            have HCs : Hid (∀ (j x : Nat), L[j]? = some x → w3.cell? ⟨gr, j, none⟩ = some (.int .i64 (x : Int)) ∧ x < i ∧ H x = (r : Int)) := hcs
            have HLe := hide hL
            have HRr := hide hr
            have HT0 := hide t0
            clear hcs hL hr t0
            have hq0 : ¬ (L.length : Int) = 0 := by omega
            have hq1 : ((L.length : Int) == 0) = false := by simpa using hq0
            have HR0 := hide (HR.out.congr (g := fun p => .int .i64 (whF H reps (dnL (dn H reps m) (L.take 0)) p)) (fun p hp => by unfold whF dnL; simp))
            have hc1 : cnt i (dnL (dn H reps m) (L.take 0)) = cnt i (dn H reps m) := cnt_congr (fun p _ => by unfold dnL; simp)
            clear HR
            go_wp2
            go_loopw [9, 11, 12] (fun cv jv _ wl => ∃ j : Nat, j ≤ L.length ∧ jv = .int .i64 j ∧ cv = .int .i64 (cnt i (dnL (dn H reps m) (L.take j))) ∧ Hid (wl.rowIs w3.heap.size 3 i (fun p => .int .i64 (whF H reps (dnL (dn H reps m) (L.take j)) p))) ∧ Hid (Below w3.heap.size w3 wl)) (fun _ jv _ _ => L.length - (intOf jv).toNat)
            case atStart => exact ⟨0, by omega, rfl, by rw [hc1], HR0, HB⟩
            case round =>
              clear HR0 HB y0 hc1
              obtain ⟨j, hj, rfl, rfl, HR, HB⟩ := hrel
              have y0 := kept_cell HB.out HT0.out
              by_cases hlt2 : j < L.length
              · have hj1 : (j : Int) < (L.length : Int) := by omega
                have hj0 : (0 : Int) ≤ (j : Int) := by omega
                obtain ⟨p, hp⟩ : ∃ p, L[j]? = some p := ⟨_, List.getElem?_eq_getElem hlt2⟩
                obtain ⟨c1, hpk, hpr⟩ := HCs.out j p hp
                have y1 := kept_cell HB.out c1
                have HTk := hide (take_snoc8 hp)
                have hnot : p ∉ L.take j := fun hmem => by
                  obtain ⟨q, hq, e⟩ := List.getElem_of_mem hmem
                  have hq' : q < j := by simp at hq; omega
                  have e2 : L[q]? = some p := by rw [← e, List.getElem_take]; exact List.getElem?_eq_getElem _
                  have hnd : L.Nodup := by rw [HLe.out]; exact nd_memL _ _ _
                  have := idxOf_at hnd e2
                  have := idxOf_at hnd hp
                  omega
                have hnew := dn_new HC.out.greedy.nd HRr.out hpr hnot
                have y2 := HR.out.cell hpk
                have y2f := HR.out.frozen p
                have hw1 : whF H reps (dnL (dn H reps m) (L.take j)) p = -1 := by unfold whF; rw [hnew]; rfl
                rw [hw1] at y2
                have HRn := hide ((HR.out.set p (.int .i64 (m : Int))).congr (g := fun q => .int .i64 (whF H reps (dnL (dn H reps m) (L.take (j + 1))) q)) (fun q _ => by
                  rw [HTk.out]
                  by_cases e : q = p
                  · subst e
                    rw [if_pos rfl]
                    have : dnL (dn H reps m) (L.take j ++ [q]) q = true := by unfold dnL; simp
                    unfold whF
                    rw [this, if_pos rfl, whX_at HC.out.greedy.nd HRr.out hpr]
                  · rw [if_neg e]
                    have : dnL (dn H reps m) (L.take j ++ [p]) q = dnL (dn H reps m) (L.take j) q := by unfold dnL; simp [e]
                    unfold whF
                    rw [this]))
                have HBn : Hid (Below w3.heap.size w3 (wr.setCell ⟨w3.heap.size, p, none⟩ (.int .i64 (m : Int)))) := HB.out.setCell (Nat.le_refl _) _
                have hcn := cnt_snoc hpk hnew
                rw [← HTk.out] at hcn
                have hcl := cnt_le i (dnL (dn H reps m) (L.take j))
                obtain ⟨c, hc⟩ : ∃ c, cnt i (dnL (dn H reps m) (L.take j)) = c := ⟨_, rfl⟩
                rw [hc] at hcn hcl
                have HCn := hide hcn
                rw [hc]
                clear hc hcn hnew hnot hw1 hp c1 hpr
                have hp0 : ¬ (p : Int) < 0 := by omega
                have hp1 : ¬ (i : Int) ≤ (p : Int) := by omega
                have hp2 : (p : Int) < (i : Int) := by omega
                have hp3 : (0 : Int) ≤ (p : Int) := by omega
                go_wp2
                go_roundw
                case rel => exact ⟨j + 1, by omega, by go_num, by rw [HCn.out]; go_num, HRn, HBn⟩
                case measure => simp [intOf]; omega
              · obtain rfl : j = L.length := by omega
                have hj1 : ¬ (L.length : Int) < (L.length : Int) := by omega
                have hds : ∀ p, p < i → dnL (dn H reps m) (L.take L.length) p = dn H reps (m + 1) p := by
                  rw [List.take_of_length_le (Nat.le_refl _), HLe.out]
                  exact dn_succ (fun p hp => (home_self HC.out.least hp).2.1) HRr.out
                have HRn := hide (HR.out.congr (g := fun p => .int .i64 (whF H reps (dn H reps (m + 1)) p)) (fun p hp => by rw [whF_congr hds p hp]))
                have HCn := hide (cnt_congr hds)
                rw [HCn.out]
                clear hds HR HCn
                go_wp2
                go_roundw
                case rel => exact ⟨m + 1, by omega, by go_num, rfl, HRn, HB⟩
                case measure => simp [intOf]; omega
          · obtain rfl : m = reps.length := by omega
            have hm1 : ¬ (reps.length : Int) < (reps.length : Int) := by omega
            have hda := dn_all HC.out.least HC.out.all
            have hca := cnt_all hda
            rw [hca]
            have HRx := hide (HR.out.congr (g := fun p => .int .i64 (whX H reps p)) (fun p hp => by unfold whF; rw [hda p hp]; rfl))
            clear HR hda hca
            go_wp2
            go_loopw [13] (fun iv wl => ∃ j : Nat, j ≤ es.length ∧ iv = .int .i64 j ∧ Hid (wl.rowIs w3.heap.size 3 i (fun p => .int .i64 (whX H reps p))) ∧ Hid (Below w3.heap.size w3 wl)) (fun iv _ => es.length - (intOf iv).toNat)
            case atStart => exact ⟨0, by omega, rfl, HRx, HB⟩
            case round =>
              clear HRx HB
              obtain ⟨j, hj, rfl, HR, HB⟩ := hrel
              by_cases hlt2 : j < es.length
              · have hj1 : (j : Int) < (es.length : Int) := by omega
                have hj0 : (0 : Int) ≤ (j : Int) := by omega
                have HBw := hide (HB3.out.trans (HB.out.mono HB3.out.size))
                obtain ⟨b, off, rfl, -, -, hrow⟩ := HL.out.row (by omega)
                obtain ⟨x, hx⟩ : ∃ x, es[j]? = some x := ⟨_, List.getElem?_eq_getElem hlt2⟩
                have y0 := kept_cell HBw.out (hrow j x hx 0 _ rfl)
                have y1 := kept_cell HBw.out (hrow j x hx 1 _ rfl)
                simp only [elEdg, Nat.add_zero] at y0 y1
                obtain ⟨q1, q2, q3, q4⟩ := HIn.out x (List.mem_of_getElem? hx)
                have HX := hide (List.mem_of_getElem? hx)
                clear hrow hx
                obtain ⟨f, t, g, r⟩ := x
                obtain ⟨kf, rfl⟩ : ∃ kf : Nat, f = kf := ⟨f.toNat, by dsimp only at q1; omega⟩
                obtain ⟨kt, rfl⟩ : ∃ kt : Nat, t = kt := ⟨t.toNat, by dsimp only at q3; omega⟩
                dsimp only at q1 q2 q3 q4 y0 y1
                have r0 := HR.out.cell (show kf < i by omega)
                have r1 := HR.out.cell (show kt < i by omega)
                have hle := wh_le HC.out.least HC.out.greedy HC.out.all (show kf < i by omega) (show kt < i by omega) (edge_lnk HX.out rfl rfl)
                obtain ⟨xf, hxf⟩ : ∃ xf, whX H reps kf = xf := ⟨_, rfl⟩
                obtain ⟨xt, hxt⟩ : ∃ xt, whX H reps kt = xt := ⟨_, rfl⟩
                rw [hxf] at r0 hle
                rw [hxt] at r1 hle
                clear hxf hxt HX
                have hle2 : ¬ xt < xf := by omega
                go_wp2
                go_region_held3 (fun w' => w'.cell? ⟨b, off + j * 4, none⟩ = some (.int .i64 (kf : Int)) ∧ w'.cell? ⟨b, off + j * 4 + 1, none⟩ = some (.int .i64 (kt : Int)) ∧ w'.cell? ⟨w3.heap.size, kf, none⟩ = some (.int .i64 xf) ∧ w'.cell? ⟨w3.heap.size, kt, none⟩ = some (.int .i64 xt))
                  (exact ⟨y0, y1, r0, r1⟩) (fail)
                go_wp2
                go_roundw
                case rel => exact ⟨j + 1, by omega, by go_num, HR.out.drew, HB.out.drew⟩
                case measure => simp [intOf]; omega
              · obtain rfl : j = es.length := by omega
                have hj1 : ¬ (es.length : Int) < (es.length : Int) := by omega
                clear HR
                go_wp2
                go_loopw [14, 15, 16, 17, 18, 19] (fun iv _ _ _ _ _ wl => ∃ j : Nat, j ≤ reps.length ∧ iv = .int .i64 j ∧ Hid (Below w3.heap.size w3 wl)) (fun iv _ _ _ _ _ _ => reps.length - (intOf iv).toNat)
                case atStart => exact ⟨0, by omega, rfl, HB⟩
                case round =>
                  clear HB
                  obtain ⟨m, hm, rfl, HB⟩ := hrel
                  by_cases hlt : m < reps.length
                  · have hm1 : (m : Int) < (reps.length : Int) := by omega
                    have hm0 : (0 : Int) ≤ (m : Int) := by omega
                    obtain ⟨gt, r, gr, cr, L, rfl, hr, hL, t0, hpos, hLn, hcs⟩ := HC.out.at_ hlt
                    have y0 := kept_cell HB.out t0
                    have HCs : Hid (∀ (j x : Nat), L[j]? = some x → w3.cell? ⟨gr, j, none⟩ = some (.int .i64 (x : Int)) ∧ x < i ∧ H x = (r : Int)) := hcs
                    have HLe := hide hL
                    have HRr := hide hr
                    have HT0 := hide t0
                    clear hcs hL hr t0
                    have hge : w3.heap.size ≤ wr.heap.size := HB.out.size
                    have HR0 := hide ((World.rowIs_made wr (.bool false) i 4).congr (g := fun p => .bool ((L.take 0).contains p)) (fun p _ => by simp))
                    have HB0 := hide (HB.out.alloc hge (.cells (madeCells #[.bool false] i) 4))
                    have HBo := hide HB.out
                    clear HB y0
                    have y0 := kept_cell HB0.out HT0.out
                    go_wp2
                    go_loopw [16] (fun jv wl => ∃ j : Nat, j ≤ L.length ∧ jv = .int .i64 j ∧ Hid (wl.rowIs wr.heap.size 4 i (fun p => .bool ((L.take j).contains p))) ∧ Hid (Below w3.heap.size w3 wl)) (fun jv _ => L.length - (intOf jv).toNat)
                    case atStart => exact ⟨0, by omega, rfl, HR0, HB0⟩
                    case round =>
                      clear HR0 HB0 y0 HBo
                      obtain ⟨j, hj, rfl, HR, HB⟩ := hrel
                      have y0 := kept_cell HB.out HT0.out
                      by_cases hlt2 : j < L.length
                      · have hj1 : (j : Int) < (L.length : Int) := by omega
                        have hj0 : (0 : Int) ≤ (j : Int) := by omega
                        obtain ⟨p, hp⟩ : ∃ p, L[j]? = some p := ⟨_, List.getElem?_eq_getElem hlt2⟩
                        obtain ⟨c1, hpk, hpr⟩ := HCs.out j p hp
                        have y1 := kept_cell HB.out c1
                        have HTk := hide (take_snoc8 hp)
                        have y2 := HR.out.cell hpk
                        have y2f := HR.out.frozen p
                        have HRn := hide ((HR.out.set p (.bool true)).congr (g := fun q => .bool ((L.take (j + 1)).contains q)) (fun q _ => by
                          rw [HTk.out]
                          by_cases e : q = p
                          · subst e; simp
                          · simp [e]))
                        have HBn := hide (HB.out.setCell (p := ⟨_, p, none⟩) hge (.bool true))
                        have hp2 : (p : Int) < (i : Int) := by omega
                        have hp3 : (0 : Int) ≤ (p : Int) := by omega
                        clear hp c1 hpr
                        go_wp2
                        go_roundw
                        case rel => exact ⟨j + 1, by omega, by go_num, HRn, HBn⟩
                        case measure => simp [intOf]; omega
                      · obtain rfl : j = L.length := by omega
                        have hj1 : ¬ (L.length : Int) < (L.length : Int) := by omega
                        rw [List.take_of_length_le (Nat.le_refl _)] at HR
                        obtain ⟨a, ha⟩ : ∃ a, L[0]? = some a := ⟨_, List.getElem?_eq_getElem hpos⟩
                        obtain ⟨c1, hak, har⟩ := HCs.out 0 a ha
                        have y1 := kept_cell HB.out c1
                        have HIc : Hid (∀ p, p < i → H p = (r : Int) → L.contains p = true) := fun p hp e => by
                          rw [HLe.out]
                          simpa using mem_memL.2 ⟨hp, e⟩
                        have HBw := hide (HB3.out.trans (HB.out.mono HB3.out.size))
                        have hpos' : (0 : Int) < (L.length : Int) := by omega
                        have HA0 := hide c1
                        clear ha c1
                        have HFr := hide (from_any false (HL.out.kept HBw.out) HIn.out HR.out hak hk)
                        have HFc : Hid (∀ (back : Bool) (S : Nat → Bool), (S a = true ∧ ∀ x ∈ es, L.contains (endU back x) = true → L.contains (endV back x) = true → S (endU back x) = true → S (endV back x) = true) → ∀ p, p < i → H p = (r : Int) → S p = true) := fun back S hS p hpk hpr => from_closed back HC.out.least hak hpk har hpr HIc.out hS
                        go_wp2_with (first | (go_at_call 12; refine HFr.out.mono ?_; rintro e V1 ⟨g1, S1, rfl, s1, s2, b1⟩; have HR1 := hide s1; have HS1 := hide (HFc.out _ _ s2); have HRi := hide (HR.out.of_block (b1.block _ HR.out.lt)); have HB1 := hide (HB.out.trans (b1.mono HB.out.size)); have HBw1 := hide (HBw.out.trans (b1.mono HBw.out.size)); clear s1 s2 b1 HR HB HBw HFr y0 y1; have y0 := kept_cell HB1.out HT0.out; have y1 := kept_cell HB1.out HA0.out; have HFs := hide (from_any true (HL.out.kept HBw1.out) HIn.out HRi.out hak hk)) | (go_at_call 12; refine HFs.out.mono ?_; rintro e V2 ⟨g2, S2, rfl, s1, s2, b1⟩; have HR2 := hide s1; have HS2 := hide (HFc.out _ _ s2); have HR12 := hide (HR1.out.of_block (b1.block _ HR1.out.lt)); have HB2 := hide (HB1.out.trans (b1.mono HB1.out.size)); clear s1 s2 b1 HR1 HB1 HBw1 HRi HFs y0 y1))
                        go_wp2
                        go_loopw [19] (fun jv wl => ∃ j : Nat, j ≤ L.length ∧ jv = .int .i64 j ∧ wl = V2) (fun jv _ => L.length - (intOf jv).toNat)
                        case atStart => exact ⟨0, by omega, rfl, rfl⟩
                        case round =>
                          obtain ⟨j, hj, rfl, rfl⟩ := hrel
                          have y0 := kept_cell HB2.out HT0.out
                          by_cases hlt2 : j < L.length
                          · have hj1 : (j : Int) < (L.length : Int) := by omega
                            have hj0 : (0 : Int) ≤ (j : Int) := by omega
                            obtain ⟨p, hp⟩ : ∃ p, L[j]? = some p := ⟨_, List.getElem?_eq_getElem hlt2⟩
                            obtain ⟨c1, hpk, hpr⟩ := HCs.out j p hp
                            have y1 := kept_cell HB2.out c1
                            have z1 := HR12.out.cell hpk
                            have z2 := HR2.out.cell hpk
                            rw [HS1.out p hpk hpr] at z1
                            rw [HS2.out p hpk hpr] at z2
                            have hp2 : (p : Int) < (i : Int) := by omega
                            have hp3 : (0 : Int) ≤ (p : Int) := by omega
                            clear hp c1 hpr
                            go_wp2
                            go_roundw
                            case rel => exact ⟨j + 1, by omega, by go_num, trivial⟩
                            case measure => simp [intOf]; omega
                          · obtain rfl : j = L.length := by omega
                            have hj1 : ¬ (L.length : Int) < (L.length : Int) := by omega
                            go_wp2
                            go_roundw
                            case rel => exact ⟨m + 1, by omega, by go_num, HB2⟩
                            case measure => simp [intOf]; omega
                  · obtain rfl : m = reps.length := by omega
                    have hm1 : ¬ (reps.length : Int) < (reps.length : Int) := by omega
                    have HBw := hide (HB3.out.trans (HB.out.mono HB3.out.size))
                    clear HB
                    go_wp2
                    go_ret
                    exact ⟨rfl, HBw.out⟩
end Go.Proofs.Ytkbicgkocmibfaa
