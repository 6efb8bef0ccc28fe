/- What the document's looseTerm and Unbound answer. -/
import Derived.Test.YthbfkbkcfcpibaaCoreUnbd
import Derived.Deep.RegionHeld3
import Derived.Deep.RegionLawGrows
namespace Go.Proofs.Ythbfkbkcfcpibaa
set_option linter.unusedSimpArgs false
set_option linter.unusedVariables false
open Go.RowKit Go.Maps

theorem new_cells (w : World) (arr : Array Value) (T : TypeId) (l : List Value) (h : arr.toList = l) : ∀ ad, some (⟨w.heap.size, 0, none⟩ : Addr) = some ad → ∀ (j : Nat) (u : Value), l[j]? = some u → (w.alloc (.cells arr T)).cell? (ad.add j) = some u := by
  intro ad had j u hu
  cases had
  subst h
  rw [addr_add]
  simp only [Nat.zero_add, World.cell?, heap_alloc_new]
  simpa using hu

set_option maxRecDepth 100000 in
set_option maxHeartbeats 4000000 in
theorem looseTerm_any {w : World} {hv bv : Value} {hd : List Trm} {ls : List Lix} (hh : Has elTrm w hv hd) (hl : Has elLix w bv ls) (hs : hd.length + (sumT ls + 2 * ls.length) < 500000000) :
    Calls Try.prog 23 #[hv, bv] w fun e w' => e = .returned (.tuple #[((unbP hd ls).getD zeroT).val, .bool (unbP hd ls).isSome]) ∧ Below w.heap.size w w' := by
  obtain ⟨ha, hc, rfl, -, hcap, hhl⟩ := hh.shape
  obtain ⟨ba, bc, rfl, -, -, hlen⟩ := hl.shape
  obtain ⟨i0, hi0', hz0, hz1, hz2⟩ := info_parts Try.infoTrm8
  obtain ⟨Y, hY⟩ : ∃ Y, Y = w.alloc (.cells #[.int .i64 0, .int .i64 0, .string ⟨#[]⟩, .int .i64 0] 66) := ⟨_, rfl⟩
  have HB0 : Hid (Below w.heap.size w Y) := by rw [hY]; exact belo1 _ _
  have HSz : Hid (Y.heap.size = w.heap.size + 1) := by show _ = _; rw [hY]; simp
  have HX : Hid (Y.heap[w.heap.size]? = some (.cells #[.int .i64 0, .int .i64 0, .string ⟨#[]⟩, .int .i64 0] 66 (0, 0))) := by show _ = _; rw [hY]; exact heap_alloc_new w _
  have HH := hide hh
  have HL := hide hl
  have HCp := hide hcap
  clear hh hl hcap
  go_enter Try.func23, Try.ntmps23
  go_wp2_with fail
  rw [← hY]
  clear hY
  refine (rvars_any (HL.out.kept HB0.out) (by omega)).mono ?_
  rintro e w1 ⟨⟨v, rfl, hv, hvl⟩, h1⟩
  obtain ⟨va, vc, rfl, -, -, -⟩ := hv.shape
  have HV1 := hide hv
  have HB1 := hide h1
  have HBw1 := hide (HB0.out.trans (h1.mono HB0.out.size))
  clear hv hvl h1
  have hown : (w1.alloc (.cells #[] 66)).ownsRow w1.heap.size 66 4 (.slice (some ⟨w1.heap.size, 0, none⟩) 0 0) 0 [] := World.ownsRow_made w1 #[] 0 (Nat.le_refl _) (by decide) rfl
  have HHa := hide (HH.out.kept (HBw1.out.trans ((belo1 w1 (.cells #[] 66)).mono HBw1.out.size)))
  have HSr := hide HHa.out.src
  have HOk := hide (fun t (hm : t ∈ hd) => HHa.out.ok hm)
  go_wp2_with (at_builtin; refine wpList_append_any rfl _ _ 28 rfl w1.heap.size 66 i0 (.agg #[.int .i64 0, .int .i64 0, .string ⟨#[]⟩, .int .i64 0]) 4 40 Try.underlying28 hi0' hz0 hz1 hz2 rfl (by decide) (.slice (some ⟨w1.heap.size, 0, none⟩) 0 0) 0 [] rfl hown ha hd.length hc (hd.flatMap elTrm.cells) rfl HCp.out (by rw [flatE_len]; rfl) HSr.out (trm_one hd HOk.out) (by unfold maxLen; omega) (by omega) (by simp) ?_)
  intro v' w2 hown2 hgrow2
  obtain ⟨ca, cc, rfl, -, -, -⟩ := own_shape6 hown2
  obtain ⟨B, hB⟩ : ∃ B, B = w1.heap.size := ⟨_, rfl⟩
  have HG2 : Hid (Grow elTrm 66 B w2 (.slice ca hd.length cc) hd) := by show Grow _ _ _ _ _ _; rw [hB]; exact ⟨hown2, fun t hm => HOk.out t hm⟩
  have HB2 : Hid (Below B w1 w2) := by show Below _ _ _; rw [hB]; exact below_grown (belo1 w1 _) hown hgrow2 (by simp)
  have HBe := hide hB
  clear hown2 hgrow2 hown hB HHa HSr HOk
  go_wp2_with fail
  go_loopw [7, 8] (fun av i wl => ∃ k : Nat, ∃ a c, k ≤ ls.length ∧ av = .slice a (hd ++ askP (ls.take k)).length c ∧ i = .int .i64 k ∧ Hid (Grow elTrm 66 B wl (.slice a (hd ++ askP (ls.take k)).length c) (hd ++ askP (ls.take k))) ∧ Hid (Below B w1 wl)) (fun _ i _ => ls.length - (intOf i).toNat)
  case atStart => exact ⟨0, ca, cc, by omega, by simp [askP], rfl, by show Grow _ _ _ _ _ _; simpa [askP] using HG2.out, HB2⟩
  case round =>
    clear HG2 HB2
    obtain ⟨k, aa, ac, hk, rfl, rfl, HG, HB⟩ := hrel
    have HBv : Hid (Below w1.heap.size w1 wr) := by rw [← HBe.out]; exact HB.out
    have HBw := hide (HBw1.out.trans (HBv.out.mono HBw1.out.size))
    have hBr : B ≤ wr.heap.size := by have := HBv.out.size; rw [← HBe.out] at this; exact this
    by_cases hlt : k < ls.length
    · have hi : (k : Int) < (ls.length : Int) := by omega
      have hi0 : (0 : Int) ≤ (k : Int) := by omega
      obtain ⟨b, bo, rfl, hbl, -, hrow⟩ := HL.out.row (by omega)
      obtain ⟨x, hx⟩ : ∃ s, ls[k]? = some s := ⟨_, List.getElem?_eq_getElem hlt⟩
      have xs := fun j u hu => kept_cell HBw.out (hrow k x hx j u hu)
      have HOk := hide (HL.out.ok (List.mem_of_getElem? hx))
      have HTk := hide (askP_take hx)
      have HLe := hide (askP_take_le ls (k + 1))
      have HXs := hide (hrow k x hx)
      clear hrow hx
      have HLk : Hid (askL x = if x.k = 1 then [] else if x.k = 1 ∨ x.k = 2 then x.a.ts else if x.k = 3 then [x.l, x.r] else []) := rfl
      obtain ⟨lk, ⟨lp, v1, lo, lt⟩, op, ⟨t1k, t1n, t1s, t1o⟩, ⟨t2k, t2n, t2s, t2o⟩, lf⟩ := x
      have HTs := hide (elAtx_ok (elLix_ok HOk.out).2.1).2.2
      have HLR := hide (elLix_ok HOk.out).2.2.2
      dsimp only at HTs HLR HLk
      obtain ⟨fa, fc, rfl, -, hfn, hl1⟩ := HTs.out.shape
      have x0 := xs 0 _ rfl
      have x2 := xs 2 _ rfl
      have x5 := xs 5 _ rfl
      have x6 := xs 6 _ rfl
      have x7 := xs 7 _ rfl
      have x8 := xs 8 _ rfl
      have x9 := xs 9 _ rfl
      have x10 := xs 10 _ rfl
      have x11 := xs 11 _ rfl
      have x12 := xs 12 _ rfl
      simp only [elLix, Nat.add_zero] at x0 x2 x5 x6 x7 x8 x9 x10 x11 x12
      clear xs
      obtain ⟨A, hA⟩ : ∃ A, hd ++ askP (ls.take k) = A := ⟨_, rfl⟩
      have HA1 : Hid (hd ++ askP (ls.take (k + 1)) = A ++ (if lk = 1 then [] else if lk = 1 ∨ lk = 2 then lt else if lk = 3 then [⟨t1k, t1n, t1s, t1o⟩, ⟨t2k, t2n, t2s, t2o⟩] else [])) := by show _ = _; rw [HTk.out, HLk.out, ← List.append_assoc, hA]
      rw [hA] at HG ⊢
      clear hA HLk HTk
      by_cases hk2 : lk = 2
      · subst hk2
        have HA2 : Hid (hd ++ askP (ls.take (k + 1)) = A ++ lt) := by show _ = _; simpa using HA1.out
        have hown := HG.out.1
        have HTr := hide (HTs.out.kept HBw.out)
        have HSr := hide HTr.out.src
        have HOt := hide (fun t (hm : t ∈ lt) => HTr.out.ok hm)
        have HFn := hide hfn
        have hAT : A.length + lt.length < 1000000000 := by
          have h1 := congrArg List.length HA2.out
          rw [List.length_append, List.length_append] at h1
          have := HLe.out
          omega
        clear hfn
        go_wp2_with (at_builtin; refine wpList_append_any rfl _ _ 28 rfl B 66 i0 (.agg #[.int .i64 0, .int .i64 0, .string ⟨#[]⟩, .int .i64 0]) 4 40 Try.underlying28 hi0' hz0 hz1 hz2 rfl (by decide) (.slice aa A.length ac) A.length (A.flatMap elTrm.cells) rfl hown fa lt.length fc (lt.flatMap elTrm.cells) rfl HFn.out (by rw [flatE_len]; rfl) HSr.out (trm_one lt HOt.out) (by unfold maxLen; omega) (by omega) (by omega) ?_)
        intro v' w5 hown5 hgrow
        obtain ⟨na, nc, rfl, -, -, -⟩ := own_shape6 hown5
        have HG5 : Hid (Grow elTrm 66 B w5 (.slice na (A.length + lt.length) nc) (A ++ lt)) := by
          refine ⟨?_, fun t hm => ?_⟩
          · rw [List.length_append, List.flatMap_append]; exact hown5
          · rcases List.mem_append.1 hm with h1 | h1
            · exact HG.out.2 t h1
            · exact HOt.out t h1
        have HB5 := hide (below_grown HB.out hown hgrow (by omega))
        have HBw5 : Hid (Below w.heap.size w w5) := by
          have h1 := HB5.out
          rw [HBe.out] at h1
          exact HBw1.out.trans (h1.mono HBw1.out.size)
        have y0 := below_cell HBw5.out (HXs.out 0 _ rfl) hbl
        simp only [elLix, Nat.add_zero] at y0
        clear hown5 hgrow hown x0 x2 x5 x6 x7 x8 x9 x10 x11 x12
        go_wp2_with fail
        go_roundw
        case rel => exact ⟨k + 1, na, nc, by omega, by rw [HA2.out, List.length_append], by go_num, by show Grow _ _ _ _ _ _; rw [HA2.out, List.length_append]; exact HG5.out, HB5⟩
        case measure => simp [intOf]; omega
      · have e2 : (lk == 2) = false := by simpa using hk2
        by_cases hk3 : lk = 3
        · subst hk3
          have HA2 : Hid (hd ++ askP (ls.take (k + 1)) = A ++ [⟨t1k, t1n, t1s, t1o⟩, ⟨t2k, t2n, t2s, t2o⟩]) := by show _ = _; simpa using HA1.out
          have HSc : Hid (∀ V : World, Below w.heap.size w V → V.cell? ⟨b, bo + k * 14 + 5, none⟩ = some (.int .i64 t1k) ∧ V.cell? ⟨b, bo + k * 14 + 6, none⟩ = some (.int .i64 t1n) ∧ V.cell? ⟨b, bo + k * 14 + 7, none⟩ = some (.string t1s) ∧ V.cell? ⟨b, bo + k * 14 + 8, none⟩ = some (.int .i64 t1o) ∧ V.cell? ⟨b, bo + k * 14 + 9, none⟩ = some (.int .i64 t2k) ∧ V.cell? ⟨b, bo + k * 14 + 10, none⟩ = some (.int .i64 t2n) ∧ V.cell? ⟨b, bo + k * 14 + 11, none⟩ = some (.string t2s) ∧ V.cell? ⟨b, bo + k * 14 + 12, none⟩ = some (.int .i64 t2o)) := fun V hV => by
            have ys := fun j u hu => below_cell hV (HXs.out j u hu) hbl
            have y5 := ys 5 _ rfl
            have y6 := ys 6 _ rfl
            have y7 := ys 7 _ rfl
            have y8 := ys 8 _ rfl
            have y9 := ys 9 _ rfl
            have y10 := ys 10 _ rfl
            have y11 := ys 11 _ rfl
            have y12 := ys 12 _ rfl
            simp only [elLix, Nat.add_zero] at y5 y6 y7 y8 y9 y10 y11 y12
            exact ⟨y5, y6, y7, y8, y9, y10, y11, y12⟩
          have hAT : A.length + 2 < 1000000000 := by
            have h1 := congrArg List.length HA2.out
            rw [List.length_append, List.length_append] at h1
            have := HLe.out
            simp only [List.length_cons, List.length_nil] at h1
            omega
          go_wp2_with fail
          clear x0 x2 x5 x6 x7 x8 x9 x10 x11 x12
          go_region_held3 (fun V => V.cell? ⟨b, bo + k * 14 + 5, none⟩ = some (.int .i64 t1k) ∧ V.cell? ⟨b, bo + k * 14 + 6, none⟩ = some (.int .i64 t1n) ∧ V.cell? ⟨b, bo + k * 14 + 7, none⟩ = some (.string t1s) ∧ V.cell? ⟨b, bo + k * 14 + 8, none⟩ = some (.int .i64 t1o) ∧ V.cell? ⟨b, bo + k * 14 + 9, none⟩ = some (.int .i64 t2k) ∧ V.cell? ⟨b, bo + k * 14 + 10, none⟩ = some (.int .i64 t2n) ∧ V.cell? ⟨b, bo + k * 14 + 11, none⟩ = some (.string t2s) ∧ V.cell? ⟨b, bo + k * 14 + 12, none⟩ = some (.int .i64 t2o))
            (first
              | exact HSc.out _ HBw.out
              | exact HSc.out _ HBw.out.drew
              | exact HSc.out _ (HBw.out.drew.alloc HBw.out.size _)
              | exact HSc.out _ HBw5.out)
            (first
              | (refine step_append_any (by rfl) _ _ _ (by rfl) B 66 i0 _ 4 40 Try.underlying28 hi0' hz0 hz1 hz2 rfl (by omega) _ A.length (A.flatMap elTrm.cells) (by rfl) (own_kept6 HG.out.1 (((Below.refl _ wr).drew).alloc (Nat.le_refl _) (.cells #[.int .i64 t1k, .int .i64 t1n, .string t1s, .int .i64 t1o, .int .i64 t2k, .int .i64 t2n, .string t2s, .int .i64 t2o] 66))) (some ⟨wr.heap.size, 0, none⟩) 2 2 [.int .i64 t1k, .int .i64 t1n, .string t1s, .int .i64 t1o, .int .i64 t2k, .int .i64 t2n, .string t2s, .int .i64 t2o] (by rfl) (by simp) (by rfl) (new_cells wr.drew _ _ _ rfl) (by simp [Value.oneCell']) (by unfold maxLen; omega) (by omega) (by simp; omega) ?_; intro v' w5 hown5 hgrow; have HB5 := hide (below_grown (HB.out.drew.alloc (by simp; omega) (.cells #[.int .i64 t1k, .int .i64 t1n, .string t1s, .int .i64 t1o, .int .i64 t2k, .int .i64 t2n, .string t2s, .int .i64 t2o] 66)) (own_kept6 HG.out.1 (((Below.refl _ wr).drew).alloc (Nat.le_refl _) (.cells #[.int .i64 t1k, .int .i64 t1n, .string t1s, .int .i64 t1o, .int .i64 t2k, .int .i64 t2n, .string t2s, .int .i64 t2o] 66))) hgrow (by simp; omega)); have HBw5 : Hid (Below w.heap.size w w5) := (by have h1 := HB5.out; rw [HBe.out] at h1; exact HBw1.out.trans (h1.mono HBw1.out.size)); have HO5 := hide hown5; clear hown5 hgrow))
          obtain ⟨na, nc, rfl, -, -, -⟩ := own_shape6 HO5.out
          have HG5 : Hid (Grow elTrm 66 B w5 (.slice na (A.length + 2) nc) (A ++ [⟨t1k, t1n, t1s, t1o⟩, ⟨t2k, t2n, t2s, t2o⟩])) := by
            refine ⟨?_, fun t hm => ?_⟩
            · rw [List.length_append, List.flatMap_append]; exact HO5.out
            · rcases List.mem_append.1 hm with h1 | h1
              · exact HG.out.2 t h1
              · simp only [List.mem_cons, List.not_mem_nil, or_false] at h1
                rcases h1 with rfl | rfl
                · exact HLR.out.1
                · exact HLR.out.2.1
          go_wp2_with fail
          go_roundw
          case rel => exact ⟨k + 1, na, nc, by omega, by rw [HA2.out, List.length_append]; rfl, by go_num, by show Grow _ _ _ _ _ _; rw [HA2.out, List.length_append]; exact HG5.out, HB5⟩
          case measure => simp [intOf]; omega
        · have e3 : (lk == 3) = false := by simpa using hk3
          have HA2 : Hid (hd ++ askP (ls.take (k + 1)) = A) := by
            show _ = _
            have h1 := HA1.out
            rw [h1]
            by_cases hk1 : lk = 1
            · rw [if_pos hk1, List.append_nil]
            · rw [if_neg hk1, if_neg (by simp [hk1, hk2]), if_neg hk3, List.append_nil]
          clear hk2 hk3
          go_wp2_with fail
          go_roundw
          case rel => exact ⟨k + 1, aa, ac, by omega, by rw [HA2.out], by go_num, by show Grow _ _ _ _ _ _; rw [HA2.out]; exact HG.out, HB⟩
          case measure => simp [intOf]; omega
    · obtain rfl : k = ls.length := by omega
      have hi : ¬ (ls.length : Int) < (ls.length : Int) := by omega
      rw [List.take_of_length_le (Nat.le_refl _)] at HG ⊢
      have hAl : (hd ++ askP ls).length < 1000000000 := by rw [List.length_append]; have := askP_len ls; omega
      have HE : Hid (unbP hd ls = findP (varsP ls) (hd ++ askP ls)) := rfl
      have HR0 : Hid (wr.heap[w.heap.size]? = some (.cells #[.int .i64 0, .int .i64 0, .string ⟨#[]⟩, .int .i64 0] 66 (0, 0))) := by
        show _ = _
        have h1 : w.heap.size < Y.heap.size := by rw [HSz.out]; omega
        rw [HBv.out.block _ (Nat.lt_of_lt_of_le h1 HB1.out.size), HB1.out.block _ h1]
        exact HX.out
      have HVr := hide (HV1.out.kept HBv.out)
      generalize hd ++ askP ls = A at *
      have HLr := hide (HG.out.list (by omega))
      clear HG HB HV1
      go_wp2_with fail
      go_loopw [9] (fun i wl => ∃ k : Nat, k ≤ A.length ∧ i = .int .i64 k ∧ Hid (findP (varsP ls) (A.take k) = none) ∧ Hid (Below wr.heap.size wr wl)) (fun i _ => A.length - (intOf i).toNat)
      case atStart => exact ⟨0, by omega, rfl, by show findP _ (A.take 0) = none; simp [findP], Below.refl _ _⟩
      case round =>
        obtain ⟨k, hk, rfl, HK, HBk⟩ := hrel
        have HBwk := hide (HBw.out.trans (HBk.out.mono HBw.out.size))
        have HRk : Hid (wr.heap[w.heap.size]? = some (.cells #[.int .i64 0, .int .i64 0, .string ⟨#[]⟩, .int .i64 0] 66 (0, 0))) := by
          show _ = _
          rw [HBk.out.block _ (lt_of_heap' HR0.out)]
          exact HR0.out
        by_cases hlt : k < A.length
        · have hi : (k : Int) < (A.length : Int) := by omega
          have hi0 : (0 : Int) ≤ (k : Int) := by omega
          obtain ⟨b, bo, rfl, -, -, hrow⟩ := HLr.out.row (by omega)
          obtain ⟨t, hx⟩ : ∃ t, A[k]? = some t := ⟨_, List.getElem?_eq_getElem hlt⟩
          have HTr := hide (hrow k t hx)
          have y0 := kept_cell HBk.out (hrow k t hx 0 _ rfl)
          have y1 := kept_cell HBk.out (hrow k t hx 1 _ rfl)
          have y2 := kept_cell HBk.out (hrow k t hx 2 _ rfl)
          have y3 := kept_cell HBk.out (hrow k t hx 3 _ rfl)
          simp only [elTrm, Nat.add_zero] at y0 y1 y2 y3
          have HLk := hide (loose_any (HVr.out.kept HBk.out) t)
          have HTk := hide (take_snoc hx)
          clear hrow hx
          cases he : looseP (varsP ls) t with
          | true =>
            rw [he] at HLk
            have HF : Hid (findP (varsP ls) A = some t) := by
              show _ = _
              have h1 : A = (A.take k ++ [t]) ++ A.drop (k + 1) := by rw [← HTk.out, List.take_append_drop]
              have hk0 := HK.out
              unfold findP at hk0 ⊢
              rw [h1, List.find?_append, List.find?_append, hk0]
              simp [he]
            rw [HF.out] at HE
            obtain ⟨tk, tn, tx, tq⟩ := t
            unfold Trm.val at HLk
            go_wp2_with fail
            refine HLk.out.mono ?_
            rintro e w2 ⟨rfl, h2⟩
            have HB2 := hide (HBwk.out.trans (h2.mono HBwk.out.size))
            have z0 := kept_cell h2 y0
            have z1 := kept_cell h2 y1
            have z2 := kept_cell h2 y2
            have z3 := kept_cell h2 y3
            have HR2 : Hid (w2.heap[w.heap.size]? = some (.cells #[.int .i64 0, .int .i64 0, .string ⟨#[]⟩, .int .i64 0] 66 (0, 0))) := by show _ = _; rw [h2.block _ (lt_of_heap' HRk.out)]; exact HRk.out
            have hb0 : w2.cell? ⟨w.heap.size, 0, none⟩ = some (.int .i64 0) := by simp [World.cell?, HR2.out]
            have hb1 : w2.cell? ⟨w.heap.size, 1, none⟩ = some (.int .i64 0) := by simp [World.cell?, HR2.out]
            have hb2 : w2.cell? ⟨w.heap.size, 2, none⟩ = some (.string ⟨#[]⟩) := by simp [World.cell?, HR2.out]
            have hb3 : w2.cell? ⟨w.heap.size, 3, none⟩ = some (.int .i64 0) := by simp [World.cell?, HR2.out]
            have hf0 : w2.frozen? ⟨w.heap.size, 0, none⟩ = false := by simp [World.frozen?, HR2.out]
            have hf1 : w2.frozen? ⟨w.heap.size, 1, none⟩ = false := by simp [World.frozen?, HR2.out]
            have hf2 : w2.frozen? ⟨w.heap.size, 2, none⟩ = false := by simp [World.frozen?, HR2.out]
            have hf3 : w2.frozen? ⟨w.heap.size, 3, none⟩ = false := by simp [World.frozen?, HR2.out]
            clear h2 y0 y1 y2 y3
            go_wp2_with fail
            exact bodyPost_ret (v := .tuple #[.agg #[.int .i64 tk, .int .i64 tn, .string tx, .int .i64 tq], .bool true]) (by simp [results, Try.results23, go_sem, hb0, hb1, hb2, hb3]) rfl ⟨by rw [HE.out]; rfl, (((HB2.out.setCell (Nat.le_refl _) _).setCell (Nat.le_refl _) _).setCell (Nat.le_refl _) _).setCell (Nat.le_refl _) _⟩
          | false =>
            rw [he] at HLk
            have HF : Hid (findP (varsP ls) (A.take (k + 1)) = none) := by
              show _ = _
              have hk0 := HK.out
              unfold findP at hk0 ⊢
              rw [HTk.out, List.find?_append, hk0]
              simp [he]
            obtain ⟨tk, tn, tx, tq⟩ := t
            unfold Trm.val at HLk
            go_wp2_with fail
            refine HLk.out.mono ?_
            rintro e w2 ⟨rfl, h2⟩
            have HB2 := hide (HBk.out.trans (h2.mono HBk.out.size))
            clear h2 y0 y1 y2 y3
            go_wp2_with fail
            go_roundw
            case rel => exact ⟨k + 1, by omega, by go_num, HF, HB2⟩
            case measure => simp [intOf]; omega
        · obtain rfl : k = A.length := by omega
          have hi : ¬ (A.length : Int) < (A.length : Int) := by omega
          rw [List.take_of_length_le (Nat.le_refl _)] at HK
          rw [HK.out] at HE
          have hb0 : wr.cell? ⟨w.heap.size, 0, none⟩ = some (.int .i64 0) := by simp [World.cell?, HRk.out]
          have hb1 : wr.cell? ⟨w.heap.size, 1, none⟩ = some (.int .i64 0) := by simp [World.cell?, HRk.out]
          have hb2 : wr.cell? ⟨w.heap.size, 2, none⟩ = some (.string ⟨#[]⟩) := by simp [World.cell?, HRk.out]
          have hb3 : wr.cell? ⟨w.heap.size, 3, none⟩ = some (.int .i64 0) := by simp [World.cell?, HRk.out]
          have hf0 : wr.frozen? ⟨w.heap.size, 0, none⟩ = false := by simp [World.frozen?, HRk.out]
          have hf1 : wr.frozen? ⟨w.heap.size, 1, none⟩ = false := by simp [World.frozen?, HRk.out]
          have hf2 : wr.frozen? ⟨w.heap.size, 2, none⟩ = false := by simp [World.frozen?, HRk.out]
          have hf3 : wr.frozen? ⟨w.heap.size, 3, none⟩ = false := by simp [World.frozen?, HRk.out]
          go_wp2_with fail
          exact bodyPost_ret (v := .tuple #[.agg #[.int .i64 0, .int .i64 0, .string ⟨#[]⟩, .int .i64 0], .bool false]) (by simp [results, Try.results23, go_sem, hb0, hb1, hb2, hb3]) rfl ⟨by rw [HE.out]; rfl, (((HBwk.out.setCell (Nat.le_refl _) _).setCell (Nat.le_refl _) _).setCell (Nat.le_refl _) _).setCell (Nat.le_refl _) _⟩

set_option maxHeartbeats 1000000 in
theorem runb_any {w : World} {p : ByteArray} {hv bv : Value} {off : Int} {hd : List Trm} {ls : List Lix} (hh : Has elTrm w hv hd) (hl : Has elLix w bv ls) (hs : hd.length + (sumT ls + 2 * ls.length) < 500000000) :
    Calls Try.prog 11 #[.agg #[.string p, hv, .int .i64 off, bv]] w fun e w' => e = .returned (.int .i64 (unbO hd ls)) ∧ Below w.heap.size w w' := by
  obtain ⟨ha, hc, rfl, -, -, -⟩ := hh.shape
  obtain ⟨ba, bc, rfl, -, -, hlen⟩ := hl.shape
  have HE : Hid (unbO hd ls = match unbP hd ls with | some t => t.off | none => -1) := rfl
  have HC := hide (looseTerm_any (w := w.alloc (.cells #[.string p, .slice ha hd.length hc, .int .i64 off, .slice ba ls.length bc] 33)) (hh.kept (belo1 _ _)) (hl.kept (belo1 _ _)) hs)
  have HB := hide (belo1 w (.cells #[.string p, .slice ha hd.length hc, .int .i64 off, .slice ba ls.length bc] 33))
  clear hh hl
  go_enter Try.func11, Try.ntmps11
  go_wp2_with fail
  refine HC.out.mono ?_
  rintro e w1 ⟨rfl, h1⟩
  have HB1 := hide (HB.out.trans (h1.mono HB.out.size))
  clear h1
  cases hu : unbP hd ls with
  | none =>
    rw [hu] at HE
    dsimp only [Option.getD, zeroT, Trm.val, Option.isSome]
    go_wp2_with fail
    go_ret
    exact ⟨by rw [HE.out]; rfl, HB1.out.alloc (by have := HB1.out.size; omega) _⟩
  | some t =>
    rw [hu] at HE
    obtain ⟨tk, tn, tx, tq⟩ := t
    dsimp only [Option.getD, Trm.val, Option.isSome]
    go_wp2_with fail
    go_ret
    exact ⟨by rw [HE.out]; rfl, HB1.out.alloc (by have := HB1.out.size; omega) _⟩
end Go.Proofs.Ythbfkbkcfcpibaa
