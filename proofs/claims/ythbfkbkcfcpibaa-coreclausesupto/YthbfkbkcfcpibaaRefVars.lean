/- What the document's among, Vars, loose answer. -/
import Derived.Test.YthbfkbkcfcpibaaCoreVars
namespace Go.Proofs.Ythbfkbkcfcpibaa
set_option linter.unusedSimpArgs false
set_option linter.unusedVariables false
open Go.RowKit Go.Maps

theorem inL_take {L : List ByteArray} {k : Nat} {x s : ByteArray} (h : L[k]? = some x) : inL (L.take (k + 1)) s = (inL (L.take k) s || x.toList == s.toList) := by rw [take_snoc h, inL_snoc]
theorem inL_at {L : List ByteArray} {k : Nat} {x s : ByteArray} (h : L[k]? = some x) (he : (x.toList == s.toList) = true) : inL L s = true := by
  unfold inL
  rw [List.any_eq_true]
  exact ⟨x, List.mem_of_getElem? h, he⟩

set_option maxHeartbeats 1000000 in
theorem among_any {w : World} {v : Value} {L : List ByteArray} (h : Has elStr w v L) (s : ByteArray) :
    Calls Try.prog 22 #[v, .string s] w fun e w' => (∃ r : Int, e = .returned (.int .i64 r) ∧ decide (r < 0) = !inL L s) ∧ w' = w := by
  obtain ⟨va, vc, rfl, -, -, hlen⟩ := h.shape
  have HL := hide h
  clear h
  go_enter Try.func22, Try.ntmps22
  go_wp2
  go_loopw [5] (fun i wl => ∃ k : Nat, k ≤ L.length ∧ i = .int .i64 k ∧ Hid (inL (L.take k) s = false) ∧ wl = w) (fun i _ => L.length - (intOf i).toNat)
  case atStart => exact ⟨0, by omega, rfl, by show inL (L.take 0) s = false; simp [inL], rfl⟩
  case round =>
    obtain ⟨k, hk, rfl, HK, hw⟩ := hrel
    subst hw
    by_cases hlt : k < L.length
    · have hi : (k : Int) < (L.length : Int) := by omega
      have hi0 : (0 : Int) ≤ (k : Int) := by omega
      obtain ⟨b, off, rfl, -, -, hrow⟩ := HL.out.row (by omega)
      obtain ⟨x, hx⟩ : ∃ x, L[k]? = some x := ⟨_, List.getElem?_eq_getElem hlt⟩
      have c0 := hrow k x hx 0 _ rfl
      simp only [elStr, Nat.mul_one, Nat.add_zero] at c0
      have HX := hide hx
      clear hrow hx
      cases he : (x.toList == s.toList) with
      | true =>
        have HE := hide (inL_at HX.out he)
        go_wp2
        go_ret
        exact ⟨⟨k, rfl, by rw [HE.out]; simp⟩, rfl⟩
      | false =>
        have HE : Hid (inL (L.take (k + 1)) s = false) := by show _ = _; rw [inL_take HX.out, HK.out, he]; rfl
        go_wp2
        go_roundw
        case rel => exact ⟨k + 1, by omega, by go_num, HE, by first | rfl | trivial⟩
        case measure => simp [intOf]; omega
    · obtain rfl : k = L.length := by omega
      have hi : ¬ (L.length : Int) < (L.length : Int) := by omega
      have HF : Hid (inL L s = false) := by have := HK.out; rw [List.take_of_length_le (Nat.le_refl _)] at this; exact this
      go_wp2
      go_ret
      exact ⟨⟨-1, rfl, by rw [HF.out]; rfl⟩, rfl⟩

def looseP (L : List ByteArray) (t : Trm) : Bool := t.k == 4 && (isB t.s || !inL L t.s)

set_option maxHeartbeats 1000000 in
theorem loose_any {w : World} {v : Value} {L : List ByteArray} (h : Has elStr w v L) (t : Trm) :
    Calls Try.prog 32 #[t.val, v] w fun e w' => e = .returned (.bool (looseP L t)) ∧ Below w.heap.size w w' := by
  obtain ⟨tk, tn, ts, tq⟩ := t
  unfold Trm.val looseP
  dsimp only
  have hb := belo1 w (.cells #[.int .i64 tk, .int .i64 tn, .string ts, .int .i64 tq] 66)
  have HA := hide (among_any (h.kept hb) ts)
  have HB := hide hb
  clear h hb
  cases hk : (tk == 4) with
  | false =>
    go_enter Try.func32, Try.ntmps32
    go_wp2
    go_ret
    exact ⟨rfl, HB.out⟩
  | true =>
    unfold isB
    cases hbk : (ts.toList == [95]) with
    | true =>
      go_enter Try.func32, Try.ntmps32
      go_wp2
      go_ret
      exact ⟨rfl, HB.out⟩
    | false =>
      cases hi : inL L ts with
      | true =>
        rw [hi] at HA
        go_enter Try.func32, Try.ntmps32
        go_wp2_with (go_at_call 22; refine HA.out.mono ?_; rintro e w' ⟨⟨r, rfl, hr⟩, hw'⟩; have hw' := hw'.symm; subst hw'; simp only [Bool.not_true] at hr)
        go_ret
        exact ⟨rfl, HB.out⟩
      | false =>
        rw [hi] at HA
        go_enter Try.func32, Try.ntmps32
        go_wp2_with (go_at_call 22; refine HA.out.mono ?_; rintro e w' ⟨⟨r, rfl, hr⟩, hw'⟩; have hw' := hw'.symm; subst hw'; simp only [Bool.not_false] at hr)
        go_ret
        exact ⟨rfl, HB.out⟩

theorem meetP_loose (L : List ByteArray) (t : Trm) : meetP L t = if looseP L t then L ++ [t.s] else L := by
  unfold meetP looseP takeP
  by_cases hk : t.k = 4
  · rw [if_pos hk]
    have : (t.k == 4) = true := by simpa using hk
    rw [this, Bool.true_and]
    cases isB t.s <;> cases inL L t.s <;> rfl
  · rw [if_neg hk]
    have : (t.k == 4) = false := by simpa using hk
    rw [this]; rfl

set_option maxRecDepth 100000 in
set_option maxHeartbeats 2000000 in
theorem rvars_any {w : World} {lv : Value} {ls : List Lix} (h : Has elLix w lv ls) (hs : sumT ls < 500000000) :
    Calls Try.prog 10 #[lv] w fun e w' => (∃ v, e = .returned v ∧ Has elStr w' v (varsP ls) ∧ (varsP ls).length ≤ sumT ls) ∧ Below w.heap.size w w' := by
  obtain ⟨la, lc, rfl, -, -, hlen⟩ := h.shape
  have HL := hide h
  clear h
  obtain ⟨i0, hi0', hz0, hz1, hz2⟩ := info_parts Try.infoStr7
  go_enter Try.func10, Try.ntmps10
  go_wp2
  go_loopw [3, 4, 5, 6] (fun v i _ _ wl => ∃ k : Nat, ∃ L, ∃ a c, k ≤ ls.length ∧ v = .slice a L.length c ∧ i = .int .i64 k ∧ Hid (L = (ls.take k).foldl litVars []) ∧ Hid (Grow elStr 9 w.heap.size wl (.slice a L.length c) L) ∧ Hid (L.length ≤ sumT (ls.take k)) ∧ Hid (Below w.heap.size w wl)) (fun _ i _ _ _ => ls.length - (intOf i).toNat)
  case atStart => exact ⟨0, [], none, 0, by omega, rfl, rfl, rfl, Grow.nil _ _ _ _, by show (0 : Nat) ≤ _; omega, Below.refl _ _⟩
  case round =>
    obtain ⟨k, L, a, c, hk, rfl, rfl, HE, HG, HN, HB⟩ := hrel
    by_cases hlt : k < ls.length
    · have hi : (k : Int) < (ls.length : Int) := by omega
      have hi0 : (0 : Int) ≤ (k : Int) := by omega
      obtain ⟨b, off, rfl, hbl, -, hrow⟩ := HL.out.row (by omega)
      obtain ⟨x, hx⟩ : ∃ s, ls[k]? = some s := ⟨_, List.getElem?_eq_getElem hlt⟩
      have HXs := hide (hrow k x hx)
      have HOk := hide (HL.out.ok (List.mem_of_getElem? hx))
      have HSt := hide (sumT_take hx)
      have HLe := hide (sumT_le ls (k + 1))
      have HTk := hide (take_snoc hx)
      clear hrow hx
      obtain ⟨lk, ⟨lp, v1, lo, lt⟩, op, ⟨t1k, t1n, t1s, t1o⟩, ⟨t2k, t2n, t2s, t2o⟩, lf⟩ := x
      obtain ⟨fa, fc, hv1, -, -, hl1⟩ := (elAtx_ok (elLix_ok HOk.out).2.1).2.2.shape
      dsimp only at hv1
      subst hv1
      have HTs := hide (elAtx_ok (elLix_ok HOk.out).2.1).2.2
      dsimp only at HTs HSt hl1
      have x0 := below_cell HB.out (HXs.out 0 _ rfl) hbl
      simp only [elLix, Nat.add_zero] at x0
      by_cases hk1 : lk = 1
      · subst hk1
        have HE1 : Hid ((ls.take (k + 1)).foldl litVars [] = lt.foldl meetP L) := by
          show _ = _
          rw [HTk.out, foldl_snoc, HE.out]
          simp [litVars]
        have HLn := hide HN.out
        go_wp2
        clear x0
        go_loopw [3, 5, 6] (fun v i _ wl => ∃ j : Nat, ∃ M, ∃ a c, j ≤ lt.length ∧ v = .slice a M.length c ∧ i = .int .i64 j ∧ Hid (M = (lt.take j).foldl meetP L) ∧ Hid (Grow elStr 9 w.heap.size wl (.slice a M.length c) M) ∧ Hid (M.length ≤ L.length + j) ∧ Hid (Below w.heap.size w wl)) (fun _ i _ _ => lt.length - (intOf i).toNat)
        case atStart => exact ⟨0, L, a, c, by omega, rfl, rfl, by show _ = _; simp, HG, by show _ ≤ _; omega, HB⟩
        case round =>
          obtain ⟨j, M, ma, mc, hj, rfl, rfl, HEj, HGj, HNj, HBj⟩ := hrel
          have x2 := below_cell HBj.out (HXs.out 2 _ rfl) hbl
          simp only [elLix] at x2
          by_cases hlj : j < lt.length
          · have hij : (j : Int) < (lt.length : Int) := by omega
            have hij0 : (0 : Int) ≤ (j : Int) := by omega
            obtain ⟨tb, to', rfl, htb, -, htrow⟩ := HTs.out.row (by omega)
            obtain ⟨t, ht⟩ : ∃ t, lt[j]? = some t := ⟨_, List.getElem?_eq_getElem hlj⟩
            have ts := fun i u hu => below_cell HBj.out (htrow j t ht i u hu) htb
            have HTo := hide (HTs.out.ok (List.mem_of_getElem? ht))
            have HTj : Hid ((lt.take (j + 1)).foldl meetP L = meetP M t) := by show _ = _; rw [take_snoc ht, foldl_snoc, ← HEj.out]
            clear htrow ht
            obtain ⟨tk, tn, tx, tq⟩ := t
            have y0 := ts 0 _ rfl
            have y1 := ts 1 _ rfl
            have y2 := ts 2 _ rfl
            have y3 := ts 3 _ rfl
            simp only [elTrm, Nat.add_zero] at y0 y1 y2 y3
            clear ts
            have hbb := belo1 wr (.cells #[.int .i64 tk, .int .i64 tn, .string tx, .int .i64 tq] 66)
            have hMl : M.length < 1073741824 := by have := HNj.out; have := HN.out; have := HSt.out; have := HLe.out; omega
            have HGb := hide (HGj.out.kept hbb)
            have HA := hide (among_any (HGb.out.list hMl) tx)
            have HBb := hide (HBj.out.trans (hbb.mono HBj.out.size))
            rw [meetP_loose] at HTj
            unfold looseP at HTj
            dsimp only at HTj
            clear hbb
            cases hkk : (tk == 4) with
            | false =>
              rw [hkk, Bool.false_and] at HTj
              go_wp2
              go_roundw
              case rel => exact ⟨j + 1, M, ma, mc, by omega, rfl, by go_num, by show _ = _; rw [HTj.out]; rfl, HGb, by show _ ≤ _; have := HNj.out; omega, HBb⟩
              case measure => simp [intOf]; omega
            | true =>
              rw [hkk, Bool.true_and] at HTj
              unfold isB at HTj
              have hAl : Hid (∀ W : World, W = wr.alloc (.cells #[.int .i64 tk, .int .i64 tn, .string tx, .int .i64 tq] 66) → (W.alloc (.cells #[.string tx] 9)).ownsRow w.heap.size 9 1 (.slice ma M.length mc) M.length (M.flatMap elStr.cells)) := fun W hW => by rw [hW]; exact (HGb.out.kept (belo1 _ _)).1
              have hown := hAl.out _ rfl
              have hszr := HBj.out.size
              cases hbk : (tx.toList == [95]) with
              | true =>
                rw [hbk, Bool.true_or] at HTj
                go_wp2_with (at_builtin; refine wpList_append_lies _ rfl _ _ 49 rfl w.heap.size 9 i0 (.string ⟨#[]⟩) 1 16 Try.underlying49 hi0' hz0 hz1 hz2 rfl (by decide) (.slice ma M.length mc) M.length (M.flatMap elStr.cells) rfl hown ⟨wr.heap.size + 1, 0, none⟩ 1 1 [.string tx] rfl rfl (by have := World.news_of_block (cs := #[.string tx]) (t := 9) (fr := (0, 0)) (heap_alloc_new (wr.alloc (.cells #[.int .i64 tk, .int .i64 tn, .string tx, .int .i64 tq] 66)) _); rw [size_alloc1'] at this; exact this) (by simp [Value.oneCell']) (by decide) (by unfold maxLen; omega) (by omega) (by simp; omega) (wr.heap.size + 1 + 1) (by simp) ?_)
                intro g cap' w1 hown1 hgrow hat hlt1
                have HG1 := hide ((HGb.out.kept (belo1 _ (.cells #[.string tx] 9))).push (x := tx) HTo.out.1.2.2 rfl (by simp) hown1 hgrow hat)
                have HB1 := hide (below_grown (HBb.out.alloc (by simp; omega) _) hown hgrow (by simp; omega))
                clear hown1 hgrow hat hlt1 hown
                go_wp2
                go_roundw
                case rel => exact ⟨j + 1, M ++ [tx], some ⟨g, 0, none⟩, cap', by omega, by simp, by go_num, by show _ = _; rw [HTj.out]; rfl, by rw [List.length_append]; exact HG1, by show _ ≤ _; have := HNj.out; simp; omega, HB1⟩
                case measure => simp [intOf]; omega
              | false =>
                rw [hbk, Bool.false_or] at HTj
                cases hin : inL M tx with
                | true =>
                  rw [hin] at HTj HA
                  go_wp2_with (go_at_call 22; refine HA.out.mono ?_; rintro e w' ⟨⟨r, rfl, hr⟩, hw'⟩; have hw' := hw'.symm; subst hw'; simp only [Bool.not_true] at hr)
                  go_roundw
                  case rel => exact ⟨j + 1, M, ma, mc, by omega, rfl, by go_num, by show _ = _; rw [HTj.out]; rfl, HGb, by show _ ≤ _; have := HNj.out; omega, HBb⟩
                  case measure => simp [intOf]; omega
                | false =>
                  rw [hin] at HTj HA
                  go_wp2_with (first | (go_at_call 22; refine HA.out.mono ?_; rintro e w' ⟨⟨r, rfl, hr⟩, hw'⟩; have hw' := hw'.symm; subst hw'; simp only [Bool.not_false] at hr) | (at_builtin; refine wpList_append_lies _ rfl _ _ 49 rfl w.heap.size 9 i0 (.string ⟨#[]⟩) 1 16 Try.underlying49 hi0' hz0 hz1 hz2 rfl (by decide) (.slice ma M.length mc) M.length (M.flatMap elStr.cells) rfl hown ⟨wr.heap.size + 1, 0, none⟩ 1 1 [.string tx] rfl rfl (by have := World.news_of_block (cs := #[.string tx]) (t := 9) (fr := (0, 0)) (heap_alloc_new (wr.alloc (.cells #[.int .i64 tk, .int .i64 tn, .string tx, .int .i64 tq] 66)) _); rw [size_alloc1'] at this; exact this) (by simp [Value.oneCell']) (by decide) (by unfold maxLen; omega) (by omega) (by simp; omega) (wr.heap.size + 1 + 1) (by simp) ?_))
                  intro g cap' w1 hown1 hgrow hat hlt1
                  have HG1 := hide ((HGb.out.kept (belo1 _ (.cells #[.string tx] 9))).push (x := tx) HTo.out.1.2.2 rfl (by simp) hown1 hgrow hat)
                  have HB1 := hide (below_grown (HBb.out.alloc (by simp; omega) _) hown hgrow (by simp; omega))
                  clear hown1 hgrow hat hlt1 hown
                  go_wp2
                  go_roundw
                  case rel => exact ⟨j + 1, M ++ [tx], some ⟨g, 0, none⟩, cap', by omega, by simp, by go_num, by show _ = _; rw [HTj.out]; rfl, by rw [List.length_append]; exact HG1, by show _ ≤ _; have := HNj.out; simp; omega, HB1⟩
                  case measure => simp [intOf]; omega
          · obtain rfl : j = lt.length := by omega
            have hij : ¬ (lt.length : Int) < (lt.length : Int) := by omega
            rw [List.take_of_length_le (Nat.le_refl _), ← HE1.out] at HEj
            go_wp2
            go_roundw
            case rel => exact ⟨k + 1, M, ma, mc, by omega, rfl, by go_num, HEj, HGj, by show _ ≤ _; have := HNj.out; have := HN.out; have := HSt.out; omega, HBj⟩
            case measure => simp [intOf]; omega
      · have e1 : (lk != 1) = true := by simpa using hk1
        have HE1 : Hid (L = (ls.take (k + 1)).foldl litVars []) := by
          show _ = _
          rw [HTk.out, foldl_snoc, ← HE.out]
          simp [litVars, hk1]
        clear hk1
        go_wp2
        go_roundw
        case rel => exact ⟨k + 1, L, a, c, by omega, rfl, by go_num, HE1, HG, by show _ ≤ _; have := HN.out; have := HSt.out; omega, HB⟩
        case measure => simp [intOf]; omega
    · obtain rfl : k = ls.length := by omega
      have hi : ¬ (ls.length : Int) < (ls.length : Int) := by omega
      rw [List.take_of_length_le (Nat.le_refl _)] at HE HN
      have HF : Hid (L = varsP ls) := HE.out
      go_wp2
      go_ret
      exact ⟨⟨_, rfl, by rw [← HF.out]; exact ⟨HG.out.list (by have := HN.out; omega), HN.out⟩⟩, HB.out⟩
end Go.Proofs.Ythbfkbkcfcpibaa
