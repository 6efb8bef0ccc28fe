/- What stuck of edicttop answers where no token stands: the fault of the lexer. -/
import Derived.Test.YtplldgkdjainlaaDoorProg
import Derived.Test.YtplldgkdjainlaaDoorTopStkP
import Derived.Test.YtplldgkdjainlaaDoorTopStT
import Derived.Test.YtplldgkdjainlaaDoorTopSkip
namespace Go.Proofs.YtplldgkdjainlaaDoor
set_option linter.unusedSimpArgs false
set_option linter.unusedVariables false
open Go.RowKit

theorem stkRes (W : World) (b : Nat) (u0 u1 u2 : Value) (tmps : Array Value) (ht : tmps[4]? = some (.pointer (some ⟨b, 0, none⟩))) (hb : W.heap[b]? = some (.cells #[u0, u1, u2] 25 (0, 0))) :
    (results Tryd.f10 tmps).run Tryd.prog W = .ok (.agg #[u0, u1, u2]) W := by
  obtain ⟨c0, c1, c2, -⟩ := flt_cells hb
  simp [results, Tryd.results10, go_sem, ht, c0, c1, c2]

set_option maxRecDepth 100000 in
set_option maxHeartbeats 4000000 in
theorem stuck_open (s : ByteArray) (o g : Nat) (w : World) (hs : s.size ≤ 140737488351232) (ho : o ≤ s.size) (hgw : gapW s o = (g, false)) :
    Calls Tryd.prog 10 #[.string s, .int .i64 o] w fun e w' => e = .returned (.agg #[.int .i64 16, .int .i64 0, .int .i64 g]) ∧ Below w.heap.size w w' := by
  have HSk := hide (fun W => skip_any s o W hs ho)
  rw [skip_false hgw] at HSk
  have HBl2 := hide (belowA w (.cells #[.int .i64 16, .int .i64 0, .int .i64 g] 25))
  have h0 : (0 : Int) ≤ (g : Int) := by omega
  clear hgw
  go_enter Tryd.func10, Tryd.ntmps10
  go_wp2_with (go_at_call 13; refine (HSk.out _).mono ?_; rintro e w' ⟨rfl, hw'⟩; have hw' := hw'.symm; subst hw')
  exact bodyPost_ret (v := .agg #[.int .i64 16, .int .i64 0, .int .i64 g]) (by simp [results, Tryd.results10, go_sem]) rfl ⟨rfl, HBl2.out⟩
set_option maxRecDepth 100000 in
set_option maxHeartbeats 8000000 in
theorem stuck_bad1 (s : ByteArray) (o g : Nat) (c : Int) (f : Nat) (w : World) (hs : s.size ≤ 140737488351232) (ho : o ≤ s.size) (hgw : gapW s o = (g, true)) (hg : g < s.size) (hg1 : g + 1 < s.size) (hx : tokAt s g = .bad c f) :
    Calls Tryd.prog 10 #[.string s, .int .i64 o] w fun e w' => e = .returned (.agg #[.int .i64 c, .int .i64 0, .int .i64 f]) ∧ Below w.heap.size w w' := by
  have HSk := hide (fun W => skip_any s o W hs ho)
  rw [skip_true hgw] at HSk
  have HZ : Hid ((w.alloc (.cells #[.int .i64 0, .int .i64 0, .int .i64 0] 25)).heap[w.heap.size]? = some (.cells #[.int .i64 0, .int .i64 0, .int .i64 0] 25 (0, 0))) := heap_alloc_new w _
  have HB := hide (belowA w (.cells #[.int .i64 0, .int .i64 0, .int .i64 0] 25))
  have hr := (runC_iff (rest s g) _).1 rfl
  rw [rest_len] at hr
  have hstop := runC_stop s g
  obtain ⟨m, hm⟩ : ∃ m, m = g + runC (rest s g) := ⟨_, rfl⟩
  have HWd : Hid (∀ j (h : j < s.size), g ≤ j → j < m → bWord (s[j].toNat : Int) = true) := fun j h h1 h2 => by
    refine hr.2.1 (j - g) s[j] (by omega) ?_
    unfold rest
    rw [List.getElem?_drop, show g + (j - g) = j by omega, Array.getElem?_toList]
    exact Array.getElem?_eq_getElem h
  have HEd : Hid (∀ h : m < s.size, bWord (s[m].toNat : Int) = false) := fun h => by
    have := hstop (by omega)
    simp only [← hm] at this
    exact this
  have hmo : g ≤ m ∧ m ≤ s.size := by omega
  have HR := hide hm
  obtain ⟨hgX, HX⟩ := tok_bad hx
  have HX := hide HX
  have hgi : (g : Int) < (s.size : Int) := by omega
  have hg0 : (0 : Int) ≤ (g : Int) := by omega
  have q1 : (g : Int) + 1 < (s.size : Int) := by omega
  have HD := hide (fun W => tdig_any (s[g].toNat : Int) W (by have := s[g].toNat_lt; omega))
  have HWc := hide (fun W => tword_any (s[g].toNat : Int) W (by have := s[g].toNat_lt; omega))
  have HN := hide (fun W => tdig_any (s[g + 1].toNat : Int) W (by have := s[g + 1].toNat_lt; omega))
  clear hx hgw hr hstop hm
  go_enter Tryd.func10, Tryd.ntmps10
  have hne : ((g : Int) == (s.size : Int)) = false := by simp; omega
  have hm1 : ¬ (0 : Int) ≤ -1 := by omega
  go_wp2_with (go_at_call 13; refine (HSk.out _).mono ?_; rintro e w' ⟨rfl, hw'⟩; have hw' := hw'.symm; subst hw')
  obtain ⟨b0, b1, b2, l0, l1, l2⟩ := flt_cells HZ.out
  generalize w.alloc (.cells #[.int .i64 0, .int .i64 0, .int .i64 0] 25) = W0 at *
  clear HSk
  go_loopw [9] (fun i wl => ∃ j : Nat, g ≤ j ∧ j ≤ m ∧ i = .int .i64 j ∧ wl = W0) (fun i _ => m - (intOf i).toNat)
  case atStart => exact ⟨g, by omega, by omega, rfl, rfl⟩
  case round =>
    obtain ⟨j, hj1, hj, rfl, rfl⟩ := hrel
    have hj0 : (0 : Int) ≤ (j : Int) := by omega
    by_cases hlt : j < m
    · have hjs : j < s.size := by omega
      have hi : (j : Int) < (s.size : Int) := by omega
      have HWj := hide (fun W => tword_any (s[j].toNat : Int) W (by have := s[j].toNat_lt; omega))
      rw [HWd.out j hjs hj1 hlt] at HWj
      clear HX HD HN HWc
      go_wp2_with (go_at_call 15; with_reducible refine (HWj.out _).mono ?_; rintro e w' ⟨rfl, hw'⟩; have hw' := hw'.symm; subst hw')
      go_roundw
      case rel => exact ⟨j + 1, by omega, by omega, by go_num, trivial⟩
      case measure => simp [intOf]; omega
    · have hjm : j = m := by omega
      subst hjm
      clear hlt HWd
      have HWj : Hid (∀ h : j < s.size, ∀ W, Calls Tryd.prog 15 #[.int .u8 (s[j].toNat : Int)] W fun e w' => e = .returned (.bool false) ∧ w' = W) := fun h W => by
        have := tword_any (s[j].toNat : Int) W (by have := s[j].toNat_lt; omega)
        rw [HEd.out h] at this
        exact this
      clear HEd
      have hjl : j < s.size ∨ ¬ j < s.size := by omega
      rcases HX.out with ⟨d1, d2, d3, d4, rfl, rfl⟩ | ⟨hb, hp, rfl, rfl⟩ | ⟨hb, h34, ht⟩ | ⟨hb, hwo, d34, rfl, rfl, x58, x33, d40, d41, d44, d46, d61, d60, d62⟩
      · rw [d1] at HD
        rw [d3] at HWc
        have k64 : (64 : Int) < (j : Int) - (f : Int) := by have := HR.out; omega
        clear d1 d3 d4
        clear HX
        rcases hjl with hjl | hjl
        · have hi : (j : Int) < (s.size : Int) := by omega
          have HWj := hide (HWj.out hjl)
          go_wp2_with (first | (go_at_call 16; with_reducible refine (HD.out _).mono ?_; rintro e w' ⟨rfl, hw'⟩; have hw' := hw'.symm; subst hw') | (go_at_call 16; with_reducible refine (HN.out _).mono ?_; rintro e w' ⟨rfl, hw'⟩; have hw' := hw'.symm; subst hw') | (go_at_call 15; with_reducible refine (HWj.out _).mono ?_; rintro e w' ⟨rfl, hw'⟩; have hw' := hw'.symm; subst hw') | (go_at_call 15; with_reducible refine (HWc.out _).mono ?_; rintro e w' ⟨rfl, hw'⟩; have hw' := hw'.symm; subst hw'))
          exact bodyPost_ret (stkRes _ w.heap.size _ _ _ _ rfl (flt_put HZ.out _ _ _)) rfl ⟨rfl, flt_bel HB.out _ _ _⟩
        · have hi : ¬ (j : Int) < (s.size : Int) := by omega
          clear HWj
          go_wp2_with (first | (go_at_call 16; with_reducible refine (HD.out _).mono ?_; rintro e w' ⟨rfl, hw'⟩; have hw' := hw'.symm; subst hw') | (go_at_call 16; with_reducible refine (HN.out _).mono ?_; rintro e w' ⟨rfl, hw'⟩; have hw' := hw'.symm; subst hw') | (go_at_call 15; with_reducible refine (HWc.out _).mono ?_; rintro e w' ⟨rfl, hw'⟩; have hw' := hw'.symm; subst hw'))
          exact bodyPost_ret (stkRes _ w.heap.size _ _ _ _ rfl (flt_put HZ.out _ _ _)) rfl ⟨rfl, flt_bel HB.out _ _ _⟩
      · have HI := hide (fun W => stuckInt_bad s f W hs hg hb hp)
        rw [beg_rest, rest_cons s f hg] at hb
        unfold begL at hb
        simp only [List.getElem?_cons_zero, Option.getD_some, Bool.or_eq_true, Bool.and_eq_true, beq_iff_eq, decide_eq_true_eq, List.length_cons, List.getElem?_cons_succ] at hb
        clear hp
        rcases hb with hb | ⟨h45, hb1, hb2⟩
        · rw [hb] at HD
          clear hb
          clear HX
          rcases hjl with hjl | hjl
          · have hi : (j : Int) < (s.size : Int) := by omega
            have HWj := hide (HWj.out hjl)
            go_wp2_with (first | (go_at_call 16; with_reducible refine (HD.out _).mono ?_; rintro e w' ⟨rfl, hw'⟩; have hw' := hw'.symm; subst hw') | (go_at_call 16; with_reducible refine (HN.out _).mono ?_; rintro e w' ⟨rfl, hw'⟩; have hw' := hw'.symm; subst hw') | (go_at_call 15; with_reducible refine (HWj.out _).mono ?_; rintro e w' ⟨rfl, hw'⟩; have hw' := hw'.symm; subst hw') | (go_at_call 15; with_reducible refine (HWc.out _).mono ?_; rintro e w' ⟨rfl, hw'⟩; have hw' := hw'.symm; subst hw') | (go_at_call 17; refine (HI.out _).mono ?_; rintro e w3 ⟨rfl, hb3⟩; have HZ3 := hide ((hb3.block _ (Array.getElem?_eq_some_iff.1 HZ.out).1).trans HZ.out); have HB3 := hide (HB.out.trans (hb3.mono HB.out.size)); clear hb3; obtain ⟨x0, x1, x2, y0, y1, y2⟩ := flt_cells HZ3.out))
            exact bodyPost_ret (stkRes _ w.heap.size _ _ _ _ rfl (flt_put HZ3.out _ _ _)) rfl ⟨rfl, flt_bel HB3.out _ _ _⟩
          · have hi : ¬ (j : Int) < (s.size : Int) := by omega
            clear HWj
            go_wp2_with (first | (go_at_call 16; with_reducible refine (HD.out _).mono ?_; rintro e w' ⟨rfl, hw'⟩; have hw' := hw'.symm; subst hw') | (go_at_call 16; with_reducible refine (HN.out _).mono ?_; rintro e w' ⟨rfl, hw'⟩; have hw' := hw'.symm; subst hw') | (go_at_call 15; with_reducible refine (HWc.out _).mono ?_; rintro e w' ⟨rfl, hw'⟩; have hw' := hw'.symm; subst hw') | (go_at_call 17; refine (HI.out _).mono ?_; rintro e w3 ⟨rfl, hb3⟩; have HZ3 := hide ((hb3.block _ (Array.getElem?_eq_some_iff.1 HZ.out).1).trans HZ.out); have HB3 := hide (HB.out.trans (hb3.mono HB.out.size)); clear hb3; obtain ⟨x0, x1, x2, y0, y1, y2⟩ := flt_cells HZ3.out))
            exact bodyPost_ret (stkRes _ w.heap.size _ _ _ _ rfl (flt_put HZ3.out _ _ _)) rfl ⟨rfl, flt_bel HB3.out _ _ _⟩
        · rw [rest_cons s (f + 1) hg1] at hb2
          simp only [List.getElem?_cons_zero, Option.getD_some] at hb2
          have hd : bDig (s[f].toNat : Int) = false := by rw [h45]; rfl
          rw [hd] at HD
          rw [hb2] at HN
          have e45 : ((s[f].toNat : Int) == 45) = true := by simpa using h45
          clear hd hb1 hb2 h45
          clear HX
          rcases hjl with hjl | hjl
          · have hi : (j : Int) < (s.size : Int) := by omega
            have HWj := hide (HWj.out hjl)
            go_wp2_with (first | (go_at_call 16; with_reducible refine (HD.out _).mono ?_; rintro e w' ⟨rfl, hw'⟩; have hw' := hw'.symm; subst hw') | (go_at_call 16; with_reducible refine (HN.out _).mono ?_; rintro e w' ⟨rfl, hw'⟩; have hw' := hw'.symm; subst hw') | (go_at_call 15; with_reducible refine (HWj.out _).mono ?_; rintro e w' ⟨rfl, hw'⟩; have hw' := hw'.symm; subst hw') | (go_at_call 15; with_reducible refine (HWc.out _).mono ?_; rintro e w' ⟨rfl, hw'⟩; have hw' := hw'.symm; subst hw') | (go_at_call 17; refine (HI.out _).mono ?_; rintro e w3 ⟨rfl, hb3⟩; have HZ3 := hide ((hb3.block _ (Array.getElem?_eq_some_iff.1 HZ.out).1).trans HZ.out); have HB3 := hide (HB.out.trans (hb3.mono HB.out.size)); clear hb3; obtain ⟨x0, x1, x2, y0, y1, y2⟩ := flt_cells HZ3.out))
            exact bodyPost_ret (stkRes _ w.heap.size _ _ _ _ rfl (flt_put HZ3.out _ _ _)) rfl ⟨rfl, flt_bel HB3.out _ _ _⟩
          · have hi : ¬ (j : Int) < (s.size : Int) := by omega
            clear HWj
            go_wp2_with (first | (go_at_call 16; with_reducible refine (HD.out _).mono ?_; rintro e w' ⟨rfl, hw'⟩; have hw' := hw'.symm; subst hw') | (go_at_call 16; with_reducible refine (HN.out _).mono ?_; rintro e w' ⟨rfl, hw'⟩; have hw' := hw'.symm; subst hw') | (go_at_call 15; with_reducible refine (HWc.out _).mono ?_; rintro e w' ⟨rfl, hw'⟩; have hw' := hw'.symm; subst hw') | (go_at_call 17; refine (HI.out _).mono ?_; rintro e w3 ⟨rfl, hb3⟩; have HZ3 := hide ((hb3.block _ (Array.getElem?_eq_some_iff.1 HZ.out).1).trans HZ.out); have HB3 := hide (HB.out.trans (hb3.mono HB.out.size)); clear hb3; obtain ⟨x0, x1, x2, y0, y1, y2⟩ := flt_cells HZ3.out))
            exact bodyPost_ret (stkRes _ w.heap.size _ _ _ _ rfl (flt_put HZ3.out _ _ _)) rfl ⟨rfl, flt_bel HB3.out _ _ _⟩
      · have HT := hide (fun W => stuckText_bad s g c f W hs hg ht)
        have hd : bDig (s[g].toNat : Int) = false := by rw [h34]; rfl
        have hwd : bWord (s[g].toNat : Int) = false := by rw [h34]; rfl
        have e45 : ((s[g].toNat : Int) == 45) = false := by rw [h34]; rfl
        have e34 : ((s[g].toNat : Int) == 34) = true := by simpa using h34
        rw [hd] at HD
        rw [hwd] at HWc
        clear hd hwd hb ht h34
        clear HX
        rcases hjl with hjl | hjl
        · have hi : (j : Int) < (s.size : Int) := by omega
          have HWj := hide (HWj.out hjl)
          go_wp2_with (first | (go_at_call 16; with_reducible refine (HD.out _).mono ?_; rintro e w' ⟨rfl, hw'⟩; have hw' := hw'.symm; subst hw') | (go_at_call 16; with_reducible refine (HN.out _).mono ?_; rintro e w' ⟨rfl, hw'⟩; have hw' := hw'.symm; subst hw') | (go_at_call 15; with_reducible refine (HWj.out _).mono ?_; rintro e w' ⟨rfl, hw'⟩; have hw' := hw'.symm; subst hw') | (go_at_call 15; with_reducible refine (HWc.out _).mono ?_; rintro e w' ⟨rfl, hw'⟩; have hw' := hw'.symm; subst hw') | (go_at_call 18; refine (HT.out _).mono ?_; rintro e w3 ⟨rfl, hb3⟩; have HZ3 := hide ((hb3.block _ (Array.getElem?_eq_some_iff.1 HZ.out).1).trans HZ.out); have HB3 := hide (HB.out.trans (hb3.mono HB.out.size)); clear hb3; obtain ⟨x0, x1, x2, y0, y1, y2⟩ := flt_cells HZ3.out))
          exact bodyPost_ret (stkRes _ w.heap.size _ _ _ _ rfl (flt_put HZ3.out _ _ _)) rfl ⟨rfl, flt_bel HB3.out _ _ _⟩
        · have hi : ¬ (j : Int) < (s.size : Int) := by omega
          clear HWj
          go_wp2_with (first | (go_at_call 16; with_reducible refine (HD.out _).mono ?_; rintro e w' ⟨rfl, hw'⟩; have hw' := hw'.symm; subst hw') | (go_at_call 16; with_reducible refine (HN.out _).mono ?_; rintro e w' ⟨rfl, hw'⟩; have hw' := hw'.symm; subst hw') | (go_at_call 15; with_reducible refine (HWc.out _).mono ?_; rintro e w' ⟨rfl, hw'⟩; have hw' := hw'.symm; subst hw') | (go_at_call 18; refine (HT.out _).mono ?_; rintro e w3 ⟨rfl, hb3⟩; have HZ3 := hide ((hb3.block _ (Array.getElem?_eq_some_iff.1 HZ.out).1).trans HZ.out); have HB3 := hide (HB.out.trans (hb3.mono HB.out.size)); clear hb3; obtain ⟨x0, x1, x2, y0, y1, y2⟩ := flt_cells HZ3.out))
          exact bodyPost_ret (stkRes _ w.heap.size _ _ _ _ rfl (flt_put HZ3.out _ _ _)) rfl ⟨rfl, flt_bel HB3.out _ _ _⟩
      · have hd : bDig (s[f].toNat : Int) = false := by unfold bWord at hwo; simp only [Bool.or_eq_false_iff] at hwo; exact hwo.2.2.1
        rw [hd] at HD
        rw [hwo] at HWc
        have h45 : ((s[f].toNat : Int) == 45) = false ∨ ((s[f].toNat : Int) == 45) = true ∧ bDig (s[f + 1].toNat : Int) = false := by
          rw [beg_rest, rest_cons s f hg] at hb
          unfold begL at hb
          rw [rest_cons s (f + 1) hg1] at hb
          simp only [List.getElem?_cons_zero, Option.getD_some, Bool.or_eq_false_iff, Bool.and_eq_false_iff, List.length_cons, List.getElem?_cons_succ] at hb
          rcases hb.2 with h | h | h
          · exact .inl h
          · exact absurd (of_decide_eq_false h) (by omega)
          · cases h4 : ((s[f].toNat : Int) == 45) with
            | true => exact .inr ⟨rfl, h⟩
            | false => exact .inl rfl
        have x58 := x58.imp_right (fun h => h hg1)
        have x33 := x33.imp_right (fun h => h hg1)
        clear hb hd hwo
        clear HX
        have HX2 := hide (show _ ∧ _ from ⟨x58, x33⟩)
        clear x58 x33
        rcases h45 with e45 | ⟨e45, hn⟩
        · skip
          rcases HX2.out.1 with x58 | x58 <;> rcases HX2.out.2 with x33 | x33 <;> clear HX2
          all_goals
            rcases hjl with hjl | hjl
            · have hi : (j : Int) < (s.size : Int) := by omega
              have HWj := hide (HWj.out hjl)
              go_wp2_with (first | (go_at_call 16; with_reducible refine (HD.out _).mono ?_; rintro e w' ⟨rfl, hw'⟩; have hw' := hw'.symm; subst hw') | (go_at_call 16; with_reducible refine (HN.out _).mono ?_; rintro e w' ⟨rfl, hw'⟩; have hw' := hw'.symm; subst hw') | (go_at_call 15; with_reducible refine (HWj.out _).mono ?_; rintro e w' ⟨rfl, hw'⟩; have hw' := hw'.symm; subst hw') | (go_at_call 15; with_reducible refine (HWc.out _).mono ?_; rintro e w' ⟨rfl, hw'⟩; have hw' := hw'.symm; subst hw'))
              all_goals (exact bodyPost_ret (stkRes _ w.heap.size _ _ _ _ rfl (flt_put HZ.out _ _ _)) rfl ⟨rfl, flt_bel HB.out _ _ _⟩)
            · have hi : ¬ (j : Int) < (s.size : Int) := by omega
              clear HWj
              go_wp2_with (first | (go_at_call 16; with_reducible refine (HD.out _).mono ?_; rintro e w' ⟨rfl, hw'⟩; have hw' := hw'.symm; subst hw') | (go_at_call 16; with_reducible refine (HN.out _).mono ?_; rintro e w' ⟨rfl, hw'⟩; have hw' := hw'.symm; subst hw') | (go_at_call 15; with_reducible refine (HWc.out _).mono ?_; rintro e w' ⟨rfl, hw'⟩; have hw' := hw'.symm; subst hw'))
              all_goals (exact bodyPost_ret (stkRes _ w.heap.size _ _ _ _ rfl (flt_put HZ.out _ _ _)) rfl ⟨rfl, flt_bel HB.out _ _ _⟩)
        · rw [hn] at HN
          rcases HX2.out.1 with x58 | x58 <;> rcases HX2.out.2 with x33 | x33 <;> clear HX2
          all_goals
            rcases hjl with hjl | hjl
            · have hi : (j : Int) < (s.size : Int) := by omega
              have HWj := hide (HWj.out hjl)
              go_wp2_with (first | (go_at_call 16; with_reducible refine (HD.out _).mono ?_; rintro e w' ⟨rfl, hw'⟩; have hw' := hw'.symm; subst hw') | (go_at_call 16; with_reducible refine (HN.out _).mono ?_; rintro e w' ⟨rfl, hw'⟩; have hw' := hw'.symm; subst hw') | (go_at_call 15; with_reducible refine (HWj.out _).mono ?_; rintro e w' ⟨rfl, hw'⟩; have hw' := hw'.symm; subst hw') | (go_at_call 15; with_reducible refine (HWc.out _).mono ?_; rintro e w' ⟨rfl, hw'⟩; have hw' := hw'.symm; subst hw'))
              all_goals (exact bodyPost_ret (stkRes _ w.heap.size _ _ _ _ rfl (flt_put HZ.out _ _ _)) rfl ⟨rfl, flt_bel HB.out _ _ _⟩)
            · have hi : ¬ (j : Int) < (s.size : Int) := by omega
              clear HWj
              go_wp2_with (first | (go_at_call 16; with_reducible refine (HD.out _).mono ?_; rintro e w' ⟨rfl, hw'⟩; have hw' := hw'.symm; subst hw') | (go_at_call 16; with_reducible refine (HN.out _).mono ?_; rintro e w' ⟨rfl, hw'⟩; have hw' := hw'.symm; subst hw') | (go_at_call 15; with_reducible refine (HWc.out _).mono ?_; rintro e w' ⟨rfl, hw'⟩; have hw' := hw'.symm; subst hw'))
              all_goals (exact bodyPost_ret (stkRes _ w.heap.size _ _ _ _ rfl (flt_put HZ.out _ _ _)) rfl ⟨rfl, flt_bel HB.out _ _ _⟩)
set_option maxRecDepth 100000 in
set_option maxHeartbeats 8000000 in
theorem stuck_bad0 (s : ByteArray) (o g : Nat) (c : Int) (f : Nat) (w : World) (hs : s.size ≤ 140737488351232) (ho : o ≤ s.size) (hgw : gapW s o = (g, true)) (hg : g < s.size) (hg1 : ¬ g + 1 < s.size) (hx : tokAt s g = .bad c f) :
    Calls Tryd.prog 10 #[.string s, .int .i64 o] w fun e w' => e = .returned (.agg #[.int .i64 c, .int .i64 0, .int .i64 f]) ∧ Below w.heap.size w w' := by
  have HSk := hide (fun W => skip_any s o W hs ho)
  rw [skip_true hgw] at HSk
  have HZ : Hid ((w.alloc (.cells #[.int .i64 0, .int .i64 0, .int .i64 0] 25)).heap[w.heap.size]? = some (.cells #[.int .i64 0, .int .i64 0, .int .i64 0] 25 (0, 0))) := heap_alloc_new w _
  have HB := hide (belowA w (.cells #[.int .i64 0, .int .i64 0, .int .i64 0] 25))
  have hr := (runC_iff (rest s g) _).1 rfl
  rw [rest_len] at hr
  have hstop := runC_stop s g
  obtain ⟨m, hm⟩ : ∃ m, m = g + runC (rest s g) := ⟨_, rfl⟩
  have HWd : Hid (∀ j (h : j < s.size), g ≤ j → j < m → bWord (s[j].toNat : Int) = true) := fun j h h1 h2 => by
    refine hr.2.1 (j - g) s[j] (by omega) ?_
    unfold rest
    rw [List.getElem?_drop, show g + (j - g) = j by omega, Array.getElem?_toList]
    exact Array.getElem?_eq_getElem h
  have HEd : Hid (∀ h : m < s.size, bWord (s[m].toNat : Int) = false) := fun h => by
    have := hstop (by omega)
    simp only [← hm] at this
    exact this
  have hmo : g ≤ m ∧ m ≤ s.size := by omega
  have HR := hide hm
  obtain ⟨hgX, HX⟩ := tok_bad hx
  have HX := hide HX
  have hgi : (g : Int) < (s.size : Int) := by omega
  have hg0 : (0 : Int) ≤ (g : Int) := by omega
  have q1 : ¬ (g : Int) + 1 < (s.size : Int) := by omega
  have HD := hide (fun W => tdig_any (s[g].toNat : Int) W (by have := s[g].toNat_lt; omega))
  have HWc := hide (fun W => tword_any (s[g].toNat : Int) W (by have := s[g].toNat_lt; omega))
  have HN := hide (fun W => tdig_any (0 : Int) W (by omega))
  clear hx hgw hr hstop hm
  go_enter Tryd.func10, Tryd.ntmps10
  have hne : ((g : Int) == (s.size : Int)) = false := by simp; omega
  have hm1 : ¬ (0 : Int) ≤ -1 := by omega
  go_wp2_with (go_at_call 13; refine (HSk.out _).mono ?_; rintro e w' ⟨rfl, hw'⟩; have hw' := hw'.symm; subst hw')
  obtain ⟨b0, b1, b2, l0, l1, l2⟩ := flt_cells HZ.out
  generalize w.alloc (.cells #[.int .i64 0, .int .i64 0, .int .i64 0] 25) = W0 at *
  clear HSk
  go_loopw [9] (fun i wl => ∃ j : Nat, g ≤ j ∧ j ≤ m ∧ i = .int .i64 j ∧ wl = W0) (fun i _ => m - (intOf i).toNat)
  case atStart => exact ⟨g, by omega, by omega, rfl, rfl⟩
  case round =>
    obtain ⟨j, hj1, hj, rfl, rfl⟩ := hrel
    have hj0 : (0 : Int) ≤ (j : Int) := by omega
    by_cases hlt : j < m
    · have hjs : j < s.size := by omega
      have hi : (j : Int) < (s.size : Int) := by omega
      have HWj := hide (fun W => tword_any (s[j].toNat : Int) W (by have := s[j].toNat_lt; omega))
      rw [HWd.out j hjs hj1 hlt] at HWj
      clear HX HD HN HWc
      go_wp2_with (go_at_call 15; with_reducible refine (HWj.out _).mono ?_; rintro e w' ⟨rfl, hw'⟩; have hw' := hw'.symm; subst hw')
      go_roundw
      case rel => exact ⟨j + 1, by omega, by omega, by go_num, trivial⟩
      case measure => simp [intOf]; omega
    · have hjm : j = m := by omega
      subst hjm
      clear hlt HWd
      have HWj : Hid (∀ h : j < s.size, ∀ W, Calls Tryd.prog 15 #[.int .u8 (s[j].toNat : Int)] W fun e w' => e = .returned (.bool false) ∧ w' = W) := fun h W => by
        have := tword_any (s[j].toNat : Int) W (by have := s[j].toNat_lt; omega)
        rw [HEd.out h] at this
        exact this
      clear HEd
      have hjl : j < s.size ∨ ¬ j < s.size := by omega
      have HG1 := hide hg1
      clear hg1
      rename (s.size : Int) ≤ (g : Int) + 1 => hh
      clear hh
      rename (s.size : Int) ≤ (g : Int) + 1 => hh
      clear hh
      rcases HX.out with ⟨d1, d2, d3, d4, rfl, rfl⟩ | ⟨hb, hp, rfl, rfl⟩ | ⟨hb, h34, ht⟩ | ⟨hb, hwo, d34, rfl, rfl, x58, x33, d40, d41, d44, d46, d61, d60, d62⟩
      · rw [d1] at HD
        rw [d3] at HWc
        have k64 : (64 : Int) < (j : Int) - (f : Int) := by have := HR.out; omega
        clear d1 d3 d4
        clear HX
        rcases hjl with hjl | hjl
        · have hi : (j : Int) < (s.size : Int) := by omega
          have HWj := hide (HWj.out hjl)
          go_wp2_with (first | (go_at_call 16; with_reducible refine (HD.out _).mono ?_; rintro e w' ⟨rfl, hw'⟩; have hw' := hw'.symm; subst hw') | (go_at_call 16; with_reducible refine (HN.out _).mono ?_; rintro e w' ⟨rfl, hw'⟩; have hw' := hw'.symm; subst hw') | (go_at_call 15; with_reducible refine (HWj.out _).mono ?_; rintro e w' ⟨rfl, hw'⟩; have hw' := hw'.symm; subst hw') | (go_at_call 15; with_reducible refine (HWc.out _).mono ?_; rintro e w' ⟨rfl, hw'⟩; have hw' := hw'.symm; subst hw'))
          exact bodyPost_ret (stkRes _ w.heap.size _ _ _ _ rfl (flt_put HZ.out _ _ _)) rfl ⟨rfl, flt_bel HB.out _ _ _⟩
        · have hi : ¬ (j : Int) < (s.size : Int) := by omega
          clear HWj
          go_wp2_with (first | (go_at_call 16; with_reducible refine (HD.out _).mono ?_; rintro e w' ⟨rfl, hw'⟩; have hw' := hw'.symm; subst hw') | (go_at_call 16; with_reducible refine (HN.out _).mono ?_; rintro e w' ⟨rfl, hw'⟩; have hw' := hw'.symm; subst hw') | (go_at_call 15; with_reducible refine (HWc.out _).mono ?_; rintro e w' ⟨rfl, hw'⟩; have hw' := hw'.symm; subst hw'))
          exact bodyPost_ret (stkRes _ w.heap.size _ _ _ _ rfl (flt_put HZ.out _ _ _)) rfl ⟨rfl, flt_bel HB.out _ _ _⟩
      · have HI := hide (fun W => stuckInt_bad s f W hs hg hb hp)
        rw [beg_rest, rest_cons s f hg] at hb
        unfold begL at hb
        simp only [List.getElem?_cons_zero, Option.getD_some, Bool.or_eq_true, Bool.and_eq_true, beq_iff_eq, decide_eq_true_eq, List.length_cons, List.getElem?_cons_succ] at hb
        clear hp
        rcases hb with hb | ⟨h45, hb1, hb2⟩
        · rw [hb] at HD
          clear hb
          clear HX
          rcases hjl with hjl | hjl
          · have hi : (j : Int) < (s.size : Int) := by omega
            have HWj := hide (HWj.out hjl)
            go_wp2_with (first | (go_at_call 16; with_reducible refine (HD.out _).mono ?_; rintro e w' ⟨rfl, hw'⟩; have hw' := hw'.symm; subst hw') | (go_at_call 16; with_reducible refine (HN.out _).mono ?_; rintro e w' ⟨rfl, hw'⟩; have hw' := hw'.symm; subst hw') | (go_at_call 15; with_reducible refine (HWj.out _).mono ?_; rintro e w' ⟨rfl, hw'⟩; have hw' := hw'.symm; subst hw') | (go_at_call 15; with_reducible refine (HWc.out _).mono ?_; rintro e w' ⟨rfl, hw'⟩; have hw' := hw'.symm; subst hw') | (go_at_call 17; refine (HI.out _).mono ?_; rintro e w3 ⟨rfl, hb3⟩; have HZ3 := hide ((hb3.block _ (Array.getElem?_eq_some_iff.1 HZ.out).1).trans HZ.out); have HB3 := hide (HB.out.trans (hb3.mono HB.out.size)); clear hb3; obtain ⟨x0, x1, x2, y0, y1, y2⟩ := flt_cells HZ3.out))
            exact bodyPost_ret (stkRes _ w.heap.size _ _ _ _ rfl (flt_put HZ3.out _ _ _)) rfl ⟨rfl, flt_bel HB3.out _ _ _⟩
          · have hi : ¬ (j : Int) < (s.size : Int) := by omega
            clear HWj
            go_wp2_with (first | (go_at_call 16; with_reducible refine (HD.out _).mono ?_; rintro e w' ⟨rfl, hw'⟩; have hw' := hw'.symm; subst hw') | (go_at_call 16; with_reducible refine (HN.out _).mono ?_; rintro e w' ⟨rfl, hw'⟩; have hw' := hw'.symm; subst hw') | (go_at_call 15; with_reducible refine (HWc.out _).mono ?_; rintro e w' ⟨rfl, hw'⟩; have hw' := hw'.symm; subst hw') | (go_at_call 17; refine (HI.out _).mono ?_; rintro e w3 ⟨rfl, hb3⟩; have HZ3 := hide ((hb3.block _ (Array.getElem?_eq_some_iff.1 HZ.out).1).trans HZ.out); have HB3 := hide (HB.out.trans (hb3.mono HB.out.size)); clear hb3; obtain ⟨x0, x1, x2, y0, y1, y2⟩ := flt_cells HZ3.out))
            exact bodyPost_ret (stkRes _ w.heap.size _ _ _ _ rfl (flt_put HZ3.out _ _ _)) rfl ⟨rfl, flt_bel HB3.out _ _ _⟩
        · exact absurd hb1 (by have := HG1.out; rw [rest_len]; omega)
      · have HT := hide (fun W => stuckText_bad s g c f W hs hg ht)
        have hd : bDig (s[g].toNat : Int) = false := by rw [h34]; rfl
        have hwd : bWord (s[g].toNat : Int) = false := by rw [h34]; rfl
        have e45 : ((s[g].toNat : Int) == 45) = false := by rw [h34]; rfl
        have e34 : ((s[g].toNat : Int) == 34) = true := by simpa using h34
        rw [hd] at HD
        rw [hwd] at HWc
        clear hd hwd hb ht h34
        clear HX
        rcases hjl with hjl | hjl
        · have hi : (j : Int) < (s.size : Int) := by omega
          have HWj := hide (HWj.out hjl)
          go_wp2_with (first | (go_at_call 16; with_reducible refine (HD.out _).mono ?_; rintro e w' ⟨rfl, hw'⟩; have hw' := hw'.symm; subst hw') | (go_at_call 16; with_reducible refine (HN.out _).mono ?_; rintro e w' ⟨rfl, hw'⟩; have hw' := hw'.symm; subst hw') | (go_at_call 15; with_reducible refine (HWj.out _).mono ?_; rintro e w' ⟨rfl, hw'⟩; have hw' := hw'.symm; subst hw') | (go_at_call 15; with_reducible refine (HWc.out _).mono ?_; rintro e w' ⟨rfl, hw'⟩; have hw' := hw'.symm; subst hw') | (go_at_call 18; refine (HT.out _).mono ?_; rintro e w3 ⟨rfl, hb3⟩; have HZ3 := hide ((hb3.block _ (Array.getElem?_eq_some_iff.1 HZ.out).1).trans HZ.out); have HB3 := hide (HB.out.trans (hb3.mono HB.out.size)); clear hb3; obtain ⟨x0, x1, x2, y0, y1, y2⟩ := flt_cells HZ3.out))
          exact bodyPost_ret (stkRes _ w.heap.size _ _ _ _ rfl (flt_put HZ3.out _ _ _)) rfl ⟨rfl, flt_bel HB3.out _ _ _⟩
        · have hi : ¬ (j : Int) < (s.size : Int) := by omega
          clear HWj
          go_wp2_with (first | (go_at_call 16; with_reducible refine (HD.out _).mono ?_; rintro e w' ⟨rfl, hw'⟩; have hw' := hw'.symm; subst hw') | (go_at_call 16; with_reducible refine (HN.out _).mono ?_; rintro e w' ⟨rfl, hw'⟩; have hw' := hw'.symm; subst hw') | (go_at_call 15; with_reducible refine (HWc.out _).mono ?_; rintro e w' ⟨rfl, hw'⟩; have hw' := hw'.symm; subst hw') | (go_at_call 18; refine (HT.out _).mono ?_; rintro e w3 ⟨rfl, hb3⟩; have HZ3 := hide ((hb3.block _ (Array.getElem?_eq_some_iff.1 HZ.out).1).trans HZ.out); have HB3 := hide (HB.out.trans (hb3.mono HB.out.size)); clear hb3; obtain ⟨x0, x1, x2, y0, y1, y2⟩ := flt_cells HZ3.out))
          exact bodyPost_ret (stkRes _ w.heap.size _ _ _ _ rfl (flt_put HZ3.out _ _ _)) rfl ⟨rfl, flt_bel HB3.out _ _ _⟩
      · have hd : bDig (s[f].toNat : Int) = false := by unfold bWord at hwo; simp only [Bool.or_eq_false_iff] at hwo; exact hwo.2.2.1
        rw [hd] at HD
        rw [hwo] at HWc
        have hN0 : bDig 0 = false := rfl
        rw [hN0] at HN
        have z45 : ((0 : Int) == 45) = false := rfl
        have z61 : ((0 : Int) == 61) = false := rfl
        obtain ⟨k45, hk45⟩ : ∃ b, ((s[f].toNat : Int) == 45) = b := ⟨_, rfl⟩
        obtain ⟨k58, hk58⟩ : ∃ b, ((s[f].toNat : Int) == 58) = b := ⟨_, rfl⟩
        obtain ⟨k33, hk33⟩ : ∃ b, ((s[f].toNat : Int) == 33) = b := ⟨_, rfl⟩
        clear hb hd hwo x58 x33 hN0
        clear HX
        cases k45 <;> cases k58 <;> cases k33
        all_goals
            rcases hjl with hjl | hjl
            · have hi : (j : Int) < (s.size : Int) := by omega
              have HWj := hide (HWj.out hjl)
              go_wp2_with (first | (go_at_call 16; with_reducible refine (HD.out _).mono ?_; rintro e w' ⟨rfl, hw'⟩; have hw' := hw'.symm; subst hw') | (go_at_call 16; with_reducible refine (HN.out _).mono ?_; rintro e w' ⟨rfl, hw'⟩; have hw' := hw'.symm; subst hw') | (go_at_call 15; with_reducible refine (HWj.out _).mono ?_; rintro e w' ⟨rfl, hw'⟩; have hw' := hw'.symm; subst hw') | (go_at_call 15; with_reducible refine (HWc.out _).mono ?_; rintro e w' ⟨rfl, hw'⟩; have hw' := hw'.symm; subst hw'))
              all_goals (exact bodyPost_ret (stkRes _ w.heap.size _ _ _ _ rfl (flt_put HZ.out _ _ _)) rfl ⟨rfl, flt_bel HB.out _ _ _⟩)
            · have hi : ¬ (j : Int) < (s.size : Int) := by omega
              clear HWj
              go_wp2_with (first | (go_at_call 16; with_reducible refine (HD.out _).mono ?_; rintro e w' ⟨rfl, hw'⟩; have hw' := hw'.symm; subst hw') | (go_at_call 16; with_reducible refine (HN.out _).mono ?_; rintro e w' ⟨rfl, hw'⟩; have hw' := hw'.symm; subst hw') | (go_at_call 15; with_reducible refine (HWc.out _).mono ?_; rintro e w' ⟨rfl, hw'⟩; have hw' := hw'.symm; subst hw'))
              all_goals (exact bodyPost_ret (stkRes _ w.heap.size _ _ _ _ rfl (flt_put HZ.out _ _ _)) rfl ⟨rfl, flt_bel HB.out _ _ _⟩)

theorem stuck_bad (s : ByteArray) (o : Nat) (c : Int) (f : Nat) (w : World) (hs : s.size ≤ 140737488351232) (ho : o ≤ s.size) (hx : nextX s o = .bad c f) :
    Calls Tryd.prog 10 #[.string s, .int .i64 o] w fun e w' => e = .returned (.agg #[.int .i64 c, .int .i64 0, .int .i64 f]) ∧ Below w.heap.size w w' := by
  unfold nextX at hx
  obtain ⟨g, b, hgb⟩ : ∃ g b, gapW s o = (g, b) := ⟨_, _, rfl⟩
  rw [hgb] at hx
  cases b with
  | false =>
    injection hx with e1 e2
    subst e1 e2
    exact stuck_open s o g w hs ho hgb
  | true =>
    have hg := (tok_bad hx).1
    by_cases hg1 : g + 1 < s.size
    · exact stuck_bad1 s o g c f w hs ho hgb hg hg1 hx
    · exact stuck_bad0 s o g c f w hs ho hgb hg hg1 hx
end Go.Proofs.YtplldgkdjainlaaDoor
