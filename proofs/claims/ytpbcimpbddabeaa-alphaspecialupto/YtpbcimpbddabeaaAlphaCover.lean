/- alpha.Covers; the document's within, Loosest and Covers. -/
import Derived.Test.YtpbcimpbddabeaaAlphaRef
import Derived.Test.YtpbcimpbddabeaaCoverPure
import Derived.Test.YtpbcimpbddabeaaShapesOf
namespace Go.Proofs.Ytpbcimpbddabeaa
set_option linter.unusedSimpArgs false
set_option linter.unusedVariables false
open Go.RowKit

theorem mem_next {l : List Int} {k : Nat} {x n : Int} (hx : l[k]? = some x) (h : ∀ i y, i < k → l[i]? = some y → y ≠ n) (hn : x ≠ n) : ∀ i y, i < k + 1 → l[i]? = some y → y ≠ n := by
  intro i y hi hy
  rcases Nat.lt_or_ge i k with h1 | h1
  · exact h i y h1 hy
  · obtain rfl : i = k := by omega
    rw [hx] at hy; cases hy; exact hn

set_option maxHeartbeats 1000000 in
theorem rwithin_any {w : World} {v : Value} {l : List Int} (h : Has elInt w v l) (n : Int) :
    Calls Try.prog 29 #[v, .int .i64 n] w fun e w' => e = .returned (.bool (decide (n ∈ l))) ∧ w' = w := by
  obtain ⟨a, cc, rfl, -, -, hlen⟩ := h.shape
  have HL := hide h
  clear h
  obtain ⟨r, hr⟩ : ∃ r, decide (n ∈ l) = r := ⟨_, rfl⟩
  rw [hr]
  have HR := hide hr
  clear hr
  go_enter Try.func29, Try.ntmps29
  go_wp2
  go_loopw [5] (fun i wl => ∃ k : Nat, k ≤ l.length ∧ i = .int .i64 k ∧ Hid (∀ (i : Nat) (y : Int), i < k → l[i]? = some y → y ≠ n) ∧ wl = w) (fun i _ => l.length - (intOf i).toNat)
  case atStart => exact ⟨0, by omega, rfl, fun i y h => by omega, rfl⟩
  case round =>
    obtain ⟨k, hk, rfl, HK, rfl⟩ := hrel
    by_cases hlt : k < l.length
    · have hi : (k : Int) < (l.length : Int) := by omega
      have hi0 : (0 : Int) ≤ (k : Int) := by omega
      obtain ⟨b, off, rfl, -, -, hrow⟩ := HL.out.row (by omega)
      obtain ⟨x, hx⟩ : ∃ x, l[k]? = some x := ⟨_, List.getElem?_eq_getElem hlt⟩
      have y0 := hrow k x hx 0 _ rfl
      simp only [elInt, Nat.add_zero, Nat.mul_one] at y0
      have HX := hide hx
      clear hx hrow
      by_cases he : x = n
      · have HN : Hid (r = true) := by show _ = _; rw [← HR.out]; exact decide_eq_true (by rw [← he]; exact List.mem_of_getElem? HX.out)
        clear HR
        subst he
        go_wp2
        go_ret
        exact ⟨by rw [HN.out]; rfl, rfl⟩
      · have he1 : (x == n) = false := by simp [he]
        have HN := hide (mem_next HX.out HK.out he)
        go_wp2
        go_roundw
        case rel => exact ⟨k + 1, by omega, by go_num, HN.out, by first | rfl | trivial⟩
        case measure => simp [intOf]; omega
    · obtain rfl : k = l.length := by omega
      have hi : ¬ (l.length : Int) < (l.length : Int) := by omega
      have HN : Hid (r = false) := by
        show _ = _
        rw [← HR.out, decide_eq_false_iff_not]
        intro hm
        obtain ⟨i, hi⟩ := List.mem_iff_getElem?.1 hm
        exact HK.out i n (List.getElem?_eq_some_iff.1 hi).1 hi rfl
      clear HR
      go_wp2
      go_ret
      exact ⟨by rw [HN.out]; rfl, rfl⟩

set_option maxRecDepth 100000 in
set_option maxHeartbeats 4000000 in
theorem loosest_any {w : World} {p q : Int} {u v : Value} {xs bs : List Int} (h1 : Has elInt w u xs) (h2 : Has elInt w v bs) (hb : Vld q bs) :
    Calls Try.prog 28 #[.agg #[.int .i64 p, u], .agg #[.int .i64 q, v]] w fun e w' => ∃ v', e = .returned v' ∧ ∃ row, Has elInt w' v' row ∧ (∃ n, LooseTo xs bs row bs.length n) ∧ Below w.heap.size w w' := by
  obtain ⟨i0, hi0', hz0, hz1, hz2⟩ := info_parts Try.infoInt10
  obtain ⟨va, vc, rfl, -, -, hlen⟩ := h1.shape
  obtain ⟨ua, uc, rfl, -, -, hlen2⟩ := h2.shape
  have HB0 : Hid (Below w.heap.size w ((w.alloc (.cells #[.int .i64 p, .slice va xs.length vc] 32)).alloc (.cells #[.int .i64 q, .slice ua bs.length uc] 32))) := belot (belo1 w _) (belo1 _ _)
  have H1 := hide (h1.kept HB0.out)
  have H2 := hide (h2.kept HB0.out)
  have HV := hide hb
  clear h1 h2 hb
  obtain ⟨W0, hW0⟩ : ∃ W0, W0 = (w.alloc (.cells #[.int .i64 p, .slice va xs.length vc] 32)).alloc (.cells #[.int .i64 q, .slice ua bs.length uc] 32) := ⟨_, rfl⟩
  have b1 : W0.cell? ⟨w.heap.size, 1, none⟩ = some (.slice va xs.length vc) := by
    rw [hW0]
    exact kept_cell (belo1 _ _) (new_cells (cs := #[.int .i64 p, .slice va xs.length vc]) 1 _ rfl)
  have b2 : W0.cell? ⟨w.heap.size + 1, 1, none⟩ = some (.slice ua bs.length uc) := by
    rw [hW0]
    have := new_cells (w := w.alloc (.cells #[.int .i64 p, .slice va xs.length vc] 32)) (t := 32) (cs := #[.int .i64 q, .slice ua bs.length uc]) 1 _ rfl
    simp only [size_alloc10] at this
    exact this
  go_enter Try.func28, Try.ntmps28
  go_wp2
  rw [← hW0] at HB0 H1 H2 ⊢
  clear hW0
  go_loopw [5, 6, 7] (fun r nx i wl => ∃ (k n : Nat) (row : List Int), k ≤ bs.length ∧ i = .int .i64 k ∧ nx = .int .i64 n ∧ Hid (Grow elInt 3 W0.heap.size wl r row) ∧ Hid (LooseTo xs bs row k n) ∧ Hid (Below W0.heap.size W0 wl)) (fun _ _ i _ => bs.length - (intOf i).toNat)
  case atStart => exact ⟨0, 0, [], by omega, rfl, rfl, Grow.nil _ _ _ _, LooseTo.start _ _, Below.refl _ _⟩
  case round =>
    obtain ⟨k, n, row, hk, rfl, rfl, HG, HT, HB⟩ := hrel
    have b1k := kept_cell HB.out b1
    have b2k := kept_cell HB.out b2
    have HLn : Hid (row.length = k) := HT.out.len
    have HRl : Hid (row.length < 1073741824) := by show _ < _; rw [HLn.out]; omega
    have HRw := hide (HG.out.list HRl.out)
    obtain ⟨oa, oc, hsh, -, -⟩ := HG.out.shape
    rw [HLn.out] at hsh
    subst hsh
    by_cases hlt : k < bs.length
    · have hi : (k : Int) < (bs.length : Int) := by omega
      have hi0 : (0 : Int) ≤ (k : Int) := by omega
      obtain ⟨b, off, rfl, -, -, hrow⟩ := H2.out.row (by omega)
      obtain ⟨c, hx⟩ : ∃ c, bs[k]? = some c := ⟨_, List.getElem?_eq_getElem hlt⟩
      have y0 := kept_cell HB.out (hrow k c hx 0 _ rfl)
      simp only [elInt, Nat.add_zero, Nat.mul_one] at y0
      have HX := hide hx
      have hc : I64 c := H2.out.ok (List.mem_of_getElem? hx)
      clear hrow hx
      by_cases hn : 0 ≤ c
      · have HG2 := hide (HG.out.kept (belo1 wr (.cells #[.int .i64 c] 3)))
        have HB2 := hide (HB.out.alloc HB.out.size (.cells #[.int .i64 c] 3))
        have HN := hide (HT.out.const HX.out hn hc)
        go_wp2_with (at_builtin; refine wpList_push (w0 := W0) elInt rfl _ _ 25 rfl W0.heap.size 3 i0 _ 8 Try.underlying25 hi0' hz0 hz1 hz2 rfl (by decide) _ row k HLn.out rfl HG2.out c wr.heap.size 1 rfl (fun j u hu => new_cells j u hu) hc (by omega) HB2.out HB2.out.size ?_)
        intro g cap' w1 HG1 HB1 HGr
        clear HGr
        go_wp2
        go_roundw
        case rel => exact ⟨k + 1, n, _, by omega, by go_num, rfl, HG1, HN, HB1⟩
        case measure => simp [intOf]; omega
      · have hneg : c < 0 := by omega
        have hok := HV.out.2 k c HX.out hneg
        obtain ⟨j, hj'⟩ : ∃ j, at10 c = j := ⟨_, rfl⟩
        have hcj : c = -1 - (j : Int) := by have := at10_eq hneg; omega
        rw [hj'] at hok
        clear hj'
        subst hcj
        have hs0 : -1 - (-1 - (j : Int)) = (j : Int) := by omega
        have hge : decide (0 ≤ -1 - (j : Int)) = false := by simp; omega
        by_cases hj : j < k
        · have hjk : (j : Int) < (k : Int) := by omega
          have hj0 : (0 : Int) ≤ (j : Int) := by omega
          obtain ⟨x, hxr⟩ : ∃ x, row[j]? = some x := ⟨_, List.getElem?_eq_getElem (by rw [HLn.out]; exact hj)⟩
          obtain ⟨rb, ro, hra, -, -, rrow⟩ := HRw.out.row (by rw [HLn.out]; omega)
          cases hra
          have r0 := rrow j x hxr 0 _ rfl
          simp only [elInt, Nat.add_zero, Nat.mul_one] at r0
          have hxi : I64 x := HT.out.i64 x (List.mem_of_getElem? hxr)
          have HN := hide (HT.out.again HX.out (by omega) hj hok.2 hxr)
          clear rrow hxr hok
          have HG2 := hide (HG.out.kept (belo1 wr (.cells #[.int .i64 x] 3)))
          have HB2 := hide (HB.out.alloc HB.out.size (.cells #[.int .i64 x] 3))
          go_wp2_with (at_builtin; refine wpList_push (w0 := W0) elInt rfl _ _ 25 rfl W0.heap.size 3 i0 _ 8 Try.underlying25 hi0' hz0 hz1 hz2 rfl (by decide) _ row k HLn.out rfl HG2.out x wr.heap.size 1 rfl (fun j u hu => new_cells j u hu) hxi (by omega) HB2.out HB2.out.size ?_)
          intro g cap' w1 HG1 HB1 HGr
          clear HGr
          go_wp2
          go_roundw
          case rel => exact ⟨k + 1, n, _, by omega, by go_num, rfl, HG1, HN, HB1⟩
          case measure => simp [intOf]; omega
        · obtain rfl : j = k := by have := hok.1; omega
          have hjk : ¬ (j : Int) < (j : Int) := by omega
          clear hok
          go_wp2
          have HW1 := hide (fun m => rwithin_any (H1.out.kept HB.out) m)
          have HW2 := hide (fun m => rwithin_any (H2.out.kept HB.out) m)
          obtain ⟨WR, hWR⟩ : ∃ WR, wr = WR := ⟨_, rfl⟩
          subst hWR
          go_loopw [6] (fun nx wl => ∃ n : Nat, nx = .int .i64 n ∧ Hid (LooseTo xs bs row j n) ∧ wl = wr) (fun nx _ => (xs.length + bs.length) - cntL (xs ++ bs) (intOf nx).toNat)
          case atStart => exact ⟨n, rfl, HT, rfl⟩
          case round =>
            obtain ⟨m, rfl, HTm, rfl⟩ := hrel
            have hsm := HTm.out.small
            have hm0 : I64 (m : Int) := ⟨by omega, by omega⟩
            have hm1 : (m : Int) + 1 ≤ 9223372036854775807 := by omega
            obtain ⟨e1, he1⟩ : ∃ e, decide ((m : Int) ∈ xs) = e := ⟨_, rfl⟩
            obtain ⟨e2, he2⟩ : ∃ e, decide ((m : Int) ∈ bs) = e := ⟨_, rfl⟩
            have HC1 := hide (HW1.out (m : Int))
            have HC2 := hide (HW2.out (m : Int))
            rw [he1] at HC1
            rw [he2] at HC2
            have HE1 := hide he1
            have HE2 := hide he2
            clear he1 he2
            have hcl := cntL_le (xs ++ bs) m
            have hcl1 := cntL_le (xs ++ bs) (m + 1)
            rw [List.length_append] at hcl hcl1
            have HCL := hide hcl
            have HCL1 := hide hcl1
            clear hcl hcl1
            cases e1 with
            | true =>
              have hmem : (m : Int) ∈ xs ∨ (m : Int) ∈ bs := .inl (of_decide_eq_true HE1.out)
              have HN := hide (HTm.out.skip hmem)
              have HCs := hide (cntL_step (xs ++ bs) m (List.mem_append.2 hmem))
              clear hmem
              go_wp2_with (go_at_call 29; refine HC1.out.mono ?_; rintro e w2 ⟨rfl, hw⟩; have hw := hw.symm; subst hw)
              go_roundw
              case rel => exact ⟨m + 1, by go_num, HN, by first | rfl | trivial⟩
              case measure =>
                have h1 := HCs.out
                have h2 := HCL1.out
                simp only [intOf, Int.toNat_natCast, show ((m : Int) + 1).toNat = m + 1 by omega]
                omega
            | false =>
              cases e2 with
              | true =>
                have hmem : (m : Int) ∈ xs ∨ (m : Int) ∈ bs := .inr (of_decide_eq_true HE2.out)
                have HN := hide (HTm.out.skip hmem)
                have HCs := hide (cntL_step (xs ++ bs) m (List.mem_append.2 hmem))
                clear hmem
                go_wp2_with (first | (go_at_call 29; refine HC1.out.mono ?_; rintro e w2 ⟨rfl, hw⟩; have hw := hw.symm; subst hw; clear HC1) | (go_at_call 29; refine HC2.out.mono ?_; rintro e w2 ⟨rfl, hw⟩; have hw := hw.symm; subst hw))
                go_roundw
                case rel => exact ⟨m + 1, by go_num, HN, by first | rfl | trivial⟩
                case measure =>
                  have h1 := HCs.out
                  have h2 := HCL1.out
                  simp only [intOf, Int.toNat_natCast, show ((m : Int) + 1).toNat = m + 1 by omega]
                  omega
              | false =>
                have HN := hide (HTm.out.fresh HV.out.2 HX.out (of_decide_eq_false HE1.out) (of_decide_eq_false HE2.out) hm0)
                have HG2 := hide (HG.out.kept (belo1 wr (.cells #[.int .i64 (m : Int)] 3)))
                have HB2 := hide (HB.out.alloc HB.out.size (.cells #[.int .i64 (m : Int)] 3))
                go_wp2_with (first | (go_at_call 29; refine HC1.out.mono ?_; rintro e w2 ⟨rfl, hw⟩; have hw := hw.symm; subst hw; clear HC1) | (go_at_call 29; refine HC2.out.mono ?_; rintro e w2 ⟨rfl, hw⟩; have hw := hw.symm; subst hw) | (at_builtin; refine wpList_push (w0 := W0) elInt rfl _ _ 25 rfl W0.heap.size 3 i0 _ 8 Try.underlying25 hi0' hz0 hz1 hz2 rfl (by decide) _ row j HLn.out rfl HG2.out (m : Int) wr.heap.size 1 rfl (fun j u hu => new_cells j u hu) hm0 (by omega) HB2.out HB2.out.size ?_; intro g cap' w1 HG1 HB1 HGr; clear HGr))
                go_roundw
                case rel => exact ⟨j + 1, m + 1, _, by omega, by go_num, by go_num, HG1, HN, HB1⟩
                case measure => simp [intOf]; omega
    · obtain rfl : k = bs.length := by omega
      have hi : ¬ (bs.length : Int) < (bs.length : Int) := by omega
      go_wp2
      go_ret
      exact ⟨_, rfl, row, HRw.out, ⟨n, HT.out⟩, belot HB0.out HB.out⟩
end Go.Proofs.Ytpbcimpbddabeaa
