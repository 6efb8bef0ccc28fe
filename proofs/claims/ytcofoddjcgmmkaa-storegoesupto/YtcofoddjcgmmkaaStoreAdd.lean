/- What Add answers. -/
import Derived.Test.YtcofoddjcgmmkaaProg
import Derived.Test.YtcofoddjcgmmkaaStoreRows
namespace Go.Proofs.Ytcofoddjcgmmkaa
set_option linter.unusedSimpArgs false
set_option linter.unusedVariables false
open Go.RowKit Go.Maps
variable {mk : Mk}

/-- A load of many cells in a region of reads, walked once. -/
theorem wpQuiet_load_mid {P : Program} {ops : Array Oper} {C : World → Prop} {Q : Act → Prop} {rest : List Oper} {op : Oper} {a : Act} (hg : op.guard = none) (ty : TypeId) (x : Operand) (ho : op.op = .load ty x)
    (b o : Nat) (hx : a.eval x = .pointer (some ⟨b, o, none⟩)) (cs : List Value) (d : TypeDesc) (hS : ∀ w, C w → w.rangeAt b o cs)
    (hu : P.underlying ty = some d) (hd : d.isRow = true) (hi : (P.info? ty).map (·.size) = some cs.length)
    (h : wpQuiet P ops C Q rest (a.put op.dst (.agg cs.toArray))) : wpQuiet P ops C Q (op :: rest) a := by
  have hw : Region.wanted op (yielded ops a.tmps) = true := by simp [Region.wanted, hg]
  unfold wpQuiet
  rw [if_pos hw]
  refine ⟨.agg cs.toArray, fun w hC => ?_, h⟩
  unfold Oper.quietAt execOp
  simp only [ho, hx, Instr.loadAt, Instr.sureAddr, Sem.run_bind, Sem.run_pure, Result.andThen_ok, run_loadVar_mid w b o ty cs d (hS w hC) hu hd hi]
  exact ⟨rfl, rfl⟩

abbrev zeros9 : List Value := [.int .i64 0, .int .i64 0, .int .i64 0, .int .i64 0, .int .i64 0, .int .i64 0, .int .i64 0, .int .i64 0, .int .i64 0]

theorem there9 (w : World) {n : Nat} (hn : n = 9) : (w.alloc (.cells zeros9.toArray 56)).there w.heap.size 0 n := fun j hj => by
  subst hn
  rw [Nat.zero_add]
  have hb := heap_alloc_new w (.cells zeros9.toArray 56)
  refine ⟨?_, by simp only [World.frozen?, hb]; simp⟩
  simp only [World.cell?, hb]
  rw [Array.getElem?_eq_getElem (by simpa using hj)]
  rfl

theorem may_st {w : World} {p : Nat} {own : Own} {ar : List Int} {C : List (List Int)} {M : Nat} (h : St mk w p own ar C M) {q : Int} (hq : I64 q) {ao : Option Addr} {len cap : Nat} {l : List Int} (hi : IsInts w ao len l) :
    Calls Try.prog 26 #[.pointer (some ⟨p, 0, none⟩), .agg #[.int .i64 q, .slice ao len cap]] w fun e w' => e = .returned (.bool (mayP ar q l)) ∧ Below w.heap.size w w' := by
  obtain ⟨L, S, hR, hS, hlim⟩ := h
  have := mayBe_any (cap := cap) hR hq hi (by have := hS.arL; rw [hS.eAr]; omega) (by rw [hS.eAr]; exact hS.arI)
  rw [hS.eAr] at this
  exact this

set_option maxRecDepth 100000 in
set_option maxHeartbeats 4000000 in
theorem add_ok {w : World} {p : Nat} {own : Own} {ar : List Int} {C : List (List Int)} {M : Nat} (h : St mk w p own ar C M) {ao : Option Addr} {len cap : Nat} {R : List Rw} (hr : FreeRows w own ao len R) (hm : mayR ar R = true) (hM : M + 8 * len < 549755813888) :
    Calls Try.prog 9 #[.pointer (some ⟨p, 0, none⟩), .slice ao len cap] w fun e w' => e = .returned (.tuple #[.int .i64 ((addC C R).length - C.length : Nat), .int .i64 0]) ∧ ∃ own', St mk w' p own' ar (addC C R) (M + 8 * len) ∧ Turn (fun _ => True) own own' w w' := by
  have HS := hide h
  have HR := hide hr
  have HM := hide hm
  have hlen := hr.2.1
  clear h hr hm
  go_enter Try.func9, Try.ntmps9
  go_wp2
  go_loopw [7, 18] (fun _ i wl => ∃ k : Nat, k ≤ len ∧ i = .int .i64 k ∧ Hid (Below w.heap.size w wl)) (fun _ i _ => len - (intOf i).toNat)
  case atStart => exact ⟨0, by omega, rfl, Below.refl _ _⟩
  case round =>
    obtain ⟨k, hk, rfl, HB⟩ := hrel
    by_cases hlt : k < len
    · have hi : (k : Int) < (len : Int) := by omega
      have hi0 : (0 : Int) ≤ (k : Int) := by omega
      obtain ⟨b1, o1, rfl, hn1, hr1⟩ := HR.out.2.2.2 (by omega)
      obtain ⟨r, hr⟩ : ∃ r, R[k]? = some r := ⟨_, List.getElem?_eq_getElem (by rw [HR.out.1]; omega)⟩
      obtain ⟨x0, aa, ac, x1, hfi⟩ := hr1 k r hr
      have x0 := kept_cell HB.out x0
      have x1 := kept_cell HB.out x1
      have HBx : Hid (Below w.heap.size w (wr.alloc (.cells #[.int .i64 r.1, .slice aa r.2.length ac] 31))) := HB.out.alloc HB.out.size _
      have HMy := hide (may_st (cap := ac) (HS.out.below HBx.out) (HR.out.2.2.1 r (List.mem_of_getElem? hr)) (hfi.1.kept HBx.out))
      have hmy : mayP ar r.1 r.2 = true := List.all_eq_true.1 HM.out r (List.mem_of_getElem? hr)
      rw [hmy] at HMy
      clear hr1 hr hmy hfi hn1
      go_wp2_with (go_at_call 26; refine HMy.out.mono ?_; rintro e w2 ⟨rfl, hb2⟩; have HB2 := hide (HBx.out.trans (hb2.mono HBx.out.size)); clear hb2)
      go_roundw
      case rel => exact ⟨k + 1, by omega, by go_num, HB2.out⟩
      case measure => simp [intOf]; omega
    · obtain rfl : k = len := by omega
      have hi : ¬ (k : Int) < (k : Int) := by omega
      have HS2 := hide (HS.out.below HB.out)
      have HR2 := hide (HR.out.below HB.out)
      have HLn := hide (len_st HS2.out)
      go_wp2_with (go_at_call 22; refine HLn.out.mono ?_; rintro e w2 ⟨rfl, hw⟩; have hw := hw.symm; subst hw)
      have hCl : C.length < 549755813888 := by obtain ⟨L, S, _, hS, _⟩ := HS.out; have := hS.num; omega
      clear HLn
      go_loopw [10, 11, 12, 13, 31] (fun _ _ _ _ i wl => ∃ j : Nat, j ≤ k ∧ i = .int .i64 j ∧ Hid (∃ own', St mk wl p own' ar (addC C (R.take j)) (M + 8 * j) ∧ Turn (fun _ => True) own own' w wl)) (fun _ _ _ _ i _ => k - (intOf i).toNat)
      case atStart => exact ⟨0, by omega, rfl, ⟨own, by simpa [addC] using HS2.out, Turn.below HB.out⟩⟩
      case round =>
        obtain ⟨j, hj, rfl, HT⟩ := hrel
        obtain ⟨own2, hst, htu⟩ := HT.out
        by_cases hlt2 : j < k
        · have hj1 : (j : Int) < (k : Int) := by omega
          have hj0 : (0 : Int) ≤ (j : Int) := by omega
          have hfr := HR.out.turn htu
          obtain ⟨b1, o1, rfl, hn1, hr1⟩ := hfr.2.2.2 (by omega)
          obtain ⟨r, hr⟩ : ∃ r, R[j]? = some r := ⟨_, List.getElem?_eq_getElem (by rw [hfr.1]; omega)⟩
          obtain ⟨x0, aa, ac, x1, hfi⟩ := hr1 j r hr
          have hmy : mayP ar r.1 r.2 = true := List.all_eq_true.1 HM.out r (List.mem_of_getElem? hr)
          have hok : RowOk ar (cellsP r.1 r.2) := ⟨r.1, r.2, rfl, hmy, hfr.2.2.1 r (List.mem_of_getElem? hr), hfi.1.2.2.1⟩
          obtain ⟨L, S, hRw, hSn, hlim⟩ := hst
          have hl8 : r.2.length ≤ 8 := by
            obtain ⟨kk, _, ha, _⟩ := mayP_spec hmy
            have := hSn.arI _ (List.mem_of_getElem? ha)
            omega
          obtain ⟨h9, hI9, -⟩ := hok.len hSn.arI
          have HLk := hide (St.look hRw hSn hok)
          have HBx : Hid (Below wr.heap.size wr (wr.alloc (.cells #[.int .i64 r.1, .slice aa r.2.length ac] 31))) := (Below.refl _ _).alloc (Nat.le_refl _) _
          have HCo := hide (cellsOf_any (q := r.1) (cap := ac) (hfi.1.kept HBx.out) hl8)
          have HTk : Hid (addC C (R.take (j + 1)) = addOne (addC C (R.take j)) (cellsP r.1 r.2)) := by
            show _ = _
            rw [List.take_add_one, hr]
            exact addC_snoc _ _ _
          have c5 := hRw.c5
          have HM1 := hide hRw.nums.lt
          have HSt := hide (show St mk wr p own2 ar (addC C (R.take j)) (M + 8 * j) from ⟨L, S, hRw, hSn, hlim⟩)
          have HTu := hide htu
          have HOk := hide hok
          have hinf : (Try.prog.info? 56).map (·.size) = some (ints (cellsP r.1 r.2)).length := by rw [List.length_map, h9]; kernel_rfl
          have hinf2 : (Try.prog.info? 56).map (·.size) = some (ints (cellsP r.1 r.2)).toArray.size := by rw [List.size_toArray, List.length_map, h9]; kernel_rfl
          have HAll := hide (all_oneCell_toArray (cs := ints (cellsP r.1 r.2)) (fun v hv => by obtain ⟨x, _, rfl⟩ := List.mem_map.1 hv; rfl))
          have HTh : Hid (∀ u : World, (u.alloc (.cells zeros9.toArray 56)).there u.heap.size 0 (ints (cellsP r.1 r.2)).toArray.size) := fun u => there9 u (by rw [List.size_toArray, List.length_map, h9])
          have HLen : Hid ((ints (cellsP r.1 r.2)).length = 9) := by show _ = _; rw [List.length_map, h9]
          have hu := Try.underlying56
          clear hr1 hr hmy hok hRw hSn hlim htu HT hfi hn1 hfr hl8 h9 hI9
          generalize cellsP r.1 r.2 = c at *
          by_cases hmem : c ∈ addC C (R.take j)
          · have HNew := hide (addOne_in hmem)
            go_upto_region 14 with
              (first
                | (go_at_call 27; refine HCo.out.mono ?_; rintro e w3 ⟨rfl, h3⟩; have HB3 := hide (HBx.out.trans (h3.mono HBx.out.size)); clear h3)
                | ((with_reducible refine wpList_store_mid ?_ 56 (.tmp 11) (.tmp 36) ?_ w3.heap.size 0 (ints c).toArray ?_ ?_ (HTh.out w3) hinf2 HAll.out ?_); rfl; rfl; rfl; rfl))
            simp only [Act.put]
            obtain ⟨WB, hWB⟩ : ∃ WB, WB = (w3.alloc (.cells zeros9.toArray 56)).setCells w3.heap.size 0 (ints c) := ⟨_, rfl⟩
            have hOA := setCells_only w3.heap.size (ints c) 0 (w3.alloc (.cells zeros9.toArray 56))
            have hBW : Below wr.heap.size wr WB := by
              rw [hWB]
              have h1 : Below wr.heap.size wr (w3.alloc (.cells zeros9.toArray 56)) := HB3.out.alloc HB3.out.size _
              exact h1.trans (hOA.below h1.size (fun k hk e => by have := HB3.out.size; omega))
            have hrB : WB.rangeAt w3.heap.size 0 (ints c) := by
              rw [hWB]; exact World.rangeAt_setCells_same _ _ _ _ (by have := HTh.out w3; rw [List.size_toArray] at this; exact this)
            have y5 := over_cell (kept_cell hBW c5)
            have hlk : ∀ x, (Instr.lookup 61 (.map (some L.m1)) (.agg (ints c).toArray) true).run Try.prog (over WB x) = .ok (.tuple #[.int .i64 (((addC C (R.take j)).idxOf c : Nat)), .bool true]) (over WB x) := fun x => by
              have := HLk.out (over WB x) (by rw [(over_below WB x).block _ (Nat.lt_of_lt_of_le HM1.out hBW.size), hBW.block _ HM1.out])
              simpa [hmem] using this
            have HRB : Hid (∀ x, (over WB x).rangeAt w3.heap.size 0 (ints c)) := fun x j v hv => over_cell (hrB j v hv) x
            have HBW := hide hBW
            rw [← hWB]
            clear hWB hOA hBW hrB c5 x0 x1 hmem
            refine wp_region_over (fun W => W = WB) (by kernel_rfl) (by kernel_rfl) rfl ?_
            rintro W rfl
            repeat (go_big_quiet_step (first | fail))
            (with_reducible refine wpQuiet_load_mid ?_ 56 (.tmp 11) ?_ w3.heap.size 0 ?_ (ints c) _ ?_ hu ?_ hinf ?_)
            · rfl
            · rfl
            · rfl
            · rintro _ ⟨x, rfl⟩; exact HRB.out x
            · rfl
            simp only [Act.put, List.setIfInBounds_toArray, List.set_cons_zero, List.set_cons_succ]
            repeat (go_big_quiet_step (first | fail))
            refine wpQuiet_nil ?_
            rintro _ ⟨z, rfl⟩
            have HBz := hide (HBW.out.trans ((over_below W z).mono HBW.out.size))
            have HRz := hide (HRB.out z)
            clear y5 hlk HRB
            generalize over W z = wz at *
            go_wp2
            go_roundw
            case rel => exact ⟨j + 1, by omega, by go_num, ⟨own2, by
              rw [HTk.out, HNew.out]
              exact (HSt.out.below HBz.out).mono (by omega), HTu.out.trans (Turn.below HBz.out)⟩⟩
            case measure => simp [intOf]; omega
          · have HNew := hide (addOne_new hmem)
            have HNm := hide hmem
            go_upto_region 14 with
              (first
                | (go_at_call 27; refine HCo.out.mono ?_; rintro e w3 ⟨rfl, h3⟩; have HB3 := hide (HBx.out.trans (h3.mono HBx.out.size)); clear h3)
                | ((with_reducible refine wpList_store_mid ?_ 56 (.tmp 11) (.tmp 36) ?_ w3.heap.size 0 (ints c).toArray ?_ ?_ (HTh.out w3) hinf2 HAll.out ?_); rfl; rfl; rfl; rfl))
            simp only [Act.put]
            obtain ⟨WB, hWB⟩ : ∃ WB, WB = (w3.alloc (.cells zeros9.toArray 56)).setCells w3.heap.size 0 (ints c) := ⟨_, rfl⟩
            have hOA := setCells_only w3.heap.size (ints c) 0 (w3.alloc (.cells zeros9.toArray 56))
            have hBW : Below wr.heap.size wr WB := by
              rw [hWB]
              have h1 : Below wr.heap.size wr (w3.alloc (.cells zeros9.toArray 56)) := HB3.out.alloc HB3.out.size _
              exact h1.trans (hOA.below h1.size (fun k hk e => by have := HB3.out.size; omega))
            have hrB : WB.rangeAt w3.heap.size 0 (ints c) := by
              rw [hWB]; exact World.rangeAt_setCells_same _ _ _ _ (by have := HTh.out w3; rw [List.size_toArray] at this; exact this)
            have y5 := over_cell (kept_cell hBW c5)
            have hlk : ∀ x, (Instr.lookup 61 (.map (some L.m1)) (.agg (ints c).toArray) true).run Try.prog (over WB x) = .ok (.tuple #[.int .i64 (0), .bool false]) (over WB x) := fun x => by
              have := HLk.out (over WB x) (by rw [(over_below WB x).block _ (Nat.lt_of_lt_of_le HM1.out hBW.size), hBW.block _ HM1.out])
              simpa [hmem] using this
            have HRB : Hid (∀ x, (over WB x).rangeAt w3.heap.size 0 (ints c)) := fun x j v hv => over_cell (hrB j v hv) x
            have HBW := hide hBW
            rw [← hWB]
            clear hWB hOA hBW hrB c5 x0 x1 hmem
            refine wp_region_over (fun W => W = WB) (by kernel_rfl) (by kernel_rfl) rfl ?_
            rintro W rfl
            repeat (go_big_quiet_step (first | fail))
            (with_reducible refine wpQuiet_load_mid ?_ 56 (.tmp 11) ?_ w3.heap.size 0 ?_ (ints c) _ ?_ hu ?_ hinf ?_)
            · rfl
            · rfl
            · rfl
            · rintro _ ⟨x, rfl⟩; exact HRB.out x
            · rfl
            simp only [Act.put, List.setIfInBounds_toArray, List.set_cons_zero, List.set_cons_succ]
            repeat (go_big_quiet_step (first | fail))
            refine wpQuiet_nil ?_
            rintro _ ⟨z, rfl⟩
            have HBz := hide (HBW.out.trans ((over_below W z).mono HBW.out.size))
            have HRz := hide (HRB.out z)
            clear y5 hlk HRB
            generalize over W z = wz at *
            have HBr := hide (bring_st (HSt.out.below HBz.out) (by omega) HOk.out HNm.out)
            go_wp2_with
              (first
                | ((with_reducible refine wpList_load_mid ?_ 56 (.tmp 11) ?_ w3.heap.size 0 ?_ (ints c) _ HRz.out hu ?_ hinf ?_); rfl; rfl; rfl; rfl)
                | (go_at_call 28; refine HBr.out.mono ?_; rintro e w5 ⟨rfl, own5, hs5, ht5⟩; have H5 := hide (And.intro hs5 ht5); clear hs5 ht5))
            go_roundw
            case rel => exact ⟨j + 1, by omega, by go_num, ⟨own5, by
              rw [HTk.out, HNew.out]
              exact H5.out.1.mono (by omega), (HTu.out.trans (Turn.below HBz.out)).trans H5.out.2⟩⟩
            case measure => simp [intOf]; omega
        · obtain rfl : j = k := by omega
          have hj1 : ¬ (j : Int) < (j : Int) := by omega
          have hfull : R.take j = R := List.take_of_length_le (by rw [HR.out.1]; exact Nat.le_refl _)
          rw [hfull] at hst
          have HLn := hide (len_st hst)
          have HE := hide (And.intro hst htu)
          have hle := addC_len C R
          rw [HR.out.1] at hle
          have HLe := hide hle
          have hle1 := hle.1
          have hle2 := hle.2
          clear hst htu hfull HT
          obtain ⟨n2, hn2⟩ : ∃ n2, (addC C R).length = n2 := ⟨_, rfl⟩
          have HN2 := hide hn2
          rw [hn2] at hle1 hle2 HLn
          clear hn2 hle
          go_wp2_with (go_at_call 22; refine HLn.out.mono ?_; rintro e w2 ⟨rfl, hw⟩; have hw := hw.symm; subst hw)
          go_ret2
          exact ⟨by rw [HN2.out]; simp [Int.ofNat_sub hle1] , own2, HE.out.1, HE.out.2⟩
end Go.Proofs.Ytcofoddjcgmmkaa
