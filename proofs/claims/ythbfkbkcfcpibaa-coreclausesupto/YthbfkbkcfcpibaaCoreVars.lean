/- What core.bodyVars and Vars answer. -/
import Derived.Test.YthbfkbkcfcpibaaVarsMem
namespace Go.Proofs.Ythbfkbkcfcpibaa
set_option linter.unusedSimpArgs false
set_option linter.unusedVariables false
open Go.RowKit Go.Maps

def litVars (L : List ByteArray) (x : Lix) : List ByteArray := if x.k = 1 then x.a.ts.foldl meetP L else L
def varsP (ls : List Lix) : List ByteArray := ls.foldl litVars []
def sumT (ls : List Lix) : Nat := (ls.map fun x => x.a.ts.length).sum

theorem foldl_snoc {α β : Type} (f : β → α → β) (b : β) (l : List α) (x : α) : (l ++ [x]).foldl f b = f (l.foldl f b) x := by simp
theorem take_snoc {α : Type} {l : List α} {k : Nat} {x : α} (h : l[k]? = some x) : l.take (k + 1) = l.take k ++ [x] := by rw [List.take_add_one, h]; rfl
theorem sumT_take {ls : List Lix} {k : Nat} {x : Lix} (h : ls[k]? = some x) : sumT (ls.take (k + 1)) = sumT (ls.take k) + x.a.ts.length := by
  unfold sumT
  rw [take_snoc h, List.map_append, List.sum_append]
  simp
theorem sumT_le (ls : List Lix) (k : Nat) : sumT (ls.take k) ≤ sumT ls := by
  have : sumT ls = sumT (ls.take k) + sumT (ls.drop k) := by
    unfold sumT
    rw [← List.sum_append, ← List.map_append, List.take_append_drop]
  omega

set_option maxRecDepth 100000 in
set_option maxHeartbeats 2000000 in
theorem bodyVars_any {w : World} {lv : Value} {ls : List Lix} (h : Has elLix w lv ls) (hs : sumT ls < 500000000) :
    Calls Try.prog 24 #[lv] w fun e w' => ∃ p m n v, e = .returned (.pointer (some ⟨p, 0, none⟩)) ∧ VarsAt w.heap.size w' p m n v (varsP ls) ∧ (varsP ls).length ≤ sumT ls ∧ Below w.heap.size w w' := by
  obtain ⟨la, lc, rfl, -, -, hlen⟩ := h.shape
  have HL := hide h
  clear h
  go_enter Try.func24, Try.ntmps24
  go_wp2_with fail
  refine (newVars_any w).mono ?_
  rintro e w0 ⟨p, m, rfl, hv0, hb0⟩
  have HV0 := hide hv0
  have HB0 := hide hb0
  clear hv0 hb0
  go_wp2_with fail
  obtain ⟨B, hB⟩ : ∃ B, B = w.heap.size := ⟨_, rfl⟩
  rw [← hB] at HV0 HB0
  have HBe := hide hB
  clear hB
  go_loopw [5, 7, 11] (fun _ _ i wl => ∃ k n : Nat, ∃ v, k ≤ ls.length ∧ i = .int .i64 k ∧ Hid (VarsAt B wl p m n v ((ls.take k).foldl litVars [])) ∧ Hid (n ≤ sumT (ls.take k) ∧ ((ls.take k).foldl litVars []).length ≤ sumT (ls.take k)) ∧ Hid (Below B w wl)) (fun _ _ i _ => ls.length - (intOf i).toNat)
  case atStart => exact ⟨0, 0, _, by omega, rfl, HV0, by show _ ∧ _; simp [sumT], HB0⟩
  case round =>
    clear HV0 HB0
    obtain ⟨k, n, v, hk, rfl, HV, HN, HB⟩ := hrel
    by_cases hlt : k < ls.length
    · have hi : (k : Int) < (ls.length : Int) := by omega
      have hi0 : (0 : Int) ≤ (k : Int) := by omega
      obtain ⟨b, off, rfl, hbl, -, hrow⟩ := HL.out.row (by omega)
      obtain ⟨x, hx⟩ : ∃ s, ls[k]? = some s := ⟨_, List.getElem?_eq_getElem hlt⟩
      have xs := fun j u hu => below_cell HB.out (hrow k x hx j u hu) (by rw [HBe.out]; exact hbl)
      have HOk := hide (HL.out.ok (List.mem_of_getElem? hx))
      have HSt := hide (sumT_take hx)
      have HLe := hide (sumT_le ls (k + 1))
      have HTk := hide (take_snoc hx)
      clear hrow hx
      obtain ⟨lk, ⟨lp, v1, lo, lt⟩, op, ⟨t1k, t1n, t1s, t1o⟩, ⟨t2k, t2n, t2s, t2o⟩, lf⟩ := x
      obtain ⟨fa, fc, hv1, -, -, hl1⟩ := (elAtx_ok (elLix_ok HOk.out).2.1).2.2.shape
      dsimp only at hv1
      subst hv1
      have HTs := hide (elAtx_ok (elLix_ok HOk.out).2.1).2.2
      dsimp only at HTs HSt hl1
      have x0 := xs 0 _ rfl
      have x1 := xs 1 _ rfl
      have x2 := xs 2 _ rfl
      have x3 := xs 3 _ rfl
      have x4 := xs 4 _ rfl
      have x5 := xs 5 _ rfl
      have x6 := xs 6 _ rfl
      have x7 := xs 7 _ rfl
      have x8 := xs 8 _ rfl
      have x9 := xs 9 _ rfl
      have x10 := xs 10 _ rfl
      have x11 := xs 11 _ rfl
      have x12 := xs 12 _ rfl
      have x13 := xs 13 _ rfl
      simp only [elLix, Nat.add_zero] at x0 x1 x2 x3 x4 x5 x6 x7 x8 x9 x10 x11 x12 x13
      clear xs
      obtain ⟨Z, hZ⟩ : ∃ Z, Z = wr.alloc (.cells #[.int .i64 lk, .string lp, .slice fa lt.length fc, .int .i64 lo, .int .i64 op, .int .i64 t1k, .int .i64 t1n, .string t1s, .int .i64 t1o, .int .i64 t2k, .int .i64 t2n, .string t2s, .int .i64 t2o, .int .i64 lf] 68) := ⟨_, rfl⟩
      have HZ : Hid (Below wr.heap.size wr Z) := by rw [hZ]; exact belo1 _ _
      have HBZ : Hid (Below B w Z) := by
        have hBr : B ≤ wr.heap.size := Nat.le_trans HV.out.pB (Nat.le_of_lt HV.out.plt)
        exact HB.out.trans (HZ.out.mono hBr)
      have HVZ := hide (HV.out.kept HZ.out)
      have hz2 : (wr.alloc (.cells #[.int .i64 lk, .string lp, .slice fa lt.length fc, .int .i64 lo, .int .i64 op, .int .i64 t1k, .int .i64 t1n, .string t1s, .int .i64 t1o, .int .i64 t2k, .int .i64 t2n, .string t2s, .int .i64 t2o, .int .i64 lf] 68)).cell? ⟨wr.heap.size, 2, none⟩ = some (.slice fa lt.length fc) := by simp
      by_cases hk1 : lk = 1
      · subst hk1
        have HE : Hid ((ls.take (k + 1)).foldl litVars [] = lt.foldl meetP ((ls.take k).foldl litVars [])) := by
          show _ = _
          rw [HTk.out, foldl_snoc]
          simp [litVars]
        generalize (ls.take k).foldl litVars [] = L0 at *
        go_wp2_with fail
        rw [← hZ]
        clear hZ hz2 x0 x1 x2 x3 x4 x5 x6 x7 x8 x9 x10 x11 x12 x13
        generalize wr = W0 at *
        go_loopw [7, 22] (fun _ i wl => ∃ j n' : Nat, ∃ v', j ≤ lt.length ∧ i = .int .i64 j ∧ Hid (VarsAt B wl p m n' v' ((lt.take j).foldl meetP L0)) ∧ Hid (n' ≤ n + j ∧ ((lt.take j).foldl meetP L0).length ≤ L0.length + j) ∧ Hid (Below B w wl)) (fun _ i _ => lt.length - (intOf i).toNat)
        case atStart => exact ⟨0, n, v, by omega, rfl, HVZ, by show _ ∧ _; simp, HBZ⟩
        case round =>
          obtain ⟨j, n', v', hj, rfl, HVj, HNj, HBj⟩ := hrel
          by_cases hlj : j < lt.length
          · have hij : (j : Int) < (lt.length : Int) := by omega
            have hij0 : (0 : Int) ≤ (j : Int) := by omega
            obtain ⟨tb, to', rfl, htb, -, htrow⟩ := HTs.out.row (by omega)
            obtain ⟨t, ht⟩ : ∃ t, lt[j]? = some t := ⟨_, List.getElem?_eq_getElem hlj⟩
            have ts := fun i u hu => below_cell HBj.out (htrow j t ht i u hu) (by rw [HBe.out]; exact htb)
            have HTo := hide (HTs.out.ok (List.mem_of_getElem? ht))
            have HTj : Hid ((lt.take (j + 1)).foldl meetP L0 = meetP ((lt.take j).foldl meetP L0) t) := by show _ = _; rw [take_snoc ht, foldl_snoc]
            have HMl := hide (meetP_len ((lt.take j).foldl meetP L0) t)
            clear htrow ht
            obtain ⟨tk, tn, tx, tq⟩ := t
            have y0 := ts 0 _ rfl
            have y1 := ts 1 _ rfl
            have y2 := ts 2 _ rfl
            have y3 := ts 3 _ rfl
            simp only [elTrm, Nat.add_zero] at y0 y1 y2 y3
            clear ts
            have hbb := belo1 wr (.cells #[.int .i64 tk, .int .i64 tn, .string tx, .int .i64 tq] 66)
            have hBr : B ≤ wr.heap.size := Nat.le_trans HVj.out.pB (Nat.le_of_lt HVj.out.plt)
            have HM := hide (meet_any (HVj.out.kept hbb) (t := ⟨tk, tn, tx, tq⟩) HTo.out (by have := HNj.out; have := HN.out; have := HSt.out; have := HLe.out; omega) (by have := HNj.out; have := HN.out; have := HSt.out; have := HLe.out; omega))
            unfold Trm.val at HM
            have HBb := hide (HBj.out.trans (hbb.mono hBr))
            clear hbb hBr
            go_wp2_with (go_at_call 34; refine HM.out.mono ?_; rintro e w' ⟨rfl, hg⟩; have HG := hide hg; clear hg)
            go_roundw
            case rel =>
              obtain ⟨v2, g1, g2⟩ := HG.out
              exact ⟨j + 1, n' + 1, v2, by omega, by go_num, by show VarsAt _ _ _ _ _ _ _; rw [HTj.out]; exact g1, by show _ ∧ _; rw [HTj.out]; have := HNj.out; have := HMl.out; omega, HBb.out.trans g2⟩
            case measure => simp [intOf]; omega
          · obtain rfl : j = lt.length := by omega
            have hij : ¬ (lt.length : Int) < (lt.length : Int) := by omega
            rw [List.take_of_length_le (Nat.le_refl _), ← HE.out] at HVj HNj
            go_wp2
            go_roundw
            case rel => exact ⟨k + 1, n', v', by omega, by go_num, HVj, by show _ ∧ _; have := HNj.out; have := HN.out; have := HSt.out; omega, HBj⟩
            case measure => simp [intOf]; omega
      · have e1 : (lk != 1) = true := by simpa using hk1
        have HE : Hid ((ls.take (k + 1)).foldl litVars [] = (ls.take k).foldl litVars []) := by
          show _ = _
          rw [HTk.out, foldl_snoc]
          simp [litVars, hk1]
        clear hk1
        go_wp2_with fail
        rw [← hZ]
        clear hZ hz2 x0 x1 x2 x3 x4 x5 x6 x7 x8 x9 x10 x11 x12 x13
        go_roundw
        case rel => exact ⟨k + 1, n, v, by omega, by go_num, by show VarsAt _ _ _ _ _ _ _; rw [HE.out]; exact HVZ.out, by show _ ∧ _; rw [HE.out]; have := HN.out; have := HSt.out; omega, HBZ⟩
        case measure => simp [intOf]; omega
    · obtain rfl : k = ls.length := by omega
      have hi : ¬ (ls.length : Int) < (ls.length : Int) := by omega
      rw [List.take_of_length_le (Nat.le_refl _)] at HV HN
      go_wp2
      go_ret
      exact ⟨p, rfl, ⟨m, n, v, by rw [← HBe.out]; exact HV.out⟩, HN.out.2, by rw [← HBe.out]; exact HB.out⟩

set_option maxHeartbeats 1000000 in
theorem vars_any {w : World} {lv : Value} {ls : List Lix} (h : Has elLix w lv ls) (hs : sumT ls < 500000000) :
    Calls Try.prog 12 #[lv] w fun e w' => (∃ v, e = .returned v ∧ Has elStr w' v (varsP ls)) ∧ Below w.heap.size w w' := by
  have HB := hide (bodyVars_any h hs)
  clear h
  go_enter Try.func12, Try.ntmps12
  go_wp2_with (go_at_call 24; refine HB.out.mono ?_; rintro e w' ⟨p, m, n, v, rfl, hv, hl, hb⟩; have c0 := hv.c0; have HV := hide hv.row; have HL := hide hl; have HBb := hide hb; clear hv hl hb)
  go_ret
  exact ⟨⟨v, rfl, HV.out.list (by have := HL.out; omega)⟩, HBb.out⟩
end Go.Proofs.Ythbfkbkcfcpibaa
