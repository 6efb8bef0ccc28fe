/- What core.firstUnbound and Unbound answer. -/
import Derived.Test.YthbfkbkcfcpibaaCoreLoose
import Derived.Test.YthbfkbkcfcpibaaAppendAny
namespace Go.Proofs.Ythbfkbkcfcpibaa
set_option linter.unusedSimpArgs false
set_option linter.unusedVariables false
open Go.RowKit Go.Maps

/-- The terms that must be bound. -/
def askL (x : Lix) : List Trm := if x.k = 1 then [] else termsL x
def askP (ls : List Lix) : List Trm := ls.flatMap askL
def zeroT : Trm := ⟨0, 0, ⟨#[]⟩, 0⟩
def unbP (hd : List Trm) (ls : List Lix) : Option Trm := findP (varsP ls) (hd ++ askP ls)

theorem askL_len (x : Lix) : (askL x).length ≤ x.a.ts.length + 2 := by
  unfold askL termsL
  split
  · simp
  · split
    · omega
    · split <;> simp
theorem askP_len (ls : List Lix) : (askP ls).length ≤ sumT ls + 2 * ls.length := by
  unfold askP sumT
  induction ls with
  | nil => simp
  | cons x r ih =>
    have := askL_len x
    simp only [List.flatMap_cons, List.length_append, List.map_cons, List.sum_cons, List.length_cons]
    omega
theorem askP_take {ls : List Lix} {k : Nat} {x : Lix} (h : ls[k]? = some x) : askP (ls.take (k + 1)) = askP (ls.take k) ++ askL x := by
  unfold askP
  rw [take_snoc h, List.flatMap_append]
  simp
theorem askP_take_le (ls : List Lix) (k : Nat) : (askP (ls.take k)).length ≤ sumT ls + 2 * ls.length := by
  have h1 := askP_len (ls.take k)
  have h2 := sumT_le ls k
  have h3 : (ls.take k).length ≤ ls.length := by rw [List.length_take]; omega
  omega
theorem trm_one (l : List Trm) (h : ∀ t ∈ l, t.ok) : ∀ u ∈ l.flatMap elTrm.cells, u.oneCell' = true := by
  intro u hu
  obtain ⟨t, ht, hm⟩ := List.mem_flatMap.1 hu
  exact elTrm.one (w := default) (F := fun _ => True) (x := t) (h t ht) u hm

set_option maxRecDepth 100000 in
set_option maxHeartbeats 2000000 in
theorem firstUnbound_any {w : World} {p : ByteArray} {hv bv : Value} {off : Int} {hd : List Trm} {ls : List Lix} (hh : Has elTrm w hv hd) (hl : Has elLix w bv ls) (hs : hd.length + (sumT ls + 2 * ls.length) < 500000000) :
    Calls Try.prog 25 #[.agg #[.string p, hv, .int .i64 off, bv]] w fun e w' => e = .returned (.tuple #[((unbP hd ls).getD zeroT).val, .bool (unbP hd ls).isSome]) ∧ Below w.heap.size w w' := by
  obtain ⟨ha, hc, rfl, -, -, -⟩ := hh.shape
  obtain ⟨ba, bc, rfl, -, -, hlen⟩ := hl.shape
  have HH := hide hh
  have HL := hide hl
  clear hh hl
  obtain ⟨i0, hi0', hz0, hz1, hz2⟩ := info_parts Try.infoTrm8
  go_enter Try.func25, Try.ntmps25
  go_wp2_with fail
  obtain ⟨Y, hY⟩ : ∃ Y, Y = ((w.alloc (.cells #[.string p, .slice ha hd.length hc, .int .i64 off, .slice ba ls.length bc] 33)).alloc (.cells #[.int .i64 0, .int .i64 0, .string ⟨#[]⟩, .int .i64 0] 66)) := ⟨_, rfl⟩
  have HSz : Hid (Y.heap.size = w.heap.size + 1 + 1) := by show _ = _; rw [hY]; simp
  have HB0 : Hid (Below w.heap.size w Y) := by rw [hY]; exact ((Below.refl _ w).alloc (Nat.le_refl _) _).alloc (by simp) _
  have HX : Hid (Y.cell? ⟨w.heap.size, 1, none⟩ = some (.slice ha hd.length hc) ∧ Y.cell? ⟨w.heap.size, 3, none⟩ = some (.slice ba ls.length bc) ∧ Y.heap[w.heap.size + 1]? = some (.cells #[.int .i64 0, .int .i64 0, .string ⟨#[]⟩, .int .i64 0] 66 (0, 0))) := by
    show _ ∧ _
    rw [hY]
    refine ⟨by simp, by simp, ?_⟩
    have h1 := heap_alloc_new (w.alloc (.cells #[.string p, .slice ha hd.length hc, .int .i64 off, .slice ba ls.length bc] 33)) (.cells #[.int .i64 0, .int .i64 0, .string ⟨#[]⟩, .int .i64 0] 66)
    rw [size_alloc1'] at h1
    exact h1
  rw [← hY]
  clear hY
  refine (bodyVars_any (HL.out.kept HB0.out) (by omega)).mono ?_
  rintro e w1 ⟨q, m, n, v, rfl, hva, hvl, hb1⟩
  have HV1 := hide hva
  have HB1 := hide hb1
  have y1 := kept_cell hb1 HX.out.1
  clear hva hvl hb1
  go_wp2_with fail
  have HBw1 := hide (HB0.out.trans (HB1.out.mono HB0.out.size))
  refine (copyOf_any (HH.out.kept HBw1.out)).mono ?_
  rintro e w2 ⟨⟨ca, cc, rfl, hg2⟩, hb2⟩
  have HB2 := hide (HB1.out.trans (hb2.mono HB1.out.size))
  have HV2 := hide (HV1.out.kept hb2)
  have HG2 := hide (hg2.mono (Nat.le_refl _))
  have HB12 := hide hb2
  have hsz1 : w1.heap.size ≤ w2.heap.size := hb2.size
  have hvlt : q < w1.heap.size := HV1.out.plt
  clear hg2 hb2 y1
  have y3 := kept_cell HB2.out HX.out.2.1
  go_wp2_with fail
  clear y3
  obtain ⟨B, hB⟩ : ∃ B, B = w1.heap.size := ⟨_, rfl⟩
  rw [← hB] at HG2 hsz1 hvlt
  have HBe := hide hB
  clear hB
  go_loopw [5, 7, 19] (fun av _ i wl => ∃ k : Nat, ∃ a c, k ≤ ls.length ∧ av = .slice a (hd ++ askP (ls.take k)).length c ∧ i = .int .i64 k ∧ Hid (Grow elTrm 66 B wl (.slice a (hd ++ askP (ls.take k)).length c) (hd ++ askP (ls.take k))) ∧ Hid (Below B w1 wl)) (fun _ _ i _ => ls.length - (intOf i).toNat)
  case atStart => exact ⟨0, ca, cc, by omega, by simp [askP], rfl, by show Grow _ _ _ _ _ _; simpa [askP] using HG2.out, by show Below _ _ _; rw [HBe.out]; exact HB12.out⟩
  case round =>
    clear HG2
    obtain ⟨k, aa, ac, hk, rfl, rfl, HG, HB⟩ := hrel
    have HBv : Hid (Below w1.heap.size w1 wr) := by rw [← HBe.out]; exact HB.out
    have HBw := hide (HBw1.out.trans (HBv.out.mono HBw1.out.size))
    have hBr : B ≤ wr.heap.size := by have := HBv.out.size; rw [← HBe.out] at this; exact this
    by_cases hlt : k < ls.length
    · have hi : (k : Int) < (ls.length : Int) := by omega
      have hi0 : (0 : Int) ≤ (k : Int) := by omega
      obtain ⟨b, bo, rfl, hbl, -, hrow⟩ := HL.out.row (by omega)
      obtain ⟨x, hx⟩ : ∃ s, ls[k]? = some s := ⟨_, List.getElem?_eq_getElem hlt⟩
      have xs := fun j u hu => kept_cell HBw.out (hrow k x hx j u hu)
      have HOk := hide (HL.out.ok (List.mem_of_getElem? hx))
      have HTk := hide (askP_take hx)
      have HLe := hide (askP_take_le ls (k + 1))
      clear hrow hx
      have HLk : Hid (askL x = if x.k = 1 then [] else termsL x) := rfl
      have HTo := hide (fun W (hW : Below w.heap.size w W) => termsOf_any (elLix.kept HOk.out hW))
      obtain ⟨lk, ⟨lp, v1, lo, lt⟩, op, ⟨t1k, t1n, t1s, t1o⟩, ⟨t2k, t2n, t2s, t2o⟩, lf⟩ := x
      obtain ⟨fa, fc, hv1, -, -, hl1⟩ := (elAtx_ok (elLix_ok HOk.out).2.1).2.2.shape
      dsimp only at hv1
      subst hv1
      dsimp only at HTo HLk
      have x0 := xs 0 _ rfl
      have x1 := xs 1 _ rfl
      have x2 := xs 2 _ rfl
      have x3 := xs 3 _ rfl
      have x4 := xs 4 _ rfl
      have x5 := xs 5 _ rfl
      have x6 := xs 6 _ rfl
      have x7 := xs 7 _ rfl
      have x8 := xs 8 _ rfl
      have x9 := xs 9 _ rfl
      have x10 := xs 10 _ rfl
      have x11 := xs 11 _ rfl
      have x12 := xs 12 _ rfl
      have x13 := xs 13 _ rfl
      simp only [elLix, Nat.add_zero] at x0 x1 x2 x3 x4 x5 x6 x7 x8 x9 x10 x11 x12 x13
      clear xs
      obtain ⟨Z, hZ⟩ : ∃ Z, Z = wr.alloc (.cells #[.int .i64 lk, .string lp, .slice fa lt.length fc, .int .i64 lo, .int .i64 op, .int .i64 t1k, .int .i64 t1n, .string t1s, .int .i64 t1o, .int .i64 t2k, .int .i64 t2n, .string t2s, .int .i64 t2o, .int .i64 lf] 68) := ⟨_, rfl⟩
      have HZ : Hid (Below wr.heap.size wr Z) := by rw [hZ]; exact belo1 _ _
      have HBZ : Hid (Below w.heap.size w Z) := HBw.out.trans (HZ.out.mono HBw.out.size)
      have HBZ1 : Hid (Below B w1 Z) := HB.out.trans (HZ.out.mono hBr)
      have HGZ := hide (HG.out.kept HZ.out)
      obtain ⟨T, hT⟩ : ∃ T, termsL ⟨lk, ⟨lp, .slice fa lt.length fc, lo, lt⟩, op, ⟨t1k, t1n, t1s, t1o⟩, ⟨t2k, t2n, t2s, t2o⟩, lf⟩ = T := ⟨_, rfl⟩
      rw [hT] at HLk
      obtain ⟨A, hA⟩ : ∃ A, hd ++ askP (ls.take k) = A := ⟨_, rfl⟩
      have HA1 : Hid (hd ++ askP (ls.take (k + 1)) = A ++ (if lk = 1 then [] else T)) := by show _ = _; rw [HTk.out, HLk.out, ← List.append_assoc, hA]
      rw [hA] at HG HGZ ⊢
      clear hA
      by_cases hk1 : lk = 1
      · subst hk1
        rw [if_pos rfl, List.append_nil] at HA1
        go_wp2_with fail
        rw [← hZ]
        clear hZ x0 x1 x2 x3 x4 x5 x6 x7 x8 x9 x10 x11 x12 x13
        go_roundw
        case rel => exact ⟨k + 1, aa, ac, by omega, by rw [HA1.out], by go_num, by show Grow _ _ _ _ _ _; rw [HA1.out]; exact HGZ.out, HBZ1⟩
        case measure => simp [intOf]; omega
      · have e1 : (lk != 1) = true := by simpa using hk1
        rw [if_neg hk1] at HA1
        clear hk1
        have z0 : Z.cell? ⟨wr.heap.size, 0, none⟩ = some (.int .i64 lk) := by rw [hZ]; simp
        have z1 : Z.cell? ⟨wr.heap.size, 1, none⟩ = some (.string lp) := by rw [hZ]; simp
        have z2 : Z.cell? ⟨wr.heap.size, 2, none⟩ = some (.slice fa lt.length fc) := by rw [hZ]; simp
        have z3 : Z.cell? ⟨wr.heap.size, 3, none⟩ = some (.int .i64 lo) := by rw [hZ]; simp
        have z4 : Z.cell? ⟨wr.heap.size, 4, none⟩ = some (.int .i64 op) := by rw [hZ]; simp
        have z5 : Z.cell? ⟨wr.heap.size, 5, none⟩ = some (.int .i64 t1k) := by rw [hZ]; simp
        have z6 : Z.cell? ⟨wr.heap.size, 6, none⟩ = some (.int .i64 t1n) := by rw [hZ]; simp
        have z7 : Z.cell? ⟨wr.heap.size, 7, none⟩ = some (.string t1s) := by rw [hZ]; simp
        have z8 : Z.cell? ⟨wr.heap.size, 8, none⟩ = some (.int .i64 t1o) := by rw [hZ]; simp
        have z9 : Z.cell? ⟨wr.heap.size, 9, none⟩ = some (.int .i64 t2k) := by rw [hZ]; simp
        have z10 : Z.cell? ⟨wr.heap.size, 10, none⟩ = some (.int .i64 t2n) := by rw [hZ]; simp
        have z11 : Z.cell? ⟨wr.heap.size, 11, none⟩ = some (.string t2s) := by rw [hZ]; simp
        have z12 : Z.cell? ⟨wr.heap.size, 12, none⟩ = some (.int .i64 t2o) := by rw [hZ]; simp
        have z13 : Z.cell? ⟨wr.heap.size, 13, none⟩ = some (.int .i64 lf) := by rw [hZ]; simp
        have HTz := hide (HTo.out Z HBZ.out)
        rw [hT] at HTz
        go_wp2_with fail
        rw [← hZ]
        clear hZ x0 x1 x2 x3 x4 x5 x6 x7 x8 x9 x10 x11 x12 x13
        refine HTz.out.mono ?_
        rintro e w3 ⟨⟨tv, rfl, ht⟩, h3⟩
        obtain ⟨sa, sc, rfl, -, hsn, hTl⟩ := ht.shape
        have HS3 := hide ht.src
        have HSn := hide hsn
        have HO3 := hide (fun t (hm : t ∈ T) => ht.ok hm)
        have HG3 := hide (HGZ.out.kept h3)
        have HB3 := hide (HBZ1.out.trans (h3.mono (Nat.le_trans hBr HZ.out.size)))
        have hs3 : wr.heap.size ≤ w3.heap.size := Nat.le_trans HZ.out.size h3.size
        have hAT : A.length + T.length < 1000000000 := by
          have h1 := congrArg List.length HA1.out
          rw [List.length_append, List.length_append] at h1
          have := HLe.out
          omega
        have hown := HG3.out.1
        clear ht h3 hsn hT z0 z1 z2 z3 z4 z5 z6 z7 z8 z9 z10 z11 z12 z13
        go_wp2_with (at_builtin; refine wpList_append_any rfl _ _ 28 rfl B 66 i0 (.agg #[.int .i64 0, .int .i64 0, .string ⟨#[]⟩, .int .i64 0]) 4 40 Try.underlying28 hi0' hz0 hz1 hz2 rfl (by decide) (.slice aa A.length ac) A.length (A.flatMap elTrm.cells) rfl hown sa T.length sc (T.flatMap elTrm.cells) rfl HSn.out (by rw [flatE_len]; rfl) HS3.out (trm_one T HO3.out) (by unfold maxLen; omega) (by omega) (by omega) ?_)
        intro v' w5 hown5 hgrow
        obtain ⟨na, nc, rfl, -, -, -⟩ := own_shape6 hown5
        have HG5 : Hid (Grow elTrm 66 B w5 (.slice na (A.length + T.length) nc) (A ++ T)) := by
          refine ⟨?_, fun t hm => ?_⟩
          · rw [List.length_append, List.flatMap_append]; exact hown5
          · rcases List.mem_append.1 hm with h1 | h1
            · exact HG3.out.2 t h1
            · exact HO3.out t h1
        have HB5 := hide (below_grown HB3.out hown hgrow (by omega))
        clear hown5 hgrow hown
        go_wp2
        go_roundw
        case rel => exact ⟨k + 1, na, nc, by omega, by rw [HA1.out, List.length_append], by go_num, by show Grow _ _ _ _ _ _; rw [HA1.out, List.length_append]; exact HG5.out, HB5⟩
        case measure => simp [intOf]; omega
    · obtain rfl : k = ls.length := by omega
      have hi : ¬ (ls.length : Int) < (ls.length : Int) := by omega
      rw [List.take_of_length_le (Nat.le_refl _)] at HG ⊢
      have hAl : (hd ++ askP ls).length < 1000000000 := by rw [List.length_append]; have := askP_len ls; omega
      have HE : Hid (unbP hd ls = findP (varsP ls) (hd ++ askP ls)) := rfl
      have HRb : Hid (wr.heap[w.heap.size + 1]? = some (.cells #[.int .i64 0, .int .i64 0, .string ⟨#[]⟩, .int .i64 0] 66 (0, 0))) := by
        show _ = _
        have h1 : w.heap.size + 1 < Y.heap.size := by rw [HSz.out]; omega
        rw [HBv.out.block _ (Nat.lt_of_lt_of_le h1 HB1.out.size), HB1.out.block _ h1]
        exact HX.out.2.2
      have HVr := hide (HV1.out.kept HBv.out)
      generalize hd ++ askP ls = A at *
      go_wp2_with fail
      refine (index_any HVr.out (HG.out.list (by omega))).mono ?_
      rintro e w4 ⟨⟨r, rfl, hr⟩, h4⟩
      have HB4 := hide (HBw.out.trans (h4.mono HBw.out.size))
      have HR4 : Hid (w4.heap[w.heap.size + 1]? = some (.cells #[.int .i64 0, .int .i64 0, .string ⟨#[]⟩, .int .i64 0] 66 (0, 0))) := by show _ = _; rw [h4.block _ (lt_of_heap' HRb.out)]; exact HRb.out
      have HL4 := hide ((HG.out.list (by omega)).kept h4)
      clear h4
      have hb0 : w4.cell? ⟨w.heap.size + 1, 0, none⟩ = some (.int .i64 0) := by simp [World.cell?, HR4.out]
      have hb1 : w4.cell? ⟨w.heap.size + 1, 1, none⟩ = some (.int .i64 0) := by simp [World.cell?, HR4.out]
      have hb2 : w4.cell? ⟨w.heap.size + 1, 2, none⟩ = some (.string ⟨#[]⟩) := by simp [World.cell?, HR4.out]
      have hb3 : w4.cell? ⟨w.heap.size + 1, 3, none⟩ = some (.int .i64 0) := by simp [World.cell?, HR4.out]
      have hf0 : w4.frozen? ⟨w.heap.size + 1, 0, none⟩ = false := by simp [World.frozen?, HR4.out]
      have hf1 : w4.frozen? ⟨w.heap.size + 1, 1, none⟩ = false := by simp [World.frozen?, HR4.out]
      have hf2 : w4.frozen? ⟨w.heap.size + 1, 2, none⟩ = false := by simp [World.frozen?, HR4.out]
      have hf3 : w4.frozen? ⟨w.heap.size + 1, 3, none⟩ = false := by simp [World.frozen?, HR4.out]
      rcases hr with ⟨rfl, hf⟩ | ⟨j, t, rfl, hj, hf⟩
      · rw [hf] at HE
        clear hf
        go_wp2_with fail
        exact bodyPost_ret (v := .tuple #[.agg #[.int .i64 0, .int .i64 0, .string ⟨#[]⟩, .int .i64 0], .bool false]) (by simp [results, Try.results25, go_sem, hb0, hb1, hb2, hb3]) rfl ⟨by rw [HE.out]; rfl, (((HB4.out.setCell (by dsimp only; omega) _).setCell (by dsimp only; omega) _).setCell (by dsimp only; omega) _).setCell (by dsimp only; omega) _⟩
      · rw [hf] at HE
        have hjl := (List.getElem?_eq_some_iff.1 hj).1
        obtain ⟨b, bo, he, -, -, hrow⟩ := HL4.out.row (by omega)
        subst he
        have y0 := hrow j t hj 0 _ rfl
        have y1 := hrow j t hj 1 _ rfl
        have y2 := hrow j t hj 2 _ rfl
        have y3 := hrow j t hj 3 _ rfl
        simp only [elTrm, Nat.add_zero] at y0 y1 y2 y3
        have hj1 : (j : Int) < (A.length : Int) := by omega
        have hj0 : ¬ (j : Int) < 0 := by omega
        have hj00 : (0 : Int) ≤ (j : Int) := by omega
        clear hf hj hrow
        obtain ⟨tk, tn, tx, tq⟩ := t
        dsimp only at y0 y1 y2 y3
        go_wp2_with fail
        exact bodyPost_ret (v := .tuple #[.agg #[.int .i64 tk, .int .i64 tn, .string tx, .int .i64 tq], .bool true]) (by simp [results, Try.results25, go_sem, hb0, hb1, hb2, hb3]) rfl ⟨by rw [HE.out]; rfl, (((HB4.out.setCell (by dsimp only; omega) _).setCell (by dsimp only; omega) _).setCell (by dsimp only; omega) _).setCell (by dsimp only; omega) _⟩
end Go.Proofs.Ythbfkbkcfcpibaa
