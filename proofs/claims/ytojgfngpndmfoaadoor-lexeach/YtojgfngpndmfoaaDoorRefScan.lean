/- What the document's Scan answers: as lex.Scan. -/
import Derived.Test.YtojgfngpndmfoaaDoorProg
import Derived.Test.YtojgfngpndmfoaaDoorRefToken
import Derived.Test.YtojgfngpndmfoaaDoorLexScan
import Derived.Deep.RegionHeld3
namespace Go.Proofs.YtojgfngpndmfoaaDoor
set_option linter.unusedSimpArgs false
set_option linter.unusedVariables false
open Go.RowKit
attribute [local go_sem] over_cellAt over_frozenAt over_setAt

theorem below1_over (w x : World) (o : Obj) : Below w.heap.size w (over (w.alloc o) x) := ((Below.refl _ _).alloc (Nat.le_refl _) _).trans ((over_below _ x).mono (by simp))

theorem news63 (W : World) (t : Tok) (o o' : Obj) : ∀ j u, (cells6 t)[j]? = some u → (((W.alloc o).alloc o').alloc (.cells #[.int .i64 t.k, .string t.t, .int .i64 t.n, .int .i64 t.op, .int .i64 (t.off : Int), .int .i64 (t.en : Int)] 30)).cell? ((⟨W.heap.size + 1 + 1, 0, none⟩ : Addr).add j) = some u := by
  have h := World.news_of_block (cs := #[.int .i64 t.k, .string t.t, .int .i64 t.n, .int .i64 t.op, .int .i64 (t.off : Int), .int .i64 (t.en : Int)]) (t := 30) (fr := (0, 0)) (heap_alloc_new ((W.alloc o).alloc o') (.cells #[.int .i64 t.k, .string t.t, .int .i64 t.n, .int .i64 t.op, .int .i64 (t.off : Int), .int .i64 (t.en : Int)] 30))
  rw [show ((W.alloc o).alloc o').heap.size = W.heap.size + 1 + 1 from by simp] at h
  exact h

theorem own_lt {w : World} {base size n k : Nat} {e : TypeId} {v : Value} {xs : List Value} (h : w.ownsRow base e size v n xs) (hk : w.heap.size ≤ k) : some k ≠ v.ownBlock := by
  intro e
  rcases h.2 with ⟨rfl, _⟩ | ⟨g, cap, cur, rfl, _, hb, _⟩
  · cases e
  · have : k = g := by simpa [Value.ownBlock] using e
    have := (Array.getElem?_eq_some_iff.1 hb).1
    omega

theorem grown_over3 {U V w1 : World} {v : Value} {e : TypeId} {size n : Nat} {xs : List Value} {o o' o'' : Obj} (hV : Below U.heap.size U V) (hown : V.ownsRow U.heap.size e size v n xs) (hg : (((V.alloc o).alloc o').alloc o'').grownBy w1 v.ownBlock) : ∃ z, w1 = over U z :=
  over_of (((((hV.alloc hV.size o).alloc (Nat.le_trans hV.size (by simp)) o').alloc (Nat.le_trans hV.size (by simp; omega)) o'')).grown hg (Nat.le_trans hV.size (by simp; omega)) (fun k hk => by
    rcases hown.2 with ⟨rfl, _⟩ | ⟨g, cap, cur, rfl, hbase, _⟩
    · cases hk
    · have : g = k := by simpa [Value.ownBlock] using hk
      omega))

theorem own_snoc6 {w1 : World} {base g cap : Nat} {L : List Tok} {t : Tok} (h : w1.ownsRow base 30 6 (.slice (some ⟨g, 0, none⟩) (L.length + 1) cap) (L.length + 1) (L.flatMap cells6 ++ cells6 t)) :
    w1.ownsRow base 30 6 (.slice (some ⟨g, 0, none⟩) (L.length + 1) cap) (L ++ [t]).length ((L ++ [t]).flatMap cells6) := by
  rw [List.flatMap_append, List.flatMap_singleton, List.length_append]; exact h

theorem box_kept {V w1 : World} {t : Tok} {base size n : Nat} {e : TypeId} {v : Value} {xs : List Value} {o' o'' : Obj} (hown : V.ownsRow base e size v n xs)
    (hg : (((V.alloc (.cells #[.int .i64 t.k, .string t.t, .int .i64 t.n, .int .i64 t.op, .int .i64 (t.off : Int), .int .i64 (t.en : Int)] 30)).alloc o').alloc o'').grownBy w1 v.ownBlock) :
    w1.cell? ⟨V.heap.size, 0, none⟩ = some (.int .i64 t.k) ∧ w1.cell? ⟨V.heap.size, 5, none⟩ = some (.int .i64 (t.en : Int)) := by
  constructor
  · rw [hg.cell_far _ (by show V.heap.size < _; simp; omega) (own_lt hown (Nat.le_refl _))]; exact kept_cell (below2 _ _ _) (by simp)
  · rw [hg.cell_far _ (by show V.heap.size < _; simp; omega) (own_lt hown (Nat.le_refl _))]; exact kept_cell (below2 _ _ _) (by simp)

theorem own_swap {U U' y : World} {size n : Nat} {e : TypeId} {v : Value} {xs : List Value} (hs : U'.heap.size = U.heap.size) (h : (over U y).ownsRow U.heap.size e size v n xs) : (over U' y).ownsRow U.heap.size e size v n xs := by
  refine ⟨h.1, ?_⟩
  rcases h.2 with h0 | ⟨g, cap, cur, hv, hbase, hb, rest⟩
  · exact .inl h0
  · refine .inr ⟨g, cap, cur, hv, hbase, ?_, rest⟩
    simp only [over] at hb ⊢
    rw [Array.getElem?_append_right (by omega)] at hb ⊢
    rw [hs]; exact hb

theorem own_set {w : World} {base size n : Nat} {e : TypeId} {v u : Value} {xs : List Value} {p : Addr} (h : w.ownsRow base e size v n xs) (hp : p.block < base) : (w.setCell p u).ownsRow base e size v n xs := by
  refine ⟨h.1, ?_⟩
  rcases h.2 with h0 | ⟨g, cap, cur, hv, hbase, hb, rest⟩
  · exact .inl h0
  · exact .inr ⟨g, cap, cur, hv, hbase, by rw [Below.heap_setCell _ _ _ _ (by omega)]; exact hb, rest⟩

theorem rscan_results {Z : World} {b : Nat} {c o : Int} {v : Value} (h : box3 b Z c 0 o) (tmps : Array Value) (ht : tmps.getD 3 undef = .pointer (some ⟨b, 0, none⟩)) (ht2 : tmps.getD 2 undef = v) :
    (results Tryd.f7 tmps).run Tryd.prog Z = .ok (.tuple #[v, .agg #[.int .i64 c, .int .i64 0, .int .i64 o]]) Z := by
  obtain ⟨x0, x1, x2, _⟩ := h.cells
  have ht' : tmps[3]?.getD undef = .pointer (some ⟨b, 0, none⟩) := by rw [← ht]; simp [Array.getD_eq_getD_getElem?]
  have ht2' : tmps[2]?.getD undef = v := by rw [← ht2]; simp [Array.getD_eq_getD_getElem?]
  simp [results, Tryd.results7, go_sem, ht', ht2', x0, x1, x2]

theorem scan_long {s : ByteArray} (h : 65536 < s.size) : scanX s = ([], 1, 0) := if_pos h
theorem scan_short {s : ByteArray} (h : ¬ 65536 < s.size) : scanX s = eachF (fun _ => true) s 0 [] := if_neg h

set_option maxHeartbeats 4000000 in
set_option maxRecDepth 100000 in
theorem rscan_any (s : ByteArray) (w : World) (hs : s.size ≤ 140737488351232) :
    Calls Tryd.prog 7 #[.string s] w fun e w' => ∃ v, e = .returned (.tuple #[v, faultVal (scanX s).2.1 (scanX s).2.2]) ∧ w'.ownsRow w.heap.size 30 6 v (scanX s).1.length ((scanX s).1.flatMap cells6) ∧ Below w.heap.size w w' := by
  obtain ⟨i0, hi0, hz0, hz1, hz2⟩ := info_parts Tryd.infoTok
  by_cases hlong : 65536 < s.size
  · rw [scan_long hlong]
    have hl : decide ((65536 : Int) < (s.size : Int)) = true := decide_eq_true (by omega)
    clear hlong
    go_enter Tryd.func7, Tryd.ntmps7
    go_wp2_with (go_at_call 17; refine (rfault_any _ 0 _).mono ?_; rintro e w' ⟨rfl, hb'⟩; obtain ⟨x, rfl⟩ := over_of hb'; clear hb')
    exact bodyPost_ret (v := .tuple #[.slice none 0 0, faultVal 1 0]) (by simp [results, Tryd.results7, go_sem, faultVal]) rfl ⟨_, rfl, World.ownsRow_nil _ _ _ _, below1_over _ _ _⟩
  · rw [scan_short hlong]
    have hl : decide ((65536 : Int) < (s.size : Int)) = false := decide_eq_false (by omega)
    have hsz : s.size ≤ 65536 := by omega
    clear hlong
    go_enter Tryd.func7, Tryd.ntmps7
    go_wp2
    go_loopw [4, 5, 6, 7, 8, 9] (fun l o _ _ _ _ wr => ∃ (O : Nat) (L : List Tok) (x : World), O ≤ s.size ∧ L.length ≤ O ∧ o = .int .i64 O ∧ Hid (eachF (fun _ => true) s 0 [] = eachF (fun _ => true) s O L) ∧ wr = over (w.alloc (.cells #[.int .i64 0, .int .i64 0, .int .i64 0] 25)) x ∧
      Hid (wr.ownsRow (w.alloc (.cells #[.int .i64 0, .int .i64 0, .int .i64 0] 25)).heap.size 30 6 l L.length (L.flatMap cells6))) (fun _ o _ _ _ _ _ => s.size - (intOf o).toNat)
    case atStart => exact ⟨0, [], _, by omega, by simp, rfl, rfl, over_eq (Below.refl _ _), World.ownsRow_nil _ _ _ _⟩
    case round =>
      obtain ⟨O, L, x, hO, hLO, rfl, HE, rfl, HW⟩ := hrel
      obtain ⟨ao, cp, rfl⟩ := own_shape HW.out
      have HG := hide (fun W => refGap_any s O W hs hO)
      have hgl := gapW_le s O hO
      have HX : Hid (nextX s O = if (gapW s O).2 then tokAt s (gapW s O).1 else .bad 16 (gapW s O).1) := rfl
      generalize gapW s O = G at *
      obtain ⟨g, c⟩ := G
      simp only at hgl HG HX
      cases c with
      | false =>
        have HB : Hid (eachF (fun _ => true) s 0 [] = (L, 16, g)) := HE.out.trans (eachF_bad HX.out)
        rw [show errB false = 16 from rfl] at HG
        clear HE HX
        go_wp2_with (first
          | (go_at_call 18; refine (HG.out _).mono ?_; rintro e w' ⟨rfl, hw'⟩; have hw' := hw'.symm; subst hw')
          | (go_at_call 17; refine (rfault_any _ _ _).mono ?_; rintro e V ⟨rfl, hb⟩; have HW1 := hide (own_kept HW.out hb); obtain ⟨y, rfl⟩ := over_of ((over_below _ _).trans (hb.mono (over_size _ _))); clear hb))
        exact bodyPost_ret (v := .tuple #[.slice ao L.length cp, faultVal 16 g]) (by simp [results, Tryd.results7, go_sem, faultVal]) rfl ⟨_, by rw [HB.out], by rw [HB.out]; exact own_mono (by simp) (own_swap (by simp) HW1.out), below1_over _ _ _⟩
      | true =>
        rw [show errB true = 0 from rfl] at HG
        have HX' : Hid (nextX s O = tokAt s g) := HX.out
        have HT := hide (fun W => rtoken_any s g W hs hgl.2)
        clear HX
        cases hn : tokAt s g with
        | bad c f =>
          have HB : Hid (eachF (fun _ => true) s 0 [] = (L, c, f)) := HE.out.trans (eachF_bad (HX'.out.trans hn))
          have hc : (c != 0) = true := by
            have := next_bad (HX'.out.trans hn)
            simp only [bne_iff_ne, ne_eq]
            omega
          rw [hn] at HT
          unfold Nx.val tokZero faultVal at HT
          clear HE HX' hn
          go_wp2_with (first
            | (go_at_call 18; refine (HG.out _).mono ?_; rintro e w' ⟨rfl, hw'⟩; have hw' := hw'.symm; subst hw')
            | (go_at_call 19; refine (HT.out _).mono ?_; rintro e V ⟨rfl, hb⟩; have HW1 := hide (own_kept HW.out hb); obtain ⟨y, rfl⟩ := over_of ((over_below _ _).trans (hb.mono (over_size _ _))); clear hb))
          obtain ⟨X, hX⟩ : ∃ X, X = ((over (w.alloc (.cells #[.int .i64 0, .int .i64 0, .int .i64 0] 25)) y).alloc (.cells #[.int .i64 0, .string ⟨#[]⟩, .int .i64 0, .int .i64 0, .int .i64 0, .int .i64 0] 30)).alloc (.cells #[.int .i64 c, .int .i64 0, .int .i64 (f : Int)] 25) := ⟨_, rfl⟩
          obtain ⟨fb, hfb⟩ : ∃ fb, fb = (over (w.alloc (.cells #[.int .i64 0, .int .i64 0, .int .i64 0] 25)) y).heap.size + 1 := ⟨_, rfl⟩
          have hos := over_size (w.alloc (.cells #[.int .i64 0, .int .i64 0, .int .i64 0] 25)) y
          have hU : (w.alloc (.cells #[.int .i64 0, .int .i64 0, .int .i64 0] 25)).heap.size = w.heap.size + 1 := by simp
          have hF : box3 fb X c 0 f := by
            rw [hX, hfb]
            have := heap_alloc_new ((over (w.alloc (.cells #[.int .i64 0, .int .i64 0, .int .i64 0] 25)) y).alloc (.cells #[.int .i64 0, .string ⟨#[]⟩, .int .i64 0, .int .i64 0, .int .i64 0, .int .i64 0] 30)) (.cells #[.int .i64 c, .int .i64 0, .int .i64 (f : Int)] 25)
            rw [show ((over (w.alloc (.cells #[.int .i64 0, .int .i64 0, .int .i64 0] 25)) y).alloc (.cells #[.int .i64 0, .string ⟨#[]⟩, .int .i64 0, .int .i64 0, .int .i64 0, .int .i64 0] 30)).heap.size = (over (w.alloc (.cells #[.int .i64 0, .int .i64 0, .int .i64 0] 25)) y).heap.size + 1 from by simp] at this
            exact this
          have hR : box3 w.heap.size X 0 0 0 := by
            rw [hX]
            have h1 : box3 w.heap.size (w.alloc (.cells #[.int .i64 0, .int .i64 0, .int .i64 0] 25)) 0 0 0 := heap_alloc_new w _
            exact (h1.kept (over_below _ y)).kept (below2 _ _ _)
          have hO2 : X.ownsRow (w.heap.size + 1) 30 6 (.slice ao L.length cp) L.length (L.flatMap cells6) := by
            rw [hX, ← hU]; exact own_kept HW1.out (below2 _ _ _)
          have hB2 : Below w.heap.size w X := by
            rw [hX]; exact (below1_over w y _).trans ((below2 _ _ _).mono (by omega))
          have n1 : ¬ w.heap.size = fb := by omega
          rw [← hX]
          try rw [← hfb]
          obtain ⟨f0, f1, f2, -⟩ := hF.cells
          obtain ⟨x0, x1, x2, z0, z1, z2, x3⟩ := hR.cells
          have HR := hide hR
          have HO2 := hide hO2
          have HB2 := hide hB2
          clear hX hfb hos hU hF hR hO2 hB2 HW HW1
          go_region
          go_wp2
          have hW1 := ((HB2.out.setCell (p := ⟨w.heap.size, 0, none⟩) (Nat.le_refl _) (.int .i64 c)).setCell (p := ⟨w.heap.size, 1, none⟩) (Nat.le_refl _) (.int .i64 0)).setCell (p := ⟨w.heap.size, 2, none⟩) (Nat.le_refl _) (.int .i64 (f : Int))
          have hO3 := own_set (p := ⟨w.heap.size, 2, none⟩) (u := .int .i64 (f : Int)) (own_set (p := ⟨w.heap.size, 1, none⟩) (u := .int .i64 0) (own_set (p := ⟨w.heap.size, 0, none⟩) (u := .int .i64 c) HO2.out (Nat.lt_succ_self _)) (Nat.lt_succ_self _)) (Nat.lt_succ_self _)
          refine bodyPost_ret (rscan_results (v := .slice ao L.length cp) (box3.drew (HR.out.put c 0 f)) _ rfl rfl) rfl ⟨_, by rw [HB.out]; rfl, ?_, ?_⟩
          · rw [HB.out]; exact own_mono (Nat.le_succ _) (own_drew hO3)
          · exact hW1.drew
        | tok t =>
          rw [hn] at HT
          unfold Nx.val Tok.val faultVal at HT
          have hnt := next_tok hO (HX'.out.trans hn)
          have HN := hide (HX'.out.trans hn)
          have hVb0 := over_below (w.alloc (.cells #[.int .i64 0, .int .i64 0, .int .i64 0] 25)) x
          obtain ⟨V0, hV0⟩ : ∃ V0, V0 = over (w.alloc (.cells #[.int .i64 0, .int .i64 0, .int .i64 0] 25)) x := ⟨_, rfl⟩
          rw [← hV0] at HW hVb0 ⊢
          have HVb0 := hide hVb0
          have HW0 := HW
          clear hV0 HW hVb0 HX' hn
          have hk : (t.k = 0 ∧ (t.k == 0) = true) ∨ ((t.k == 0) = false ∧ O < t.en ∧ t.en ≤ s.size ∧ ¬ t.k = 0) := by
            rcases hnt.2.2.2 with ⟨h, _⟩ | ⟨h, h1, h2⟩
            · exact .inl ⟨h, by simp [h]⟩
            · exact .inr ⟨by simp; omega, by omega, h2, by omega⟩
          clear hnt
          rcases hk with ⟨hk0, hk1⟩ | ⟨hk1, hen1, hen2, hk0⟩
          · have HB : Hid (eachF (fun _ => true) s 0 [] = (L ++ [t], 0, 0)) := HE.out.trans (eachF_stop HN.out (.inr hk0))
            clear hk0 HE HN
            go_wp2_with (first
            | (go_at_call 18; refine (HG.out _).mono ?_; rintro e w' ⟨rfl, hw'⟩; have hw' := hw'.symm; subst hw')
            | (go_at_call 19; refine (HT.out _).mono ?_; rintro e V ⟨rfl, hb⟩; have HW := hide (own_kept HW0.out hb); have HVb := hide (HVb0.out.trans (hb.mono HVb0.out.size)); have hVs : (w.alloc (.cells #[.int .i64 0, .int .i64 0, .int .i64 0] 25)).heap.size ≤ V.heap.size := HVb.out.size; clear hb HW0 HVb0)
            | (at_builtin; refine wpList_append_lies _ rfl _ _ 22 rfl (w.alloc (.cells #[.int .i64 0, .int .i64 0, .int .i64 0] 25)).heap.size 30 i0 (.agg #[.int .i64 0, .string ⟨#[]⟩, .int .i64 0, .int .i64 0, .int .i64 0, .int .i64 0]) 6 56 Tryd.underlying22 hi0 hz0 hz1 hz2 rfl (by decide) _ L.length (L.flatMap cells6) rfl (World.ownsRow.alloc (World.ownsRow.alloc (World.ownsRow.alloc HW.out _) _) _) ⟨V.heap.size + 1 + 1, 0, none⟩ 1 1 (cells6 t) rfl rfl (news63 V t _ _) (one6 t) (by decide) (by unfold maxLen; omega) (by omega) (by first | (simp; omega) | exact Nat.le_trans hVs (by simp; omega) | (simp at hVs ⊢; omega)) (V.heap.size + 3) (by simp) ?_; intro gg cap' w1 hown1 hgrow hat hlt1
               obtain ⟨c0, c5⟩ := box_kept HW.out hgrow
               obtain ⟨z, rfl⟩ := grown_over3 HVb.out HW.out hgrow
               have HO1 := hide (own_snoc6 hown1)
               clear hown1 hgrow hat hlt1 HW HVb))
            exact bodyPost_ret (v := .tuple #[.slice (some ⟨gg, 0, none⟩) (L.length + 1) cap', faultVal 0 0]) (by simp [results, Tryd.results7, go_sem, faultVal]) rfl ⟨_, by rw [HB.out], by rw [HB.out]; exact own_mono (by simp) HO1.out, below1_over _ _ _⟩
          · have HB : Hid (eachF (fun _ => true) s 0 [] = eachF (fun _ => true) s t.en (L ++ [t])) := HE.out.trans (eachF_go HN.out (by simp [hk0]) hen1 hen2)
            clear hk0 HE HN
            go_wp2_with (first
            | (go_at_call 18; refine (HG.out _).mono ?_; rintro e w' ⟨rfl, hw'⟩; have hw' := hw'.symm; subst hw')
            | (go_at_call 19; refine (HT.out _).mono ?_; rintro e V ⟨rfl, hb⟩; have HW := hide (own_kept HW0.out hb); have HVb := hide (HVb0.out.trans (hb.mono HVb0.out.size)); have hVs : (w.alloc (.cells #[.int .i64 0, .int .i64 0, .int .i64 0] 25)).heap.size ≤ V.heap.size := HVb.out.size; clear hb HW0 HVb0)
            | (at_builtin; refine wpList_append_lies _ rfl _ _ 22 rfl (w.alloc (.cells #[.int .i64 0, .int .i64 0, .int .i64 0] 25)).heap.size 30 i0 (.agg #[.int .i64 0, .string ⟨#[]⟩, .int .i64 0, .int .i64 0, .int .i64 0, .int .i64 0]) 6 56 Tryd.underlying22 hi0 hz0 hz1 hz2 rfl (by decide) _ L.length (L.flatMap cells6) rfl (World.ownsRow.alloc (World.ownsRow.alloc (World.ownsRow.alloc HW.out _) _) _) ⟨V.heap.size + 1 + 1, 0, none⟩ 1 1 (cells6 t) rfl rfl (news63 V t _ _) (one6 t) (by decide) (by unfold maxLen; omega) (by omega) (by first | (simp; omega) | exact Nat.le_trans hVs (by simp; omega) | (simp at hVs ⊢; omega)) (V.heap.size + 3) (by simp) ?_; intro gg cap' w1 hown1 hgrow hat hlt1
               obtain ⟨c0, c5⟩ := box_kept HW.out hgrow
               obtain ⟨z, rfl⟩ := grown_over3 HVb.out HW.out hgrow
               have HO1 := hide (own_snoc6 hown1)
               clear hown1 hgrow hat hlt1 HW HVb))
            go_roundw
            case rel => exact ⟨t.en, L ++ [t], z, hen2, by simp; omega, rfl, HB, rfl, HO1⟩
            case measure => simp [intOf]; omega

end Go.Proofs.YtojgfngpndmfoaaDoor
