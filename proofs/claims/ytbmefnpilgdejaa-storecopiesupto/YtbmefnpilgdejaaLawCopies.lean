/- edictlaw05.StoreCopies returns true at all Parts of bulk at most 1048576. -/
import Derived.Test.YtbmefnpilgdejaaStoreTwo
namespace Go.Proofs.Ytbmefnpilgdejaa
set_option linter.unusedSimpArgs false
set_option linter.unusedVariables false
open Go.RowKit Go.Maps

set_option maxRecDepth 100000 in
set_option maxHeartbeats 8000000 in
theorem storeCopies_walk (aa : Option Addr) (al ac : Nat) (ar : List Int) (fa : Option Addr) (fc : Nat) (F : List Rw) (sa : Option Addr) (sc : Nat) (G : List Rw) (ta : Option Addr) (tc : Nat) (H : List Rw) (pr st : Int) (sy : Bool) (w : World) (ha : IsInts w aa al ar)
    (hf : FreeRows w (fun _ => none) fa F.length F) (hfl : F.length ≤ 1048576) (hs : FreeRows w (fun _ => none) sa G.length G) (hsl : G.length ≤ 1048576) (ht : FreeRows w (fun _ => none) ta H.length H) (htl : H.length ≤ 1048576) :
    Calls Try.prog 6 #[.agg #[.slice aa al ac, .slice fa F.length fc, .slice sa G.length sc, .slice ta H.length tc, .int .i64 pr, .int .i64 st, .bool sy]] w fun e w' => e = .returned (.bool true) ∧ Below w.heap.size w w' := by
  have hl := ha.1
  obtain ⟨fl, hfn⟩ : ∃ n, F.length = n := ⟨_, rfl⟩
  obtain ⟨sl, hsn⟩ : ∃ n, G.length = n := ⟨_, rfl⟩
  obtain ⟨tl, htn⟩ : ∃ n, H.length = n := ⟨_, rfl⟩
  rw [hfn] at hf hfl ⊢
  rw [hsn] at hs hsl ⊢
  rw [htn] at ht htl ⊢
  obtain ⟨Y, hY⟩ : ∃ Y, Y = w.alloc (.cells #[.slice aa al ac, .slice fa fl fc, .slice sa sl sc, .slice ta tl tc, .int .i64 pr, .int .i64 st, .bool sy] 41) := ⟨_, rfl⟩
  have hBY : Below w.heap.size w Y := by rw [hY]; exact (Below.refl _ _).alloc (Nat.le_refl _) _
  have z0 : Y.cell? ⟨w.heap.size, 0, none⟩ = some (.slice aa al ac) := by rw [hY]; simp
  have z1 : Y.cell? ⟨w.heap.size, 1, none⟩ = some (.slice fa fl fc) := by rw [hY]; simp
  have z2 : Y.cell? ⟨w.heap.size, 2, none⟩ = some (.slice sa sl sc) := by rw [hY]; simp
  have z3 : Y.cell? ⟨w.heap.size, 3, none⟩ = some (.slice ta tl tc) := by rw [hY]; simp
  have HA := hide (ha.kept hBY)
  have HFs := hide (And.intro (hf.below hBY) (And.intro (hs.below hBY) (ht.below hBY)))
  have HLn := hide (And.intro hfn (And.intro hsn htn))
  have HFt := hide (fits_any (cap := ac) (ha.kept hBY))
  have HBY := hide hBY
  have HZ := hide (And.intro z0 (And.intro z1 (And.intro z2 z3)))
  clear ha hf hs ht hfn hsn htn hBY z1 z2 z3
  cases hfit : fitsP ar with
  | false =>
    rw [hfit] at HFt
    go_enter Try.func6, Try.ntmps6
    go_upto_region 1 with fail
    rw [← hY]
    clear hY
    obtain ⟨bx, hbx⟩ : ∃ bx, w.heap.size = bx := ⟨_, rfl⟩
    rw [hbx] at z0 ⊢
    have HBx := hide hbx
    clear hbx
    go_wp2_with (go_at_call 7; refine HFt.out.mono ?_; rintro e w1 ⟨rfl, h1⟩; have HB1 := hide (HBY.out.trans (h1.mono HBY.out.size)); clear h1)
    go_ret
    exact ⟨rfl, HB1.out⟩
  | true =>
    rw [hfit] at HFt
    have HF := hide hfit
    have h128 := (fits_bounds hfit).1
    clear hfit
    go_enter Try.func6, Try.ntmps6
    go_upto_region 1 with fail
    rw [← hY]
    clear hY
    obtain ⟨bx, hbx⟩ : ∃ bx, w.heap.size = bx := ⟨_, rfl⟩
    rw [hbx] at z0 HZ ⊢
    have HBx := hide hbx
    clear hbx
    go_upto_region 3 with (go_at_call 7; refine HFt.out.mono ?_; rintro e w1 ⟨rfl, h1⟩; have HB1 := hide h1; have x0 := kept_cell h1 z0; clear h1)
    go_wp2_with fail
    refine (made_any (HA.out.kept HB1.out) HF.out).mono ?_
    rintro e w2 ⟨p, own, rfl, s2, t2, b2⟩
    have hK2 : Keeps w2 p own (ar ++ [0]) [lastR ar] 8 := ⟨s2, mayR_iff.2 (by simp only [List.mem_singleton]; rintro r rfl; exact mayLast)⟩
    have hlast : lastR ar = ((al : Int), []) := by unfold lastR; rw [hl]
    rw [hlast] at hK2
    have hY2 : Below Y.heap.size Y w2 := HB1.out.trans (b2.mono HB1.out.size)
    have ret : ∀ k, k < w1.heap.size → own k = none := fun k hk => by
      cases ho : own k with
      | none => rfl
      | some t => exact absurd (t2 k (by rw [ho]; simp)) (by omega)
    have fr : ∀ {a n R}, FreeRows Y (fun _ => none) a n R → FreeRows w2 own a n R := fun h => ((h.below HB1.out).retag ret).turn (A := fun _ => False) (Turn.below b2)
    have HG := hide (And.intro (fr HFs.out.1) (And.intro (fr HFs.out.2.1) (fr HFs.out.2.2)))
    have HK2 := hide hK2
    have HT2 := hide (show TagsFrom own w1.heap.size from t2)
    have HY2 := hide hY2
    have HB2 := hide b2
    have HA2 := hide (HA.out.kept hY2)
    have y0 := kept_cell hY2 HZ.out.1
    have y1 := kept_cell hY2 HZ.out.2.1
    clear s2 t2 b2 hK2 hlast hY2 ret fr HFs HFt x0 z0 HA
    have hq : I64 (al : Int) := ⟨by omega, by omega⟩
    have HOne : Hid (∀ V : World, own.lim V.heap.size → FreeRows (V.alloc (.cells #[.int .i64 (al : Int), .slice none 0 0] 28)) own (some ⟨V.heap.size, 0, none⟩) 1 [((al : Int), [])]) := fun V hV => free_one V hV hq (l := []) (a := none) (c := 0) ⟨⟨rfl, by decide, by simp, fun h => absurd h (by decide)⟩, fun h => absurd h (by decide)⟩
    have hTl : (shapeP ar F).length = fl := by unfold shapeP; rw [List.length_map]; exact HLn.out.1
    have HMay := hide (shape_may HF.out F)
    have HSh : Hid (∀ V : World, Below w2.heap.size w2 V → Calls Try.prog 9 #[.slice aa al ac, .slice fa fl fc] V fun e w' => ∃ v, e = .returned v ∧ MyRows w' own V.heap.size v (shapeP ar F) ∧ Below V.heap.size V w') := fun V hV => shaped_any (HA2.out.kept hV) HF.out (HG.out.1.below hV) (fun kk hkk => Nat.lt_of_lt_of_le (HK2.out.1.lim kk hkk) hV.size)
    obtain ⟨T, hT⟩ : ∃ T, shapeP ar F = T := ⟨_, rfl⟩
    rw [hT] at hTl HMay HSh
    have hbA : Below w2.heap.size w2 (w2.alloc (.cells #[.int .i64 (al : Int), .slice none 0 0] 28)).drew := ((Below.refl _ w2).alloc (Nat.le_refl _) _).drew
    have hbB : Below w2.heap.size w2 w2.drew := (Below.refl _ w2).drew
    have hfV : FreeRows (w2.alloc (.cells #[.int .i64 (al : Int), .slice none 0 0] 28)).drew own (some ⟨w2.heap.size, 0, none⟩) 1 [((al : Int), [])] := (HOne.out w2 HK2.out.1.lim).below (Below.refl _ _).drew
    have HbA := hide hbA
    have HbB := hide hbB
    have HfV := hide hfV
    have HSc : Hid (∀ V : World, Below w2.heap.size w2 V → V.cell? ⟨bx, 0, none⟩ = some (.slice aa al ac) ∧ V.cell? ⟨bx, 1, none⟩ = some (.slice fa fl fc)) := fun V hV => ⟨kept_cell hV y0, kept_cell hV y1⟩
    have hTle : T.length ≤ fl := by omega
    clear hT hTl hbA hbB hfV
    go_upto_region 7 with fail
    go_cut [5] (fun v wx => ∃ ja n jc, v = .slice ja n jc ∧ (joinP [((al : Int), [])] T).length = n ∧ Hid (MyRows wx own w2.heap.size (.slice ja n jc) (joinP [((al : Int), [])] T)) ∧ Hid (Below w2.heap.size w2 wx))
    case first =>
      go_region_held3 (fun w' => w'.cell? ⟨bx, 0, none⟩ = some (.slice aa al ac) ∧ w'.cell? ⟨bx, 1, none⟩ = some (.slice fa fl fc))
        (first
          | exact HSc.out _ HbB.out
          | exact HSc.out _ HbA.out
          | exact HSc.out _ HW4.out
          | exact HSc.out _ HW4a.out
          | exact HSc.out _ HW5.out)
        (first
          | (go_at_call 9; refine (HSh.out _ (by first | exact HbA.out | exact HbB.out)).mono ?_; rintro e w4 ⟨v4, rfl, m4, h4⟩; obtain ⟨ta4, tc4, rfl, -⟩ := m4.shape; have HM4 := hide m4; have HB4 := hide h4; have HW4 : Hid (Below w2.heap.size w2 w4) := (by first | exact HbA.out.trans (h4.mono HbA.out.size) | exact HbB.out.trans (h4.mono HbB.out.size)); have HW4a : Hid (Below w2.heap.size w2 (w4.alloc (.cells #[.int .i64 (al : Int), .slice none 0 0] 28))) := HW4.out.alloc HW4.out.size _; clear m4 h4)
          | (go_at_call 10; refine (joined_any (own := own) (R := [((al : Int), [])]) (T := T) (by first | exact HfV.out.below HB4.out | exact HOne.out _ (fun kk hkk => Nat.lt_of_lt_of_le (HK2.out.1.lim kk hkk) HW4.out.size)) (by first | exact HM4.out.free (by omega) | exact (HM4.out.free (by omega)).below ((Below.refl _ _).alloc (Nat.le_refl _) _)) (by first | exact (fun kk hkk => Nat.lt_of_lt_of_le (HK2.out.1.lim kk hkk) HW4.out.size) | exact (fun kk hkk => Nat.lt_of_lt_of_le (HK2.out.1.lim kk hkk) HW4a.out.size)) (by omega)).mono ?_; rintro e w5 ⟨v5, rfl, m5, h5⟩; obtain ⟨ja, jc, rfl, -⟩ := m5.shape; have HM5 := hide m5; have HW5 : Hid (Below w2.heap.size w2 w5) := (by first | exact HW4.out.trans (h5.mono HW4.out.size) | exact HW4a.out.trans (h5.mono HW4a.out.size)); clear m5 h5))
      all_goals (go_wp2; go_meet; exact ⟨ja, _, jc, rfl, rfl, HM5.out.mono (by first | exact HW4.out.size | exact HW4a.out.size), HW5⟩)
    case rest =>
      obtain ⟨ja, n, jc, rfl, hn, HM, HB5⟩ := hcut
      clear HSh HSc HbA HbB HfV HOne y0 y1
      have hjl := joinP_len [((al : Int), [])] T
      obtain ⟨-, hjm⟩ := add_join (ar ++ [0]) [((al : Int), [])] T HK2.out.2 HMay.out
      have hag := join_again [((al : Int), [])] T
      obtain ⟨W, hW⟩ : ∃ W, joinP [((al : Int), [])] T = W := ⟨_, rfl⟩
      rw [hW] at hn HM hjl hjm hag
      rw [hn] at hjl
      simp only [List.length_singleton] at hjl
      obtain ⟨hn1, hn2⟩ := hjl
      have HN := hide hn
      have HJm := hide hjm
      have HAg := hide hag
      clear hn hW hjm hag
      have lim0 := HK2.out.1.lim
      have HLim : Hid (∀ V : World, Below w2.heap.size w2 V → own.lim V.heap.size) := fun V hV kk hkk => Nat.lt_of_lt_of_le (lim0 kk hkk) hV.size
      clear lim0
      have hT2l : (shapeP ar G).length = sl := by unfold shapeP; rw [List.length_map]; exact HLn.out.2.1
      have HMay2 := hide (shape_may HF.out G)
      have hT3l : (shapeP ar H).length = tl := by unfold shapeP; rw [List.length_map]; exact HLn.out.2.2
      have HMay3 := hide (shape_may HF.out H)
      have HSh : Hid (∀ V : World, Below w2.heap.size w2 V → (Calls Try.prog 9 #[.slice aa al ac, .slice sa sl sc] V fun e w' => ∃ v, e = .returned v ∧ MyRows w' own V.heap.size v (shapeP ar G) ∧ Below V.heap.size V w') ∧ (Calls Try.prog 9 #[.slice aa al ac, .slice ta tl tc] V fun e w' => ∃ v, e = .returned v ∧ MyRows w' own V.heap.size v (shapeP ar H) ∧ Below V.heap.size V w')) := fun V hV => ⟨shaped_any (HA2.out.kept hV) HF.out (HG.out.2.1.below hV) (HLim.out V hV), shaped_any (HA2.out.kept hV) HF.out (HG.out.2.2.below hV) (HLim.out V hV)⟩
      obtain ⟨T2, hT2⟩ : ∃ T, shapeP ar G = T := ⟨_, rfl⟩
      obtain ⟨T3, hT3⟩ : ∃ T, shapeP ar H = T := ⟨_, rfl⟩
      rw [hT2, hT3] at HSh
      rw [hT2] at hT2l HMay2
      rw [hT3] at hT3l HMay3
      have hT2e : T2.length ≤ sl := by omega
      have hT3e : T3.length ≤ tl := by omega
      have HC : Hid (∀ V : World, Below w2.heap.size w2 V → V.cell? ⟨bx, 0, none⟩ = some (.slice aa al ac) ∧ V.cell? ⟨bx, 2, none⟩ = some (.slice sa sl sc) ∧ V.cell? ⟨bx, 3, none⟩ = some (.slice ta tl tc)) := fun V hV => ⟨kept_cell (HY2.out.trans (hV.mono HY2.out.size)) HZ.out.1, kept_cell (HY2.out.trans (hV.mono HY2.out.size)) HZ.out.2.2.1, kept_cell (HY2.out.trans (hV.mono HY2.out.size)) HZ.out.2.2.2⟩
      clear hT2 hT3 hT2l hT3l HLn HG HA2
      have HWf := hide (HM.out.free (by rw [HN.out]; omega))
      obtain ⟨x0, x2, -⟩ := HC.out wc HB5.out
      clear HM
      go_wp2_with fail
      refine (HSh.out wc HB5.out).1.mono ?_
      rintro e w6 ⟨v6, rfl, m6, h6⟩
      obtain ⟨a6, c6, rfl, -⟩ := m6.shape
      have hB6 : Below w2.heap.size w2 w6 := HB5.out.trans (h6.mono HB5.out.size)
      have HJ := hide (joined_any (c1 := jc) (c2 := c6) (own := own) (HWf.out.below h6) (m6.free (by omega)) (HLim.out w6 hB6) (by omega))
      have HW6 := hide (HWf.out.below h6)
      have HB6 := hide hB6
      clear m6 h6 hB6 HWf x0 x2
      go_wp2_with fail
      refine HJ.out.mono ?_
      rintro e w7 ⟨v7, rfl, m7, h7⟩
      obtain ⟨ba, bc, rfl, -⟩ := m7.shape
      have hjl := joinP_len W T2
      obtain ⟨-, hjm⟩ := add_join (ar ++ [0]) W T2 HJm.out HMay2.out
      have HAgB := hide (join_again W T2)
      have HTk := hide (join_take W T2)
      obtain ⟨B, hBd⟩ : ∃ B, joinP W T2 = B := ⟨_, rfl⟩
      rw [hBd] at hjl hjm HAgB HTk m7 ⊢
      rw [HN.out] at hjl HTk
      obtain ⟨nb, hnb⟩ : ∃ n, B.length = n := ⟨_, rfl⟩
      rw [hnb] at hjl m7 ⊢
      obtain ⟨hb1, hb2⟩ := hjl
      have HNB := hide hnb
      have HJmB := hide hjm
      have hB7 : Below w2.heap.size w2 w7 := HB6.out.trans (h7.mono HB6.out.size)
      have HW7 := hide (HW6.out.below h7)
      have HBf := hide (m7.free (by rw [hnb]; omega))
      have HB7 := hide hB7
      obtain ⟨x0, -, x3⟩ := HC.out w7 hB7
      clear m7 h7 hjm hBd hnb hB7 HW6 HJ
      go_wp2_with fail
      refine (HSh.out w7 HB7.out).2.mono ?_
      rintro e w8 ⟨v8, rfl, m8, h8⟩
      obtain ⟨a8, c8, rfl, -⟩ := m8.shape
      have hB8 : Below w2.heap.size w2 w8 := HB7.out.trans (h8.mono HB7.out.size)
      have HJ := hide (joined_any (c1 := jc) (c2 := c8) (own := own) (HW7.out.below h8) (m8.free (by omega)) (HLim.out w8 hB8) (by omega))
      have HW8 := hide (HW7.out.below h8)
      have HBf8 := hide (HBf.out.below h8)
      have HB8 := hide hB8
      clear m8 h8 hB8 HW7 HBf x0 x3
      go_wp2_with fail
      refine HJ.out.mono ?_
      rintro e w9 ⟨v9, rfl, m9, h9⟩
      obtain ⟨da, dc, rfl, -⟩ := m9.shape
      have hjl := joinP_len W T3
      obtain ⟨-, hjm⟩ := add_join (ar ++ [0]) W T3 HJm.out HMay3.out
      have HAgD := hide (join_again W T3)
      obtain ⟨D, hDd⟩ : ∃ B, joinP W T3 = B := ⟨_, rfl⟩
      rw [hDd] at hjl hjm HAgD m9 ⊢
      rw [HN.out] at hjl
      obtain ⟨nd, hnd⟩ : ∃ n, D.length = n := ⟨_, rfl⟩
      rw [hnd] at hjl m9 ⊢
      obtain ⟨hd1, hd2⟩ := hjl
      have HND := hide hnd
      have HJmD := hide hjm
      have hB9 : Below w2.heap.size w2 w9 := HB8.out.trans (h9.mono HB8.out.size)
      have h9' : BackAt w1 w9 p (ar ++ [0]) [(ja, W), (ba, B), (da, D)] [((al : Int), [])] 8 := by
        refine ⟨own, HK2.out.below hB9, HT2.out, HB2.out.trans (hB9.mono HB2.out.size), fun x hx => ?_⟩
        simp only [List.mem_cons, List.not_mem_nil, or_false] at hx
        rcases hx with rfl | rfl | rfl
        · show FreeRows _ _ ja W.length W; rw [HN.out]; exact HW8.out.below h9
        · show FreeRows _ _ ba B.length B; rw [HNB.out]; exact HBf8.out.below h9
        · show FreeRows _ _ da D.length D; rw [hnd]; exact m9.free (by rw [hnd]; omega)
      have H9 := hide h9'
      clear m9 h9 hjm hDd hnd hB9 h9' HW8 HBf8 HJ HSh HC HB8 HB7 HB6 HB5 HK2 HT2 HB2 HLim HY2 HMay HMay2 HMay3
      have e1 : (((n - 1 : Nat) : Int) != (n : Int) - 1) = false := by simp; omega
      have eB : (((nb - n : Nat) : Int) != (nb : Int) - (n : Int)) = false := by simp; omega
      have eD : (((nd - n : Nat) : Int) != (nd : Int) - (n : Int)) = false := by simp; omega
      -- CALLS
      have HX := hide (H9.out.add (c := jc) ja (R := W) (by simp) HJm.out HN.out (by omega))
      rw [HAg.out, HN.out] at HX
      simp only [List.length_singleton] at HX
      go_wp2_with fail
      refine HX.out.mono ?_
      rintro e w10 ⟨rfl, s10⟩
      have H10 := hide s10
      clear s10 HX H9
      have HX := hide (H10.out.copy (by omega) (by simp) (by rw [List.any_append, (fits_bounds HF.out).2]; rfl))
      rw [HN.out] at HX
      go_wp2_with fail
      refine HX.out.mono ?_
      rintro e w11 ⟨p2, rfl, s11⟩
      have H11 := hide s11
      clear s11 HX H10
      have HX := hide (H11.out.swap.holds (c := jc) (by omega) ja (by simp) HN.out (pr := al + 1) (by omega))
      rw [show ((al + 1 : Nat) : Int) = (al : Int) + 1 from by omega] at HX
      go_wp2_with fail
      refine HX.out.mono ?_
      rintro e w12 ⟨rfl, s12⟩
      have H12 := hide s12
      clear s12 HX H11
      have HX := hide (H12.out.swap.add (c := bc) ba (R := B) (by simp) HJmB.out HNB.out (by omega))
      rw [HAgB.out, HNB.out, HN.out] at HX
      go_wp2_with fail
      refine HX.out.mono ?_
      rintro e w13 ⟨rfl, s13⟩
      have H13 := hide s13
      clear s13 HX H12
      have HX := hide (H13.out.swap.holds (c := jc) (by omega) ja (by simp) HN.out (pr := al + 1) (by omega))
      rw [show ((al + 1 : Nat) : Int) = (al : Int) + 1 from by omega] at HX
      go_wp2_with fail
      refine HX.out.mono ?_
      rintro e w14 ⟨rfl, s14⟩
      have H14 := hide s14
      clear s14 HX H13
      have HX := hide (H14.out.swap.holds (c := bc) (by omega) ba (by simp) HNB.out (pr := al + 1) (by omega))
      rw [show ((al + 1 : Nat) : Int) = (al : Int) + 1 from by omega] at HX
      go_wp2_with fail
      refine HX.out.mono ?_
      rintro e w15 ⟨rfl, s15⟩
      have H15 := hide s15
      clear s15 HX H14
      have HX := hide (H15.out.swap.add (c := dc) da (R := D) (by simp) HJmD.out HND.out (by omega))
      rw [HAgD.out, HND.out, HN.out] at HX
      go_wp2_with fail
      refine HX.out.mono ?_
      rintro e w16 ⟨rfl, s16⟩
      have H16 := hide s16
      clear s16 HX H15
      have HX := hide (H16.out.holds (c := dc) (by omega) da (by simp) HND.out (pr := al + 1) (by omega))
      rw [show ((al + 1 : Nat) : Int) = (al : Int) + 1 from by omega] at HX
      go_wp2_with fail
      refine HX.out.mono ?_
      rintro e w17 ⟨rfl, s17⟩
      have H17 := hide s17
      clear s17 HX H16
      have HX := hide (H17.out.swap.holds (c := bc) (by omega) ba (by simp) HNB.out (pr := al + 1) (by omega))
      rw [show ((al + 1 : Nat) : Int) = (al : Int) + 1 from by omega] at HX
      go_wp2_with fail
      refine HX.out.mono ?_
      rintro e w18 ⟨rfl, s18⟩
      have H18 := hide s18
      clear s18 HX H17
      have HX := hide (H18.out.undo (n := 0) (by omega) (by rw [HNB.out]; omega))
      rw [List.take_zero, HNB.out] at HX
      rw [show ((0 : Nat) : Int) = 0 from rfl] at HX
      go_wp2_with fail
      refine HX.out.mono ?_
      rintro e w19 ⟨rfl, s19⟩
      have H19 := hide s19
      clear s19 HX H18
      have HX := hide (H19.out.holdsNil (by omega) (pr := al + 1) (by omega))
      rw [show ((al + 1 : Nat) : Int) = (al : Int) + 1 from by omega] at HX
      go_wp2_with fail
      refine HX.out.mono ?_
      rintro e w20 ⟨rfl, s20⟩
      have H20 := hide s20
      clear s20 HX H19
      have HX := hide (H20.out.swap.holds (c := dc) (by omega) da (by simp) HND.out (pr := al + 1) (by omega))
      rw [show ((al + 1 : Nat) : Int) = (al : Int) + 1 from by omega] at HX
      go_wp2_with fail
      refine HX.out.mono ?_
      rintro e w21 ⟨rfl, s21⟩
      have H21 := hide s21
      clear s21 HX H20
      go_wp2
      go_ret
      exact ⟨rfl, HBY.out.trans ((HB1.out.trans (H21.out.bel.mono HB1.out.size)).mono HBY.out.size)⟩
end Go.Proofs.Ytbmefnpilgdejaa
