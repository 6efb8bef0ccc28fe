/- edictlaw05.StoreGoes returns true at all Parts of bulk at most 1048576. -/
import Derived.Test.YtcofoddjcgmmkaaStoreGoOf
import Derived.Test.YtcofoddjcgmmkaaStoreLand
namespace Go.Proofs.Ytcofoddjcgmmkaa
set_option linter.unusedSimpArgs false
set_option linter.unusedVariables false
open Go.RowKit Go.Maps

set_option maxRecDepth 100000 in
set_option maxHeartbeats 8000000 in
theorem storeGoes_walk (aa : Option Addr) (al ac : Nat) (ar : List Int) (fa : Option Addr) (fc : Nat) (F : List Rw) (sa : Option Addr) (sc : Nat) (G : List Rw) (ta : Option Addr) (tc : Nat) (H : List Rw) (pr st : Int) (sy : Bool) (w : World) (ha : IsInts w aa al ar)
    (hf : FreeRows w (fun _ => none) fa F.length F) (hfl : F.length ≤ 1048576) (hs : FreeRows w (fun _ => none) sa G.length G) (hsl : G.length ≤ 1048576) (ht : FreeRows w (fun _ => none) ta H.length H) (htl : H.length ≤ 1048576) (hps : I64 pr ∧ I64 st) :
    Calls Try.prog 4 #[.agg #[.slice aa al ac, .slice fa F.length fc, .slice sa G.length sc, .slice ta H.length tc, .int .i64 pr, .int .i64 st, .bool sy]] w fun e w' => e = .returned (.bool true) ∧ Below w.heap.size w w' := by
  have hl := ha.1
  obtain ⟨fl, hfn⟩ : ∃ n, F.length = n := ⟨_, rfl⟩
  obtain ⟨sl, hsn⟩ : ∃ n, G.length = n := ⟨_, rfl⟩
  obtain ⟨tl, htn⟩ : ∃ n, H.length = n := ⟨_, rfl⟩
  rw [hfn] at hf hfl ⊢
  rw [hsn] at hs hsl ⊢
  rw [htn] at ht htl ⊢
  obtain ⟨Y, hY⟩ : ∃ Y, Y = w.alloc (.cells #[.slice aa al ac, .slice fa fl fc, .slice sa sl sc, .slice ta tl tc, .int .i64 pr, .int .i64 st, .bool sy] 25) := ⟨_, rfl⟩
  have hBY : Below w.heap.size w Y := by rw [hY]; exact (Below.refl _ _).alloc (Nat.le_refl _) _
  have z0 : Y.cell? ⟨w.heap.size, 0, none⟩ = some (.slice aa al ac) := by rw [hY]; simp
  have z1 : Y.cell? ⟨w.heap.size, 1, none⟩ = some (.slice fa fl fc) := by rw [hY]; simp
  have z2 : Y.cell? ⟨w.heap.size, 2, none⟩ = some (.slice sa sl sc) := by rw [hY]; simp
  have z3 : Y.cell? ⟨w.heap.size, 3, none⟩ = some (.slice ta tl tc) := by rw [hY]; simp
  have HA := hide (ha.kept hBY)
  have HFs := hide (And.intro (hf.below hBY) (And.intro (hs.below hBY) (ht.below hBY)))
  have HLn := hide (And.intro hfn (And.intro hsn htn))
  have HBY := hide hBY
  have z4 : Y.cell? ⟨w.heap.size, 4, none⟩ = some (.int .i64 pr) := by rw [hY]; simp
  have z5 : Y.cell? ⟨w.heap.size, 5, none⟩ = some (.int .i64 st) := by rw [hY]; simp
  have HZ := hide (And.intro z0 (And.intro z1 (And.intro z4 z5)))
  have HZf : Hid (Y.frozen? ⟨w.heap.size, 0, none⟩ = false ∧ Y.frozen? ⟨w.heap.size, 4, none⟩ = false ∧ Y.frozen? ⟨w.heap.size, 5, none⟩ = false) := by show _ ∧ _; rw [hY]; exact ⟨by unfold World.frozen?; rw [box_at rfl]; rfl, by unfold World.frozen?; rw [box_at rfl]; rfl, by unfold World.frozen?; rw [box_at rfl]; rfl⟩
  have HFt := hide (fun V (hV : Below Y.heap.size Y V) => fits_any (cap := ac) (HA.out.kept hV))
  clear ha hf hs ht hfn hsn htn hBY z0 z1 z2 z3 z4 z5
  go_enter Try.func4, Try.ntmps4
  go_wp2_with fail
  rw [← hY]
  clear hY
  obtain ⟨bx, hbx⟩ : ∃ bx, w.heap.size = bx := ⟨_, rfl⟩
  rw [hbx] at HZ HZf ⊢
  have HBx := hide hbx
  clear hbx
  refine none_any.mono ?_
  rintro e w0 ⟨rfl, h0⟩
  have HB0 := hide h0
  have x0 := kept_cell h0 HZ.out.1
  clear h0
  cases hfit : fitsP ar with
  | false =>
    have HF0 := hide (HFt.out w0 HB0.out)
    rw [hfit] at HF0
    go_wp2_with fail
    refine HF0.out.mono ?_
    rintro e w1 ⟨rfl, h1⟩
    have HB1 := hide (HBY.out.trans ((HB0.out.trans (h1.mono HB0.out.size)).mono HBY.out.size))
    clear h1
    go_wp2_with fail
    go_ret
    exact ⟨rfl, HB1.out⟩
  | true =>
    have HF0 := hide (HFt.out w0 HB0.out)
    rw [hfit] at HF0
    have HF := hide hfit
    have h128 := (fits_bounds hfit).1
    clear hfit
    go_wp2_with fail
    clear x0
    refine HF0.out.mono ?_
    rintro e w1 ⟨rfl, h1⟩
    have HB1 : Hid (Below Y.heap.size Y w1) := HB0.out.trans (h1.mono HB0.out.size)
    clear h1 HF0
    have x0 := kept_cell HB1.out HZ.out.1
    go_wp2_with fail
    clear x0
    refine (made_any (HA.out.kept HB1.out) HF.out).mono ?_
    rintro e w2 ⟨p, own, rfl, s2, t2, b2⟩
    have hK2 : Keeps mk0 w2 p own (ar ++ [0]) [lastR ar] 8 := ⟨s2, mayR_iff.2 (by simp only [List.mem_singleton]; rintro r rfl; exact mayLast)⟩
    have hlast : lastR ar = ((al : Int), []) := by unfold lastR; rw [hl]
    rw [hlast] at hK2
    have hY2 : Below Y.heap.size Y w2 := HB1.out.trans (b2.mono HB1.out.size)
    have ret : ∀ k, k < w1.heap.size → own k = none := fun k hk => by
      cases ho : own k with
      | none => rfl
      | some t => exact absurd (t2 k (by rw [ho]; simp)) (by omega)
    have fr : ∀ {a n R}, FreeRows Y (fun _ => none) a n R → FreeRows w2 own a n R := fun h => ((h.below HB1.out).retag ret).turn (A := fun _ => False) (Turn.below b2)
    obtain ⟨Z, hZ⟩ : ∃ Z, Z = w2.alloc (.cells #[.pointer (some ⟨p, 0, none⟩)] 27) := ⟨_, rfl⟩
    have hBZ : Below w2.heap.size w2 Z := by rw [hZ]; exact (Below.refl _ w2).alloc (Nat.le_refl _) _
    have hYZ : Below Y.heap.size Y Z := hY2.trans (hBZ.mono hY2.size)
    have HSb : Hid (Z.cell? ⟨w2.heap.size, 0, none⟩ = some (.pointer (some ⟨p, 0, none⟩))) := by show _ = _; rw [hZ]; simp
    have HSf : Hid (Z.frozen? ⟨w2.heap.size, 0, none⟩ = false) := by show _ = _; rw [hZ]; unfold World.frozen?; rw [box_at rfl]; rfl
    have HG := hide (And.intro ((fr HFs.out.1).below hBZ) trivial)
    have HKz := hide (hK2.below hBZ)
    have HLz := hide (hK2.below hBZ).1.lim
    have HT2 := hide (show TagsFrom own w1.heap.size from t2)
    have HB2 : Hid (Below w1.heap.size w1 Z) := b2.trans (hBZ.mono b2.size)
    have HA2 := hide (HA.out.kept hYZ)
    have HYZ := hide hYZ
    have hno : ∀ k, w2.heap.size ≤ k → own k = none := fun k hk => by
      cases ho : own k with
      | none => rfl
      | some t => exact absurd (hK2.1.lim k (by rw [ho]; simp)) (by omega)
    have HNo := hide hno
    have hz2 : w2.heap.size < Z.heap.size := by rw [hZ]; simp
    have hw12 : w1.heap.size ≤ w2.heap.size := b2.size
    have y0 := kept_cell hYZ HZ.out.1
    have y1 := kept_cell hYZ HZ.out.2.1
    clear s2 t2 b2 hK2 hlast hY2 ret fr HFs HFt HA hBZ hYZ hno
    have hq : I64 (al : Int) := ⟨by omega, by omega⟩
    have HOne : Hid (∀ V : World, own.lim V.heap.size → FreeRows (V.alloc (.cells #[.int .i64 (al : Int), .slice none 0 0] 31)) own (some ⟨V.heap.size, 0, none⟩) 1 [((al : Int), [])]) := fun V hV => free_one V hV hq (l := []) (a := none) (c := 0) ⟨⟨rfl, by decide, by simp, fun h => absurd h (by decide)⟩, fun h => absurd h (by decide)⟩
    have hTl : (shapeP ar F).length = fl := by unfold shapeP; rw [List.length_map]; exact HLn.out.1
    have HMay := hide (shape_may HF.out F)
    have HSh : Hid (∀ V : World, Below Z.heap.size Z V → Calls Try.prog 8 #[.slice aa al ac, .slice fa fl fc] V fun e w' => ∃ v, e = .returned v ∧ MyRows w' own V.heap.size v (shapeP ar F) ∧ Below V.heap.size V w') := fun V hV => shaped_any (HA2.out.kept hV) HF.out (HG.out.1.below hV) (fun kk hkk => Nat.lt_of_lt_of_le (HLz.out kk hkk) hV.size)
    obtain ⟨T, hT⟩ : ∃ T, shapeP ar F = T := ⟨_, rfl⟩
    rw [hT] at hTl HMay HSh
    have hbA : Below Z.heap.size Z (Z.alloc (.cells #[.int .i64 (al : Int), .slice none 0 0] 31)).drew := ((Below.refl _ Z).alloc (Nat.le_refl _) _).drew
    have hbB : Below Z.heap.size Z Z.drew := (Below.refl _ Z).drew
    have hfV : FreeRows (Z.alloc (.cells #[.int .i64 (al : Int), .slice none 0 0] 31)).drew own (some ⟨Z.heap.size, 0, none⟩) 1 [((al : Int), [])] := (HOne.out Z HLz.out).below (Below.refl _ _).drew
    have HbA := hide hbA
    have HbB := hide hbB
    have HfV := hide hfV
    have HSc : Hid (∀ V : World, Below Z.heap.size Z V → V.cell? ⟨bx, 0, none⟩ = some (.slice aa al ac) ∧ V.cell? ⟨bx, 1, none⟩ = some (.slice fa fl fc)) := fun V hV => ⟨kept_cell hV y0, kept_cell hV y1⟩
    have hTle : T.length ≤ fl := by omega
    clear hT hTl hbA hbB hfV
    go_upto_region 8 with fail
    rw [← hZ]
    clear hZ
    go_cut [4] (fun v wx => ∃ ja n jc, v = .slice ja n jc ∧ (joinP [((al : Int), [])] T).length = n ∧ Hid (MyRows wx own Z.heap.size (.slice ja n jc) (joinP [((al : Int), [])] T)) ∧ Hid (Below Z.heap.size Z wx))
    case first =>
      go_region_held3 (fun w' => w'.cell? ⟨bx, 0, none⟩ = some (.slice aa al ac) ∧ w'.cell? ⟨bx, 1, none⟩ = some (.slice fa fl fc))
        (first
          | exact HSc.out _ HbB.out
          | exact HSc.out _ HbA.out
          | exact HSc.out _ HW4.out
          | exact HSc.out _ HW4a.out
          | exact HSc.out _ HW5.out)
        (first
          | (go_at_call 8; refine (HSh.out _ (by first | exact HbA.out | exact HbB.out)).mono ?_; rintro e w4 ⟨v4, rfl, m4, h4⟩; obtain ⟨ta4, tc4, rfl, -⟩ := m4.shape; have HM4 := hide m4; have HB4 := hide h4; have HW4 : Hid (Below Z.heap.size Z w4) := (by first | exact HbA.out.trans (h4.mono HbA.out.size) | exact HbB.out.trans (h4.mono HbB.out.size)); have HW4a : Hid (Below Z.heap.size Z (w4.alloc (.cells #[.int .i64 (al : Int), .slice none 0 0] 31))) := HW4.out.alloc HW4.out.size _; clear m4 h4)
          | (go_at_call 7; refine (joined_any (own := own) (R := [((al : Int), [])]) (T := T) (by first | exact HfV.out.below HB4.out | exact HOne.out _ (fun kk hkk => Nat.lt_of_lt_of_le (HLz.out kk hkk) HW4.out.size)) (by first | exact HM4.out.free (by omega) | exact (HM4.out.free (by omega)).below ((Below.refl _ _).alloc (Nat.le_refl _) _)) (by first | exact (fun kk hkk => Nat.lt_of_lt_of_le (HLz.out kk hkk) HW4.out.size) | exact (fun kk hkk => Nat.lt_of_lt_of_le (HLz.out kk hkk) HW4a.out.size)) (by omega)).mono ?_; rintro e w5 ⟨v5, rfl, m5, h5⟩; obtain ⟨ja, jc, rfl, -⟩ := m5.shape; have HM5 := hide m5; have HW5 : Hid (Below Z.heap.size Z w5) := (by first | exact HW4.out.trans (h5.mono HW4.out.size) | exact HW4a.out.trans (h5.mono HW4a.out.size)); clear m5 h5))
      all_goals (go_wp2; go_meet; exact ⟨ja, _, jc, rfl, rfl, HM5.out.mono (by first | exact HW4.out.size | exact HW4a.out.size), HW5⟩)
    case rest =>
      obtain ⟨ja, n, jc, rfl, hn, HM, HB5⟩ := hcut
      clear HSh HSc HbA HbB HfV HOne y0 y1
      have hjl := joinP_len [((al : Int), [])] T
      obtain ⟨-, hjm⟩ := add_join (ar ++ [0]) [((al : Int), [])] T HKz.out.2 HMay.out
      have hag := join_again [((al : Int), [])] T
      obtain ⟨W, hW⟩ : ∃ W, joinP [((al : Int), [])] T = W := ⟨_, rfl⟩
      rw [hW] at hn HM hjl hjm hag
      rw [hn] at hjl
      simp only [List.length_singleton] at hjl
      obtain ⟨hn1, hn2⟩ := hjl
      have HN := hide hn
      have HJm := hide hjm
      have HAg := hide hag
      clear hn hW hjm hag
      have HWf := hide (HM.out.free (by rw [HN.out]; omega))
      clear HM
      have HYc : Hid (Below Y.heap.size Y wc) := HYZ.out.trans (HB5.out.mono HYZ.out.size)
      have hbx1 : bx < w1.heap.size := Nat.lt_of_lt_of_le (lt_of_cell HZ.out.1) HB1.out.size
      have hbn : own bx = none := by
        cases ho : own bx with
        | none => rfl
        | some t => exact absurd (HT2.out bx (by rw [ho]; simp)) (by omega)
      have h9' : TryAt mk0 w1 wc wc p own (ar ++ [0]) [(⟨w2.heap.size, 0, none⟩, .pointer (some ⟨p, 0, none⟩)), (⟨bx, 4, none⟩, .int .i64 pr), (⟨bx, 5, none⟩, .int .i64 st), (⟨bx, 0, none⟩, .slice aa al ac)] [((al : Int), [])] 8 := by
        refine ⟨own, HKz.out.below HB5.out, HT2.out, HB2.out.trans (HB5.out.mono HB2.out.size), Turn.refl _ _ _, fun x hx => ?_⟩
        simp only [List.mem_cons, List.not_mem_nil, or_false] at hx
        rcases hx with rfl | rfl | rfl | rfl
        · exact ⟨kept_cell HB5.out HSb.out, HNo.out _ (Nat.le_refl _), by rw [frozen_of (HB5.out.block _ (lt_of_cell HSb.out))]; exact HSf.out⟩
        · exact ⟨kept_cell HYc.out HZ.out.2.2.1, hbn, by rw [frozen_of (HYc.out.block _ (lt_of_cell HZ.out.2.2.1))]; exact HZf.out.2.1⟩
        · exact ⟨kept_cell HYc.out HZ.out.2.2.2, hbn, by rw [frozen_of (HYc.out.block _ (lt_of_cell HZ.out.2.2.2))]; exact HZf.out.2.2⟩
        · exact ⟨kept_cell HYc.out HZ.out.1, hbn, by rw [frozen_of (HYc.out.block _ (lt_of_cell HZ.out.1))]; exact HZf.out.1⟩
      have H9 := hide h9'
      have hwcl := HB5.out.size
      have z1 := h9'.cell (a := ⟨w2.heap.size, 0, none⟩) (v := .pointer (some ⟨p, 0, none⟩)) (by simp)
      have HX := hide (h9'.add (c := jc) (R := W) (n := n) HWf.out HJm.out HN.out (by omega))
      rw [HAg.out, HN.out] at HX
      simp only [List.length_singleton] at HX
      clear h9' hbn
      go_wp2_with fail
      clear z1
      refine HX.out.mono ?_
      rintro e w10 ⟨rfl, s10⟩
      have H10 := hide s10
      have z1 := s10.cell (a := ⟨w2.heap.size, 0, none⟩) (v := .pointer (some ⟨p, 0, none⟩)) (by simp)
      have z0 := s10.cell (a := ⟨bx, 0, none⟩) (v := .slice aa al ac) (by simp)
      clear s10 HX H9
      have HX := hide (H10.out.holds (c := jc) (pr := al + 1) (n := n) (by omega) HWf.out HN.out (by omega))
      rw [show ((al + 1 : Nat) : Int) = (al : Int) + 1 from by omega] at HX
      go_wp2_with fail
      clear z1 z0
      refine HX.out.mono ?_
      rintro e w11 ⟨rfl, s11⟩
      have h12 := (s11.box (.slice none 0 0) 22).box (.bool true) 4
      have hs11 : w2.heap.size < w11.heap.size := lt_of_cell (s11.cell (a := ⟨w2.heap.size, 0, none⟩) (v := .pointer (some ⟨p, 0, none⟩)) (by simp))
      have hb11 : bx < w11.heap.size := lt_of_cell (s11.cell (a := ⟨bx, 0, none⟩) (v := .slice aa al ac) (by simp))
      rw [show (w11.alloc (.cells #[.slice none 0 0] 22)).heap.size = w11.heap.size + 1 from by simp] at h12
      obtain ⟨V, hV⟩ : ∃ V, V = (w11.alloc (.cells #[.slice none 0 0] 22)).alloc (.cells #[.bool true] 4) := ⟨_, rfl⟩
      have hVs : V.heap.size = w11.heap.size + 1 + 1 := by rw [hV]; simp
      have z1 := h12.cell (a := ⟨w2.heap.size, 0, none⟩) (v := .pointer (some ⟨p, 0, none⟩)) (by simp)
      have z4 := h12.cell (a := ⟨bx, 4, none⟩) (v := .int .i64 pr) (by simp)
      have hbel := h12.bel
      rw [← hV] at h12 hbel
      obtain ⟨own', hK, hT', hB', hU, hX⟩ := h12
      have hg := (hX (⟨w11.heap.size, 0, none⟩, .slice none 0 0) (by simp))
      have ho := (hX (⟨w11.heap.size + 1, 0, none⟩, .bool true) (by simp))
      have hGo : GoAt V V w11.heap.size (w11.heap.size + 1) none 0 [] := ⟨Only.refl _ _, ho.1, ho.2.2, hg.2.2, hg.1, World.ownsRow_nil _ _ _ _⟩
      have HEa := hide (each_st (st := st) (pr := pr) (bs := w2.heap.size) (bx := bx) hGo hK (by omega) hg.2.1 ho.2.1 (by omega) (by omega) (by omega) (hX (⟨w2.heap.size, 0, none⟩, .pointer (some ⟨p, 0, none⟩)) (by simp)).1 (by omega) (by omega) (hX (⟨bx, 5, none⟩, .int .i64 st) (by simp)).1 (by omega) (by omega) hps.1)
      have HK := hide hK
      have HXx := hide hX
      have HOw := hide (And.intro hg.2.1 ho.2.1)
      have hmf : ∀ (fn : Fn) (first cap : Array Value) (w : World), (Instr.makeFunc fn first cap).run Try.prog w = .ok (.func fn first cap) w := fun _ _ _ _ => rfl
      have HBel := hide hbel
      clear s11 HX H10 hGo hg ho hX hK hU hT' hB' hbel
      go_wp2_with fail
      rw [← hV]
      clear hV z1 z4 hmf
      refine HEa.out.mono ?_
      rintro e w13 ⟨rfl, ga, gc, g13⟩
      have z1 := g13.cell (HXx.out (⟨w2.heap.size, 0, none⟩, .pointer (some ⟨p, 0, none⟩)) (by simp)).1 (by dsimp only; omega) (by dsimp only; omega)
      have z4 := g13.cell (HXx.out (⟨bx, 4, none⟩, .int .i64 pr) (by simp)).1 (by dsimp only; omega) (by dsimp only; omega)
      have hK13 := g13.store HK.out HOw.out.1 HOw.out.2
      have HG13 := hide g13
      have HV1 : Hid (w1.heap.size ≤ w11.heap.size) := by show _ ≤ _; omega
      have HB13 : Hid (Below w1.heap.size w1 w13) := HBel.out.trans (g13.1.below (by omega) (fun k hk hS => by rcases hS with rfl | rfl <;> omega))
      have hNl := posP_len W pr
      rw [HN.out] at hNl
      have hNI : ∀ x ∈ posP W pr, I64 x := fun x hx => by have := hNl.2 x hx; exact ⟨by omega, by omega⟩
      have HCl : Hid ((cutP st (posP W pr)).length < 1099511627776 ∧ ∀ x ∈ cutP st (posP W pr), I64 x) := by
        show _ ∧ _
        unfold cutP
        split
        · exact ⟨by rw [List.length_take]; omega, fun x hx => hNI x (List.mem_of_mem_take hx)⟩
        · exact ⟨by omega, hNI⟩
      have z5 := HG13.out.cell (HXx.out (⟨bx, 5, none⟩, .int .i64 st) (by simp)).1 (by dsimp only; omega) (by dsimp only; omega)
      have HZ5 := hide z5
      by_cases hc : 0 ≤ st ∧ st < (posP W pr).length
      · have HE : Hid (cutP st (posP W pr) = (posP W pr).take (st.toNat + 1)) := by show _ = _; unfold cutP; rw [if_pos hc]
        have HO := hide (of_cap hK13 (by omega) hps.1 (by omega))
        obtain ⟨k, rfl⟩ : ∃ k : Nat, st = k := ⟨st.toNat, by omega⟩
        have hkn : k < (posP W pr).length := by omega
        have HNI := hide hNI
        clear g13 HEa hc hK13 z5 hNI
        obtain ⟨N, hN⟩ : ∃ N, posP W pr = N := ⟨_, rfl⟩
        rw [hN] at HE HO hkn HG13 HCl HNI hNl
        clear hN
        have hk1 : (0 : Int) ≤ (k : Int) := by omega
        have hk2 : (k : Int) < (N.length : Int) := by omega
        go_wp2_with fail
        clear z1 z4
        refine HO.out.mono ?_
        rintro e w14 ⟨oa, oc, rfl, hi14, h14, hcap⟩
        have hk3 : (k : Int) + 1 ≤ (oc : Int) := by omega
        have hk4 : (0 : Int) ≤ (k : Int) + 1 := by omega
        have z5 := kept_cell h14 HZ5.out
        have g14 := HG13.out.below h14
        have c8 := g14.2.1
        have c7 := g14.2.2.2.2.1
        have HEq := hide (equalInts_any (c1 := gc) (c2 := oc) (own_isInts g14.2.2.2.2.2 HCl.out.2 HCl.out.1) (isInts_take hi14 (m := k + 1) (by omega)))
        have HB14 := hide (HB13.out.trans (h14.mono HB13.out.size))
        rw [show (cutP (k : Int) N == N.take (k + 1)) = true from by rw [HE.out]; simp] at HEq
        clear hi14 h14 g14 HO hcap
        go_wp2_with fail
        refine HEq.out.mono ?_
        rintro e w15 ⟨rfl, h15⟩
        have HB15 := hide (HB14.out.trans (h15.mono HB14.out.size))
        clear h15 HEq
        go_wp2_with fail
        go_ret
        exact ⟨rfl, HBY.out.trans ((HB1.out.trans (HB15.out.mono HB1.out.size)).mono HBY.out.size)⟩
      · have HE : Hid (cutP st (posP W pr) = posP W pr) := by show _ = _; unfold cutP; rw [if_neg hc]
        have HO := hide (of_st hK13 (by omega) hps.1)
        clear g13 HEa hK13 z5 hNI
        obtain ⟨N, hN⟩ : ∃ N, posP W pr = N := ⟨_, rfl⟩
        rw [hN] at HE HO HG13 HCl hNl hc
        clear hN
        rw [HE.out] at HG13 HCl
        go_wp2_with fail
        clear z1 z4
        refine HO.out.mono ?_
        rintro e w14 ⟨oa, oc, rfl, hi14, h14⟩
        have z5 := kept_cell h14 HZ5.out
        have g14 := HG13.out.below h14
        have c8 := g14.2.1
        have c7 := g14.2.2.2.2.1
        have HEq := hide (equalInts_any (c1 := gc) (c2 := oc) (own_isInts g14.2.2.2.2.2 HCl.out.2 HCl.out.1) hi14)
        have HB14 := hide (HB13.out.trans (h14.mono HB13.out.size))
        rw [show (N == N) = true from by simp] at HEq
        clear hi14 h14 g14 HO
        by_cases h0 : (0 : Int) ≤ st
        · have h1 : ¬ st < (N.length : Int) := by omega
          clear hc
          go_wp2_with fail
          refine HEq.out.mono ?_
          rintro e w15 ⟨rfl, h15⟩
          have HB15 := hide (HB14.out.trans (h15.mono HB14.out.size))
          clear h15 HEq
          go_wp2_with fail
          go_ret
          exact ⟨rfl, HBY.out.trans ((HB1.out.trans (HB15.out.mono HB1.out.size)).mono HBY.out.size)⟩
        · clear hc
          go_wp2_with fail
          refine HEq.out.mono ?_
          rintro e w15 ⟨rfl, h15⟩
          have HB15 := hide (HB14.out.trans (h15.mono HB14.out.size))
          clear h15 HEq
          go_wp2_with fail
          go_ret
          exact ⟨rfl, HBY.out.trans ((HB1.out.trans (HB15.out.mono HB1.out.size)).mono HBY.out.size)⟩
end Go.Proofs.Ytcofoddjcgmmkaa
