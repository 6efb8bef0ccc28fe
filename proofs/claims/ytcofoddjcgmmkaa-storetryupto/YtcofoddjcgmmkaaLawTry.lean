/- edictlaw05.StoreTry returns true at all Parts of bulk at most 1048576. -/
import Derived.Test.YtcofoddjcgmmkaaStoreTryFn
import Derived.Test.YtcofoddjcgmmkaaStoreLand
namespace Go.Proofs.Ytcofoddjcgmmkaa
set_option linter.unusedSimpArgs false
set_option linter.unusedVariables false
open Go.RowKit Go.Maps

set_option maxRecDepth 100000 in
set_option maxHeartbeats 8000000 in
theorem storeTry_walk (aa : Option Addr) (al ac : Nat) (ar : List Int) (fa : Option Addr) (fc : Nat) (F : List Rw) (sa : Option Addr) (sc : Nat) (G : List Rw) (ta : Option Addr) (tc : Nat) (H : List Rw) (pr st : Int) (sy : Bool) (w : World) (ha : IsInts w aa al ar)
    (hf : FreeRows w (fun _ => none) fa F.length F) (hfl : F.length ≤ 1048576) (hs : FreeRows w (fun _ => none) sa G.length G) (hsl : G.length ≤ 1048576) (ht : FreeRows w (fun _ => none) ta H.length H) (htl : H.length ≤ 1048576) :
    Calls Try.prog 3 #[.agg #[.slice aa al ac, .slice fa F.length fc, .slice sa G.length sc, .slice ta H.length tc, .int .i64 pr, .int .i64 st, .bool sy]] w fun e w' => e = .returned (.bool true) ∧ Below w.heap.size w w' := by
  have hl := ha.1
  obtain ⟨fl, hfn⟩ : ∃ n, F.length = n := ⟨_, rfl⟩
  obtain ⟨sl, hsn⟩ : ∃ n, G.length = n := ⟨_, rfl⟩
  obtain ⟨tl, htn⟩ : ∃ n, H.length = n := ⟨_, rfl⟩
  rw [hfn] at hf hfl ⊢
  rw [hsn] at hs hsl ⊢
  rw [htn] at ht htl ⊢
  obtain ⟨Y, hY⟩ : ∃ Y, Y = w.alloc (.cells #[.slice aa al ac, .slice fa fl fc, .slice sa sl sc, .slice ta tl tc, .int .i64 pr, .int .i64 st, .bool sy] 25) := ⟨_, rfl⟩
  have hBY : Below w.heap.size w Y := by rw [hY]; exact (Below.refl _ _).alloc (Nat.le_refl _) _
  have z0 : Y.cell? ⟨w.heap.size, 0, none⟩ = some (.slice aa al ac) := by rw [hY]; simp
  have z1 : Y.cell? ⟨w.heap.size, 1, none⟩ = some (.slice fa fl fc) := by rw [hY]; simp
  have z2 : Y.cell? ⟨w.heap.size, 2, none⟩ = some (.slice sa sl sc) := by rw [hY]; simp
  have z3 : Y.cell? ⟨w.heap.size, 3, none⟩ = some (.slice ta tl tc) := by rw [hY]; simp
  have HA := hide (ha.kept hBY)
  have HFs := hide (And.intro (hf.below hBY) (And.intro (hs.below hBY) (ht.below hBY)))
  have HLn := hide (And.intro hfn (And.intro hsn htn))
  have HFt := hide (fits_any (cap := ac) (ha.kept hBY))
  have HBY := hide hBY
  have HZ6 : Hid (Y.cell? ⟨w.heap.size, 6, none⟩ = some (.bool sy) ∧ Y.frozen? ⟨w.heap.size, 6, none⟩ = false) := by show _ ∧ _; rw [hY]; exact ⟨by simp, by unfold World.frozen?; rw [box_at rfl]; rfl⟩ -- z6
  have HZ := hide (And.intro z0 (And.intro z1 (And.intro z2 z3)))
  clear ha hf hs ht hfn hsn htn hBY z1 z2 z3
  cases hfit : fitsP ar with
  | false =>
    rw [hfit] at HFt
    go_enter Try.func3, Try.ntmps3
    go_upto_region 1 with fail
    rw [← hY]
    clear hY
    obtain ⟨bx, hbx⟩ : ∃ bx, w.heap.size = bx := ⟨_, rfl⟩
    rw [hbx] at z0 ⊢
    have HBx := hide hbx
    clear hbx
    go_wp2_with (go_at_call 5; refine HFt.out.mono ?_; rintro e w1 ⟨rfl, h1⟩; have HB1 := hide (HBY.out.trans (h1.mono HBY.out.size)); clear h1)
    go_ret
    exact ⟨rfl, HB1.out⟩
  | true =>
    rw [hfit] at HFt
    have HF := hide hfit
    have h128 := (fits_bounds hfit).1
    clear hfit
    go_enter Try.func3, Try.ntmps3
    go_upto_region 1 with fail
    rw [← hY]
    clear hY
    obtain ⟨bx, hbx⟩ : ∃ bx, w.heap.size = bx := ⟨_, rfl⟩
    rw [hbx] at z0 HZ HZ6 ⊢
    have HBx := hide hbx
    clear hbx
    go_upto_region 3 with (go_at_call 5; refine HFt.out.mono ?_; rintro e w1 ⟨rfl, h1⟩; have HB1 := hide h1; have x0 := kept_cell h1 z0; clear h1)
    go_wp2_with fail
    refine (made_any (HA.out.kept HB1.out) HF.out).mono ?_
    rintro e w2 ⟨p, own, rfl, s2, t2, b2⟩
    have hK2 : Keeps mk0 w2 p own (ar ++ [0]) [lastR ar] 8 := ⟨s2, mayR_iff.2 (by simp only [List.mem_singleton]; rintro r rfl; exact mayLast)⟩
    have hlast : lastR ar = ((al : Int), []) := by unfold lastR; rw [hl]
    rw [hlast] at hK2
    have hY2 : Below Y.heap.size Y w2 := HB1.out.trans (b2.mono HB1.out.size)
    have ret : ∀ k, k < w1.heap.size → own k = none := fun k hk => by
      cases ho : own k with
      | none => rfl
      | some t => exact absurd (t2 k (by rw [ho]; simp)) (by omega)
    have fr : ∀ {a n R}, FreeRows Y (fun _ => none) a n R → FreeRows w2 own a n R := fun h => ((h.below HB1.out).retag ret).turn (A := fun _ => False) (Turn.below b2)
    have HG := hide (And.intro (fr HFs.out.1) (And.intro (fr HFs.out.2.1) (fr HFs.out.2.2)))
    have HK2 := hide hK2
    have HT2 := hide (show TagsFrom own w1.heap.size from t2)
    have HY2 := hide hY2
    have HB2 := hide b2
    have HA2 := hide (HA.out.kept hY2)
    have y0 := kept_cell hY2 HZ.out.1
    have y1 := kept_cell hY2 HZ.out.2.1
    clear s2 t2 b2 hK2 hlast hY2 ret fr HFs HFt x0 z0 HA
    have hq : I64 (al : Int) := ⟨by omega, by omega⟩
    have hn2 : own.lim w2.heap.size := HK2.out.1.lim
    obtain ⟨Z, hZ⟩ : ∃ Z, Z = (w2.alloc (.cells #[.pointer (some ⟨p, 0, none⟩)] 27)).alloc (.cells #[.int .i64 ((al : Int) + 1)] 3) := ⟨_, rfl⟩
    have hBZ : Below w2.heap.size w2 Z := by rw [hZ]; exact ((Below.refl _ w2).alloc (Nat.le_refl _) _).alloc (by simp) _
    have hZs : Z.heap.size = w2.heap.size + 1 + 1 := by rw [hZ]; simp
    have HZ3 : Hid (Z.cell? ⟨w2.heap.size, 0, none⟩ = some (.pointer (some ⟨p, 0, none⟩)) ∧ Z.frozen? ⟨w2.heap.size, 0, none⟩ = false ∧ Z.cell? ⟨w2.heap.size + 1, 0, none⟩ = some (.int .i64 ((al : Int) + 1)) ∧ Z.frozen? ⟨w2.heap.size + 1, 0, none⟩ = false) := by
      show _ ∧ _
      rw [hZ]
      have e1 := heap_alloc_new w2 (.cells #[.pointer (some ⟨p, 0, none⟩)] 27)
      have e2 := heap_alloc_new (w2.alloc (.cells #[.pointer (some ⟨p, 0, none⟩)] 27)) (.cells #[.int .i64 ((al : Int) + 1)] 3)
      have e3 := heap_alloc_old (w2.alloc (.cells #[.pointer (some ⟨p, 0, none⟩)] 27)) (.cells #[.int .i64 ((al : Int) + 1)] 3) (r := w2.heap.size) (by simp)
      rw [e1] at e3
      rw [show (w2.alloc (.cells #[.pointer (some ⟨p, 0, none⟩)] 27)).heap.size = w2.heap.size + 1 from by simp] at e2
      exact ⟨by unfold World.cell?; rw [e3]; rfl, by unfold World.frozen?; rw [e3]; rfl, by unfold World.cell?; rw [e2]; rfl, by unfold World.frozen?; rw [e2]; rfl⟩
    have hTl : (shapeP ar F).length = fl := by unfold shapeP; rw [List.length_map]; exact HLn.out.1
    have HMay := hide (shape_may HF.out F)
    have HLim : Hid (∀ V : World, Below w2.heap.size w2 V → own.lim V.heap.size) := fun V hV kk hkk => Nat.lt_of_lt_of_le (hn2 kk hkk) hV.size
    have HLz : Hid (∀ V : World, Below Z.heap.size Z V → own.lim V.heap.size) := fun V hV => HLim.out V (hBZ.trans (hV.mono hBZ.size))
    have HSh : Hid (∀ V : World, Below Z.heap.size Z V → Calls Try.prog 8 #[.slice aa al ac, .slice fa fl fc] V fun e w' => ∃ v, e = .returned v ∧ MyRows w' own V.heap.size v (shapeP ar F) ∧ Below V.heap.size V w') := fun V hV => shaped_any (HA2.out.kept (hBZ.trans (hV.mono hBZ.size))) HF.out (HG.out.1.below (hBZ.trans (hV.mono hBZ.size))) (HLz.out V hV)
    obtain ⟨T, hT⟩ : ∃ T, shapeP ar F = T := ⟨_, rfl⟩
    rw [hT] at hTl HMay HSh
    have HSc : Hid (∀ V : World, Below Z.heap.size Z V → V.cell? ⟨bx, 0, none⟩ = some (.slice aa al ac) ∧ V.cell? ⟨bx, 1, none⟩ = some (.slice fa fl fc)) := fun V hV => ⟨kept_cell (hBZ.trans (hV.mono hBZ.size)) y0, kept_cell (hBZ.trans (hV.mono hBZ.size)) y1⟩
    have hTle : T.length ≤ fl := by omega
    have HBZ := hide hBZ
    have HZs := hide hZs
    clear hT hTl hBZ hZs hn2
    have y0s := kept_cell ((Below.refl _ w2).alloc (Nat.le_refl _) (.cells #[.pointer (some ⟨p, 0, none⟩)] 27)) y0
    have hjl : (joinP [((al : Int), [])] T).length < 1099511627776 := by have := (joinP_len [((al : Int), [])] T).2; simp only [List.length_singleton] at this; omega
    go_upto_region 7 with fail
    rw [← hZ]
    clear hZ y0 y1 y0s
    go_cut [5] (fun v wx => ∃ q ja n jc, v = .pointer (some ⟨q, 0, none⟩) ∧ (joinP [((al : Int), [])] T).length = n ∧ Hid (FreeRows wx own ja n (joinP [((al : Int), [])] T)) ∧ Hid (Below Z.heap.size Z wx) ∧ Hid (Z.heap.size ≤ q) ∧ Hid (wx.cell? ⟨q, 0, none⟩ = some (.slice ja n jc) ∧ wx.frozen? ⟨q, 0, none⟩ = false))
    case first =>
      go_region_held3 (fun w' => w'.cell? ⟨bx, 0, none⟩ = some (.slice aa al ac) ∧ w'.cell? ⟨bx, 1, none⟩ = some (.slice fa fl fc))
        (first | exact HSc.out _ (by first | exact HW5.out | exact HW4.out | exact (Below.refl _ Z).drew | exact ((Below.refl _ Z).drew).alloc (by first | exact Nat.le_refl _ | exact HW4.out.size | exact HW5.out.size | (have := HW4.out.size; simp; omega) | (have := HW5.out.size; simp; omega) | (simp; omega) | simp) _ | exact (((Below.refl _ Z).drew).alloc (by first | exact Nat.le_refl _ | exact HW4.out.size | exact HW5.out.size | (have := HW4.out.size; simp; omega) | (have := HW5.out.size; simp; omega) | (simp; omega) | simp) _).alloc (by first | exact Nat.le_refl _ | exact HW4.out.size | exact HW5.out.size | (have := HW4.out.size; simp; omega) | (have := HW5.out.size; simp; omega) | (simp; omega) | simp) _ | exact HW4.out.alloc (by first | exact Nat.le_refl _ | exact HW4.out.size | exact HW5.out.size | (have := HW4.out.size; simp; omega) | (have := HW5.out.size; simp; omega) | (simp; omega) | simp) _ | exact (HW4.out.alloc (by first | exact Nat.le_refl _ | exact HW4.out.size | exact HW5.out.size | (have := HW4.out.size; simp; omega) | (have := HW5.out.size; simp; omega) | (simp; omega) | simp) _).alloc (by first | exact Nat.le_refl _ | exact HW4.out.size | exact HW5.out.size | (have := HW4.out.size; simp; omega) | (have := HW5.out.size; simp; omega) | (simp; omega) | simp) _ | exact HW5.out.alloc (by first | exact Nat.le_refl _ | exact HW4.out.size | exact HW5.out.size | (have := HW4.out.size; simp; omega) | (have := HW5.out.size; simp; omega) | (simp; omega) | simp) _ | exact HWs.out) | exact HSc.out _ ((HW5.out.alloc HW5.out.size _).setCell HW5.out.size _) | exact HSc.out _ (HW5.out.setCell (by first | exact Nat.le_refl _ | exact HW4.out.size | omega | (have := HW4.out.size; dsimp only; omega)) _))
        (first
          | (go_at_call 8; refine (HSh.out _ (by first | exact HW5.out | exact HW4.out | exact (Below.refl _ Z).drew | exact ((Below.refl _ Z).drew).alloc (by first | exact Nat.le_refl _ | exact HW4.out.size | exact HW5.out.size | (have := HW4.out.size; simp; omega) | (have := HW5.out.size; simp; omega) | (simp; omega) | simp) _ | exact (((Below.refl _ Z).drew).alloc (by first | exact Nat.le_refl _ | exact HW4.out.size | exact HW5.out.size | (have := HW4.out.size; simp; omega) | (have := HW5.out.size; simp; omega) | (simp; omega) | simp) _).alloc (by first | exact Nat.le_refl _ | exact HW4.out.size | exact HW5.out.size | (have := HW4.out.size; simp; omega) | (have := HW5.out.size; simp; omega) | (simp; omega) | simp) _ | exact HW4.out.alloc (by first | exact Nat.le_refl _ | exact HW4.out.size | exact HW5.out.size | (have := HW4.out.size; simp; omega) | (have := HW5.out.size; simp; omega) | (simp; omega) | simp) _ | exact (HW4.out.alloc (by first | exact Nat.le_refl _ | exact HW4.out.size | exact HW5.out.size | (have := HW4.out.size; simp; omega) | (have := HW5.out.size; simp; omega) | (simp; omega) | simp) _).alloc (by first | exact Nat.le_refl _ | exact HW4.out.size | exact HW5.out.size | (have := HW4.out.size; simp; omega) | (have := HW5.out.size; simp; omega) | (simp; omega) | simp) _ | exact HW5.out.alloc (by first | exact Nat.le_refl _ | exact HW4.out.size | exact HW5.out.size | (have := HW4.out.size; simp; omega) | (have := HW5.out.size; simp; omega) | (simp; omega) | simp) _ | exact HWs.out)).mono ?_; rintro e w4 ⟨v4, rfl, m4, h4⟩; obtain ⟨ta4, tc4, rfl, -⟩ := m4.shape; have HM4 := hide m4; have HB4 := hide h4; have HW4 : Hid (Below Z.heap.size Z w4) := (by first | exact ((Below.refl _ Z).drew).trans (h4.mono (by first | exact Nat.le_refl _ | simp)) | exact (((Below.refl _ Z).drew).alloc (Nat.le_refl _) _).trans (h4.mono (by first | (simp; done) | (simp; omega) | fail)) | exact ((((Below.refl _ Z).drew).alloc (Nat.le_refl _) _).alloc (by first | (simp; done) | (simp; omega) | fail) _).trans (h4.mono (by simp; omega))); clear m4 h4; first | (have hbq : w4.heap[Z.heap.size]? = some (.cells #[.slice none 0 0] 23 (0, 0)) := (by first | exact (HB4.out.block _ (by first | (simp; done) | (simp; omega) | fail)).trans (box_at (by first | (simp; done) | (simp; omega) | fail)) | exact (HB4.out.block _ (by first | (simp; done) | (simp; omega) | fail)).trans (box_old (by first | (simp; done) | (simp; omega) | fail)) | fail); have HXA := hide hbq; clear hbq) | (have hbq : w4.heap[Z.heap.size + 1]? = some (.cells #[.slice none 0 0] 23 (0, 0)) := (by first | exact (HB4.out.block _ (by first | (simp; done) | (simp; omega) | fail)).trans (box_at (by first | (simp; done) | (simp; omega) | fail)) | exact (HB4.out.block _ (by first | (simp; done) | (simp; omega) | fail)).trans (box_old (by first | (simp; done) | (simp; omega) | fail)) | fail); have HXB := hide hbq; clear hbq) | skip)
          | (go_at_call 7; refine (joined_any (own := own) (R := [((al : Int), [])]) (T := T) (by first | exact (one_at (HLz.out _ ((Below.refl _ Z).drew)) hq (by first | (simp; done) | (simp; omega) | fail)).below HB4.out | exact ((one_at (HLz.out _ ((Below.refl _ Z).drew)) hq (by first | (simp; done) | (simp; omega) | fail)).below HB4.out).below ((Below.refl _ _).alloc (Nat.le_refl _) _) | exact ((one_at (HLz.out _ ((Below.refl _ Z).drew)) hq (by first | (simp; done) | (simp; omega) | fail)).below ((Below.refl _ _).alloc (Nat.le_refl _) _)).below HB4.out | exact (one_at (HLz.out _ (((Below.refl _ Z).drew).alloc (Nat.le_refl _) _)) hq (by first | (simp; done) | (simp; omega) | fail)).below HB4.out | exact (one_at (HLz.out _ HW4.out) hq (by first | (simp; done) | (simp; omega) | fail)) | exact (one_at (HLz.out _ HW4.out) hq (by first | (simp; done) | (simp; omega) | fail)).below ((Below.refl _ _).alloc (Nat.le_refl _) _) | exact (one_at (HLz.out _ (HW4.out.alloc HW4.out.size _)) hq (by first | (simp; done) | (simp; omega) | fail))) (by first | exact HM4.out.free (by omega) | exact (HM4.out.free (by omega)).below ((Below.refl _ _).alloc (Nat.le_refl _) _) | exact ((HM4.out.free (by omega)).below ((Below.refl _ _).alloc (Nat.le_refl _) _)).below ((Below.refl _ _).alloc (Nat.le_refl _) _)) (by first | exact HLz.out _ HW4.out | exact HLz.out _ (HW4.out.alloc HW4.out.size _) | exact HLz.out _ ((HW4.out.alloc HW4.out.size _).alloc (by have := HW4.out.size; simp; omega) _)) (by omega)).mono ?_; rintro e w5 ⟨v5, rfl, m5, h5⟩; obtain ⟨ja, jc, rfl, -⟩ := m5.shape; have HM5 := hide m5; have HB5 := hide h5; have HW5 : Hid (Below Z.heap.size Z w5) := (by first | exact HW4.out.trans (h5.mono HW4.out.size) | exact (HW4.out.alloc HW4.out.size _).trans (h5.mono (by have := HW4.out.size; simp; omega)) | exact ((HW4.out.alloc HW4.out.size _).alloc (by have := HW4.out.size; simp; omega) _).trans (h5.mono (by have := HW4.out.size; simp; omega))); clear m5 h5; first | (have hbq : w5.heap[Z.heap.size]? = some (.cells #[.slice none 0 0] 23 (0, 0)) := (by first | exact (HB5.out.block _ (lt_heap8 HXA.out)).trans HXA.out | exact (HB5.out.block _ (by have := lt_heap8 HXA.out; first | (simp; done) | (simp; omega) | fail)).trans ((heap_alloc_old _ _ (lt_heap8 HXA.out)).trans HXA.out) | fail); have hbc : w5.cell? ⟨Z.heap.size, 0, none⟩ = some (.slice none 0 0) := (by unfold World.cell?; rw [hbq]; rfl); have hbf : w5.frozen? ⟨Z.heap.size, 0, none⟩ = false := (by unfold World.frozen?; rw [hbq]; rfl); have HX5 := hide hbq; clear hbq) | (have hbq : w5.heap[Z.heap.size + 1]? = some (.cells #[.slice none 0 0] 23 (0, 0)) := (by first | exact (HB5.out.block _ (lt_heap8 HXB.out)).trans HXB.out | exact (HB5.out.block _ (by have := lt_heap8 HXB.out; first | (simp; done) | (simp; omega) | fail)).trans ((heap_alloc_old _ _ (lt_heap8 HXB.out)).trans HXB.out) | fail); have hbc : w5.cell? ⟨Z.heap.size + 1, 0, none⟩ = some (.slice none 0 0) := (by unfold World.cell?; rw [hbq]; rfl); have hbf : w5.frozen? ⟨Z.heap.size + 1, 0, none⟩ = false := (by unfold World.frozen?; rw [hbq]; rfl); have HX5 := hide hbq; clear hbq) | (have hbq : w5.heap[w4.heap.size]? = some (.cells #[.slice none 0 0] 23 (0, 0)) := (by first | exact (HB5.out.block _ (by first | (simp; done) | (simp; omega) | fail)).trans (box_at (by first | (simp; done) | (simp; omega) | fail)) | exact (HB5.out.block _ (by first | (simp; done) | (simp; omega) | fail)).trans (box_old (by first | (simp; done) | (simp; omega) | fail)) | fail); have hbc : w5.cell? ⟨w4.heap.size, 0, none⟩ = some (.slice none 0 0) := (by unfold World.cell?; rw [hbq]; rfl); have hbf : w5.frozen? ⟨w4.heap.size, 0, none⟩ = false := (by unfold World.frozen?; rw [hbq]; rfl); have HX5 := hide hbq; clear hbq) | (have hbq : w5.heap[w4.heap.size + 1]? = some (.cells #[.slice none 0 0] 23 (0, 0)) := (by first | exact (HB5.out.block _ (by first | (simp; done) | (simp; omega) | fail)).trans (box_at (by first | (simp; done) | (simp; omega) | fail)) | exact (HB5.out.block _ (by first | (simp; done) | (simp; omega) | fail)).trans (box_old (by first | (simp; done) | (simp; omega) | fail)) | fail); have hbc : w5.cell? ⟨w4.heap.size + 1, 0, none⟩ = some (.slice none 0 0) := (by unfold World.cell?; rw [hbq]; rfl); have hbf : w5.frozen? ⟨w4.heap.size + 1, 0, none⟩ = false := (by unfold World.frozen?; rw [hbq]; rfl); have HX5 := hide hbq; clear hbq) | skip))
      all_goals (go_wp2; go_meet)
      all_goals (first
        | exact ⟨w5.heap.size, ja, _, jc, rfl, rfl, (HM5.out.free hjl).below ((Below.refl _ _).alloc (Nat.le_refl _) _), HW5.out.alloc HW5.out.size _, HW5.out.size, ⟨by simp, by unfold World.frozen?; rw [box_at rfl]; rfl⟩⟩
        | exact ⟨_, ja, _, jc, rfl, rfl, rows_land HX5.out _ (HM5.out.free hjl), HW5.out.setCell (by first | exact Nat.le_refl _ | exact HW4.out.size | (have := HW4.out.size; dsimp only; omega) | fail) _, (by show _ ≤ _; have := HW4.out.size; omega), ⟨by simp [World.cell?_setCell_same, hbc], by rw [World.frozen?_setCell]; exact hbf⟩⟩)
    case rest =>
      obtain ⟨q5, ja, n, jc, rfl, hn, HFw, HB5c, HQ5, HC5⟩ := hcut
      clear HSh HSc hjl
      have hjl := joinP_len [((al : Int), [])] T
      obtain ⟨-, hjm⟩ := add_join (ar ++ [0]) [((al : Int), [])] T HK2.out.2 HMay.out
      have hag := join_again [((al : Int), [])] T
      obtain ⟨W, hW⟩ : ∃ W, joinP [((al : Int), [])] T = W := ⟨_, rfl⟩
      rw [hW] at hn HFw hjl hjm hag
      rw [hn] at hjl
      simp only [List.length_singleton] at hjl
      obtain ⟨hn1, hn2⟩ := hjl
      have HN := hide hn
      have HJm := hide hjm
      have HAg := hide hag
      clear hn hW hjm hag
      have HBc : Hid (Below w2.heap.size w2 wc) := HBZ.out.trans (HB5c.out.mono HBZ.out.size)
      have hT2l : (shapeP ar G).length = sl := by unfold shapeP; rw [List.length_map]; exact HLn.out.2.1
      have HMay2 := hide (shape_may HF.out G)
      have HLc : Hid (∀ V : World, Below wc.heap.size wc V → own.lim V.heap.size) := fun V hV => HLim.out V (HBc.out.trans (hV.mono HBc.out.size))
      have HSh : Hid (∀ V : World, Below wc.heap.size wc V → Calls Try.prog 8 #[.slice aa al ac, .slice sa sl sc] V fun e w' => ∃ v, e = .returned v ∧ MyRows w' own V.heap.size v (shapeP ar G) ∧ Below V.heap.size V w') := fun V hV => shaped_any (HA2.out.kept (HBc.out.trans (hV.mono HBc.out.size))) HF.out (HG.out.2.1.below (HBc.out.trans (hV.mono HBc.out.size))) (HLc.out V hV)
      obtain ⟨T2, hT2⟩ : ∃ T, shapeP ar G = T := ⟨_, rfl⟩
      rw [hT2] at hT2l HMay2 HSh
      have hT2e : T2.length ≤ sl := by omega
      have HYc : Hid (Below Y.heap.size Y wc) := HY2.out.trans (HBc.out.mono HY2.out.size)
      have HSc : Hid (∀ V : World, Below wc.heap.size wc V → V.cell? ⟨q5, 0, none⟩ = some (.slice ja n jc) ∧ V.cell? ⟨bx, 0, none⟩ = some (.slice aa al ac) ∧ V.cell? ⟨bx, 2, none⟩ = some (.slice sa sl sc)) := fun V hV => ⟨kept_cell hV HC5.out.1, kept_cell (HYc.out.trans (hV.mono HYc.out.size)) HZ.out.1, kept_cell (HYc.out.trans (hV.mono HYc.out.size)) HZ.out.2.2.1⟩
      have hjl2 : (joinP W T2).length < 1099511627776 := by have := (joinP_len W T2).2; rw [HN.out] at this; omega
      clear hT2 hT2l
      go_upto_region 8 with fail
      go_cut [6] (fun v wx => ∃ q ka nb kc, v = .pointer (some ⟨q, 0, none⟩) ∧ (joinP W T2).length = nb ∧ Hid (FreeRows wx own ka nb (joinP W T2)) ∧ Hid (Below wc.heap.size wc wx) ∧ Hid (wc.heap.size ≤ q) ∧ Hid (wx.cell? ⟨q, 0, none⟩ = some (.slice ka nb kc) ∧ wx.frozen? ⟨q, 0, none⟩ = false))
      case first =>
        go_region_held3 (fun V => V.cell? ⟨q5, 0, none⟩ = some (.slice ja n jc) ∧ V.cell? ⟨bx, 0, none⟩ = some (.slice aa al ac) ∧ V.cell? ⟨bx, 2, none⟩ = some (.slice sa sl sc))
          (first | exact HSc.out _ (by first | exact HW5.out | exact HW4.out | exact (Below.refl _ wc).drew | exact ((Below.refl _ wc).drew).alloc (by first | exact Nat.le_refl _ | exact HW4.out.size | exact HW5.out.size | (have := HW4.out.size; simp; omega) | (have := HW5.out.size; simp; omega) | (simp; omega) | simp) _ | exact (((Below.refl _ wc).drew).alloc (by first | exact Nat.le_refl _ | exact HW4.out.size | exact HW5.out.size | (have := HW4.out.size; simp; omega) | (have := HW5.out.size; simp; omega) | (simp; omega) | simp) _).alloc (by first | exact Nat.le_refl _ | exact HW4.out.size | exact HW5.out.size | (have := HW4.out.size; simp; omega) | (have := HW5.out.size; simp; omega) | (simp; omega) | simp) _ | exact HW4.out.alloc (by first | exact Nat.le_refl _ | exact HW4.out.size | exact HW5.out.size | (have := HW4.out.size; simp; omega) | (have := HW5.out.size; simp; omega) | (simp; omega) | simp) _ | exact (HW4.out.alloc (by first | exact Nat.le_refl _ | exact HW4.out.size | exact HW5.out.size | (have := HW4.out.size; simp; omega) | (have := HW5.out.size; simp; omega) | (simp; omega) | simp) _).alloc (by first | exact Nat.le_refl _ | exact HW4.out.size | exact HW5.out.size | (have := HW4.out.size; simp; omega) | (have := HW5.out.size; simp; omega) | (simp; omega) | simp) _ | exact HW5.out.alloc (by first | exact Nat.le_refl _ | exact HW4.out.size | exact HW5.out.size | (have := HW4.out.size; simp; omega) | (have := HW5.out.size; simp; omega) | (simp; omega) | simp) _ | exact HWs.out) | exact HSc.out _ ((HW5.out.alloc HW5.out.size _).setCell HW5.out.size _) | exact HSc.out _ (HW5.out.setCell (by first | exact Nat.le_refl _ | exact HW4.out.size | omega | (have := HW4.out.size; dsimp only; omega)) _))
          (first
            | (go_at_call 8; refine (HSh.out _ (by first | exact HW5.out | exact HW4.out | exact (Below.refl _ wc).drew | exact ((Below.refl _ wc).drew).alloc (by first | exact Nat.le_refl _ | exact HW4.out.size | exact HW5.out.size | (have := HW4.out.size; simp; omega) | (have := HW5.out.size; simp; omega) | (simp; omega) | simp) _ | exact (((Below.refl _ wc).drew).alloc (by first | exact Nat.le_refl _ | exact HW4.out.size | exact HW5.out.size | (have := HW4.out.size; simp; omega) | (have := HW5.out.size; simp; omega) | (simp; omega) | simp) _).alloc (by first | exact Nat.le_refl _ | exact HW4.out.size | exact HW5.out.size | (have := HW4.out.size; simp; omega) | (have := HW5.out.size; simp; omega) | (simp; omega) | simp) _ | exact HW4.out.alloc (by first | exact Nat.le_refl _ | exact HW4.out.size | exact HW5.out.size | (have := HW4.out.size; simp; omega) | (have := HW5.out.size; simp; omega) | (simp; omega) | simp) _ | exact (HW4.out.alloc (by first | exact Nat.le_refl _ | exact HW4.out.size | exact HW5.out.size | (have := HW4.out.size; simp; omega) | (have := HW5.out.size; simp; omega) | (simp; omega) | simp) _).alloc (by first | exact Nat.le_refl _ | exact HW4.out.size | exact HW5.out.size | (have := HW4.out.size; simp; omega) | (have := HW5.out.size; simp; omega) | (simp; omega) | simp) _ | exact HW5.out.alloc (by first | exact Nat.le_refl _ | exact HW4.out.size | exact HW5.out.size | (have := HW4.out.size; simp; omega) | (have := HW5.out.size; simp; omega) | (simp; omega) | simp) _ | exact HWs.out)).mono ?_; rintro e w4 ⟨v4, rfl, m4, h4⟩; obtain ⟨ta4, tc4, rfl, -⟩ := m4.shape; have HM4 := hide m4; have HB4 := hide h4; have HW4 : Hid (Below wc.heap.size wc w4) := (by first | exact ((Below.refl _ wc).drew).trans (h4.mono (by first | exact Nat.le_refl _ | simp)) | exact (((Below.refl _ wc).drew).alloc (Nat.le_refl _) _).trans (h4.mono (by simp))); clear m4 h4; first | (have hbq : w4.heap[wc.heap.size]? = some (.cells #[.slice none 0 0] 23 (0, 0)) := (by first | exact (HB4.out.block _ (by first | (simp; done) | (simp; omega) | fail)).trans (box_at (by first | (simp; done) | (simp; omega) | fail)) | fail); have HXA := hide hbq; clear hbq) | skip)
            | (go_at_call 7; refine (joined_any (own := own) (R := W) (T := T2) (by first | exact (HFw.out.below ((Below.refl _ wc).drew)).below HB4.out | exact ((HFw.out.below ((Below.refl _ wc).drew)).below HB4.out).below ((Below.refl _ _).alloc (Nat.le_refl _) _) | exact ((HFw.out.below ((Below.refl _ wc).drew)).below ((Below.refl _ _).alloc (Nat.le_refl _) _)).below HB4.out | exact (HFw.out.below HW4.out) | exact (HFw.out.below HW4.out).below ((Below.refl _ _).alloc (Nat.le_refl _) _)) (by first | exact HM4.out.free (by omega) | exact (HM4.out.free (by omega)).below ((Below.refl _ _).alloc (Nat.le_refl _) _)) (by first | exact HLc.out _ HW4.out | exact HLc.out _ (HW4.out.alloc HW4.out.size _)) (by omega)).mono ?_; rintro e w5 ⟨v5, rfl, m5, h5⟩; obtain ⟨ka, kc, rfl, -⟩ := m5.shape; have HM5 := hide m5; have HB5 := hide h5; have HW5 : Hid (Below wc.heap.size wc w5) := (by first | exact HW4.out.trans (h5.mono HW4.out.size) | exact (HW4.out.alloc HW4.out.size _).trans (h5.mono (by have := HW4.out.size; simp; omega))); clear m5 h5; first | (have hbq : w5.heap[wc.heap.size]? = some (.cells #[.slice none 0 0] 23 (0, 0)) := (by first | exact (HB5.out.block _ (lt_heap8 HXA.out)).trans HXA.out | fail); have hbc : w5.cell? ⟨wc.heap.size, 0, none⟩ = some (.slice none 0 0) := (by unfold World.cell?; rw [hbq]; rfl); have hbf : w5.frozen? ⟨wc.heap.size, 0, none⟩ = false := (by unfold World.frozen?; rw [hbq]; rfl); have HX5 := hide hbq; clear hbq) | (have hbq : w5.heap[w4.heap.size]? = some (.cells #[.slice none 0 0] 23 (0, 0)) := (by first | exact (HB5.out.block _ (by first | (simp; done) | (simp; omega) | fail)).trans (box_at (by first | (simp; done) | (simp; omega) | fail)) | fail); have hbc : w5.cell? ⟨w4.heap.size, 0, none⟩ = some (.slice none 0 0) := (by unfold World.cell?; rw [hbq]; rfl); have hbf : w5.frozen? ⟨w4.heap.size, 0, none⟩ = false := (by unfold World.frozen?; rw [hbq]; rfl); have HX5 := hide hbq; clear hbq) | skip))
        all_goals (go_wp2; go_meet)
        all_goals (first
          | exact ⟨w5.heap.size, ka, _, kc, rfl, rfl, (HM5.out.free hjl2).below ((Below.refl _ _).alloc (Nat.le_refl _) _), HW5.out.alloc HW5.out.size _, HW5.out.size, ⟨by simp, by unfold World.frozen?; rw [box_at rfl]; rfl⟩⟩
          | exact ⟨_, ka, _, kc, rfl, rfl, rows_land HX5.out _ (HM5.out.free hjl2), HW5.out.setCell (by first | exact Nat.le_refl _ | exact HW4.out.size | (have := HW4.out.size; dsimp only; omega) | fail) _, (by show _ ≤ _; have := HW4.out.size; omega), ⟨by simp [World.cell?_setCell_same, hbc], by rw [World.frozen?_setCell]; exact hbf⟩⟩)
      case rest =>
        obtain ⟨q6, ka, nb, kc, rfl, hnb, HFb, HB6, HQ6, HC6⟩ := hcut
        clear hjl2
        have hjl := joinP_len W T2
        obtain ⟨-, hjm⟩ := add_join (ar ++ [0]) W T2 HJm.out HMay2.out
        have HAgB := hide (join_again W T2)
        have HTk := hide (join_take W T2)
        obtain ⟨B, hBd⟩ : ∃ B, joinP W T2 = B := ⟨_, rfl⟩
        rw [hBd] at hjl hjm HAgB HTk HFb hnb
        rw [HN.out] at hjl HTk
        rw [hnb] at hjl
        obtain ⟨hb1, hb2⟩ := hjl
        have HNB := hide hnb
        have HJmB := hide hjm
        have HWf := hide (HFw.out.below HB6.out)
        have HBn : Hid (Below w2.heap.size w2 wc) := HBc.out.trans (HB6.out.mono HBc.out.size)
        have HYn : Hid (Below Y.heap.size Y wc) := HYc.out.trans (HB6.out.mono HYc.out.size)
        have hno : ∀ k, w2.heap.size ≤ k → own k = none := fun k hk => by
          cases ho : own k with
          | none => rfl
          | some t => exact absurd (HK2.out.1.lim k (by rw [ho]; simp)) (by omega)
        have hbx1 : bx < w1.heap.size := Nat.lt_of_lt_of_le (lt_of_cell HZ.out.1) HB1.out.size
        have hbn : own bx = none := by
          cases ho : own bx with
          | none => rfl
          | some t => exact absurd (HT2.out bx (by rw [ho]; simp)) (by omega)
        have hw12 : w1.heap.size ≤ w2.heap.size := HB2.out.size
        have hw2z : w2.heap.size ≤ Z.heap.size := HBZ.out.size
        have hzc := Nat.le_trans HB5c.out.size HB6.out.size
        have hq5 : w2.heap.size ≤ q5 := Nat.le_trans hw2z HQ5.out
        have hq6 : w2.heap.size ≤ q6 := Nat.le_trans hw2z (Nat.le_trans HB5c.out.size HQ6.out)
        have HZc := hide (HB5c.out.trans (HB6.out.mono HB5c.out.size))
        have h9' : TryAt mk0 w1 wc wc p own (ar ++ [0]) [(⟨w2.heap.size, 0, none⟩, .pointer (some ⟨p, 0, none⟩)), (⟨q6, 0, none⟩, .slice ka nb kc), (⟨q5, 0, none⟩, .slice ja n jc), (⟨w2.heap.size + 1, 0, none⟩, .int .i64 ((al : Int) + 1)), (⟨bx, 6, none⟩, .bool sy)] [((al : Int), [])] 8 := by
          refine ⟨own, HK2.out.below HBn.out, HT2.out, HB2.out.trans (HBn.out.mono HB2.out.size), Turn.refl _ _ _, fun x hx => ?_⟩
          simp only [List.mem_cons, List.not_mem_nil, or_false] at hx
          rcases hx with rfl | rfl | rfl | rfl | rfl
          · exact ⟨kept_cell HZc.out HZ3.out.1, hno _ (Nat.le_refl _), by rw [frozen_of (HZc.out.block _ (lt_of_cell HZ3.out.1))]; exact HZ3.out.2.1⟩
          · exact ⟨HC6.out.1, hno _ hq6, HC6.out.2⟩
          · exact ⟨kept_cell HB6.out HC5.out.1, hno _ hq5, by rw [frozen_of (HB6.out.block _ (lt_of_cell HC5.out.1))]; exact HC5.out.2⟩
          · exact ⟨kept_cell HZc.out HZ3.out.2.2.1, hno _ (by dsimp only; omega), by rw [frozen_of (HZc.out.block _ (lt_of_cell HZ3.out.2.2.1))]; exact HZ3.out.2.2.2⟩
          · exact ⟨kept_cell HYn.out HZ6.out.1, hbn, by rw [frozen_of (HYn.out.block _ (lt_of_cell HZ6.out.1))]; exact HZ6.out.2⟩
        have hxq : ∀ x ∈ [((⟨w2.heap.size, 0, none⟩ : Addr), (.pointer (some ⟨p, 0, none⟩) : Value)), (⟨q6, 0, none⟩, .slice ka nb kc), (⟨q5, 0, none⟩, .slice ja n jc), (⟨w2.heap.size + 1, 0, none⟩, .int .i64 ((al : Int) + 1)), (⟨bx, 6, none⟩, .bool sy)], x.1.block < wc.heap.size := fun x hx => lt_of_cell (h9'.cell (a := x.1) (v := x.2) hx)
        obtain ⟨X, hXd⟩ : ∃ X, [((⟨w2.heap.size, 0, none⟩ : Addr), (.pointer (some ⟨p, 0, none⟩) : Value)), (⟨q6, 0, none⟩, .slice ka nb kc), (⟨q5, 0, none⟩, .slice ja n jc), (⟨w2.heap.size + 1, 0, none⟩, .int .i64 ((al : Int) + 1)), (⟨bx, 6, none⟩, .bool sy)] = X := ⟨_, rfl⟩
        have HM1 : Hid ((⟨w2.heap.size, 0, none⟩, .pointer (some ⟨p, 0, none⟩)) ∈ X) := by rw [← hXd]; show _ ∈ _; simp
        have HM2 : Hid ((⟨q6, 0, none⟩, .slice ka nb kc) ∈ X) := by rw [← hXd]; show _ ∈ _; simp
        have HM3 : Hid ((⟨q5, 0, none⟩, .slice ja n jc) ∈ X) := by rw [← hXd]; show _ ∈ _; simp
        have HM4 : Hid ((⟨w2.heap.size + 1, 0, none⟩, .int .i64 ((al : Int) + 1)) ∈ X) := by rw [← hXd]; show _ ∈ _; simp
        have HM5 : Hid ((⟨bx, 6, none⟩, .bool sy) ∈ X) := by rw [← hXd]; show _ ∈ _; simp
        rw [hXd] at h9' hxq
        have H9 := hide h9'
        have HXq := hide hxq
        have hwc1 : w1.heap.size ≤ wc.heap.size := H9.out.bel.size
        have z1 := h9'.cell HM1.out
        have z3 := h9'.cell HM3.out
        have HX := hide (h9'.add (c := jc) (R := W) (n := n) HWf.out HJm.out HN.out (by omega))
        rw [HAg.out, HN.out] at HX
        simp only [List.length_singleton] at HX
        clear h9' hxq hXd hjm hnb hBd HSh HSc HFw hno hbn
        go_wp2_with fail
        clear z1 z3
        refine HX.out.mono ?_
        rintro e w10 ⟨rfl, s10⟩
        have H10 := hide s10
        clear s10 HX H9
        have hmf : ∀ (fn : Fn) (first cap : Array Value) (w : World), (Instr.makeFunc fn first cap).run Try.prog w = .ok (.func fn first cap) w := fun _ _ _ _ => rfl
        have h11 := H10.out.box (.int .i64 0) 3
        have z1 := h11.cell (List.mem_cons_of_mem _ HM1.out)
        have hwl : wc.heap.size ≤ w10.heap.size := by
          have h1 := H10.out
          obtain ⟨_, _, _, _, hU, _⟩ := h1
          exact hU.only.size
        have HX := hide (h11.try_st (bs := w2.heap.size) (bb := q6) (ba := q5) (bl := w2.heap.size + 1) (bx := bx) (ja := ja) (jc := jc) (kc := kc) (fun x hx => by have := HXq.out x hx; omega) hwl (by omega) (by omega) HM1.out HM2.out HM3.out HM4.out HM5.out HFb.out HNB.out HJmB.out HAgB.out HTk.out HN.out (by omega) (by omega) (by omega) (by omega))
        clear h11
        go_wp2_with fail
        clear z1 hmf
        refine HX.out.mono ?_
        rintro e w12 ⟨rfl, s12⟩
        have z1 := s12.cell (List.mem_cons_of_mem _ HM1.out)
        have z2 := s12.cell (List.mem_cons_of_mem _ HM2.out)
        have z3 := s12.cell (List.mem_cons_of_mem _ HM3.out)
        have z4 := s12.cell (List.mem_cons_of_mem _ HM4.out)
        have z5 := s12.cell (List.mem_cons_of_mem _ HM5.out)
        have z6 := s12.cell List.mem_cons_self
        have H12 := hide s12
        clear s12 HX H10
        cases sy with
        | true =>
          have HX := hide (H12.out.holds (c := kc) (pr := al + 1) (n := nb) (by omega) HFb.out HNB.out (by omega))
          rw [show ((al + 1 : Nat) : Int) = (al : Int) + 1 from by omega] at HX
          go_wp2_with fail
          refine HX.out.mono ?_
          rintro e w13 ⟨rfl, s13⟩
          have H13 := hide s13
          clear s13 HX
          go_wp2_with fail
          go_ret
          exact ⟨rfl, HBY.out.trans ((HB1.out.trans (H13.out.bel.mono HB1.out.size)).mono HBY.out.size)⟩
        | false =>
          have HX := hide (H12.out.holds (c := jc) (pr := al + 1) (n := n) (by omega) HWf.out HN.out (by omega))
          rw [show ((al + 1 : Nat) : Int) = (al : Int) + 1 from by omega] at HX
          go_wp2_with fail
          refine HX.out.mono ?_
          rintro e w13 ⟨rfl, s13⟩
          have H13 := hide s13
          clear s13 HX
          go_wp2_with fail
          go_ret
          exact ⟨rfl, HBY.out.trans ((HB1.out.trans (H13.out.bel.mono HB1.out.size)).mono HBY.out.size)⟩
end Go.Proofs.Ytcofoddjcgmmkaa
