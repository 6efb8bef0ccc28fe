/- The document's cut and sentences. -/
import Derived.Test.YtmdhjggijlhhgaaGreatDoorProg
import Derived.Test.YtmdhjggijlhhgaaGreatDoorRTok
namespace Go.Proofs.YtmdhjggijlhhgaaGreatDoor
set_option linter.unusedSimpArgs false
set_option linter.unusedVariables false
open Go.RowKit

theorem Tryz.infoTks : (Tryz.prog.info? 50).map (fun i => (i.zero, i.size, i.bytes)) = some (some (.slice none 0 0), 1, 24) := by kernel_rfl
theorem cut_step_sep {k d : Int} {now : List Tok} {out : List (List Tok)} {t : Tok} {r : List Tok} (h : t.k = k) (hd : depthP d t = 0) : cutF k d now out (t :: r) = cutF k 0 [] (out ++ [now]) r := by
  rw [cutF, if_pos ⟨h, hd⟩, hd]
theorem cut_step_in {k d : Int} {now : List Tok} {out : List (List Tok)} {t : Tok} {r : List Tok} (h : ¬ (t.k = k ∧ depthP d t = 0)) : cutF k d now out (t :: r) = cutF k (depthP d t) (now ++ [t]) out r := by
  rw [cutF, if_neg h]
theorem drop_at {L : List Tok} {j : Nat} {t : Tok} (h : L[j]? = some t) : L.drop j = t :: L.drop (j + 1) := by
  obtain ⟨hj, e⟩ := List.getElem?_eq_some_iff.1 h
  rw [List.drop_eq_getElem_cons hj, e]

set_option maxRecDepth 100000 in
set_option maxHeartbeats 4000000 in
theorem cut_any {w : World} {v : Value} {L : List Tok} (k : Int) (h : Has elTok w v L) (hL : L.length ≤ 100000) :
    Calls Tryz.prog 32 #[v, .int .i64 k] w fun e w' => ∃ tv, e = .returned tv ∧ ∃ ps, Grow elTL 50 w.heap.size w' tv ps ∧ ps.map Prod.snd = cutF k 0 [] [] L ∧ Below w.heap.size w w' := by
  obtain ⟨la, lc, rfl, -⟩ := h.shape
  obtain ⟨n, hn⟩ : ∃ n, n = L.length := ⟨_, rfl⟩
  rw [← hn] at hL ⊢
  have HN := hide hn
  have HL := hide h
  obtain ⟨Rs, hRs⟩ : ∃ Rs, cutF k 0 [] [] L = Rs := ⟨_, rfl⟩
  rw [hRs]
  have HR0 : Hid (cutF k 0 [] ([] : List (Value × List Tok)).unzip.2 (L.drop 0) = Rs) := hRs
  clear h hn hRs
  go_enter Tryz.func32, Tryz.ntmps32
  go_wp2
  go_loopw [5, 6, 7, 12] (fun ov nv dv i wl => ∃ (j : Nat) (d : Int) (now : List Tok) (ps : List (Value × List Tok)) (wB : World), j ≤ n ∧ i = .int .i64 j ∧ dv = .int .i64 d ∧ -(j : Int) ≤ d ∧ d ≤ j ∧ now.length ≤ j ∧ ps.length ≤ j ∧ Hid (cutF k d now (ps.map Prod.snd) (L.drop j) = Rs) ∧ Hid (Grow elTL 50 w.heap.size wB ov ps) ∧ Hid (Below w.heap.size w wB) ∧ Hid (Below wB.heap.size wB wl) ∧ Hid (Grow elTok 85 wB.heap.size wl nv now)) (fun _ _ _ i _ => n - (intOf i).toNat)
  case atStart => exact ⟨0, 0, [], [], w, by omega, rfl, rfl, by omega, by omega, by simp, by simp, HR0, Grow.nil _ _ _ _, Below.refl _ _, Below.refl _ _, Grow.nil _ _ _ _⟩
  case round =>
    clear HR0
    obtain ⟨j, d, now, ps, wB, hj, rfl, rfl, hd0, hd1, hnl, hpl, HR, HG, HwB, HB, HNw⟩ := hrel
    obtain ⟨oa, oc, rfl, -⟩ := HG.out.shape
    obtain ⟨na, nc, rfl, -⟩ := HNw.out.shape
    have HBw := hide (belowt2 HwB.out HB.out)
    by_cases hlt : j < n
    · have hi : (j : Int) < (n : Int) := by omega
      have hi0 : (0 : Int) ≤ (j : Int) := by omega
      obtain ⟨t, ht⟩ : ∃ t, L[j]? = some t := ⟨_, List.getElem?_eq_getElem (by rw [← HN.out]; exact hlt)⟩
      have HOk := hide (HL.out.ok (List.mem_of_getElem? ht))
      obtain ⟨b2, o2, rfl, -, -, hr2⟩ := HL.out.row (by rw [← HN.out]; omega)
      have y0 := kept_cell HBw.out (hr2 j _ ht 0 _ rfl)
      have y1 := kept_cell HBw.out (hr2 j _ ht 1 _ rfl)
      have y2 := kept_cell HBw.out (hr2 j _ ht 2 _ rfl)
      have y3 := kept_cell HBw.out (hr2 j _ ht 3 _ rfl)
      have y4 := kept_cell HBw.out (hr2 j _ ht 4 _ rfl)
      have y5 := kept_cell HBw.out (hr2 j _ ht 5 _ rfl)
      simp only [elTok, Nat.add_zero] at y0 y1 y2 y3 y4 y5
      have hR := HR.out
      rw [drop_at ht] at hR
      have HRt := hide hR
      clear hr2 ht hR HR
      by_cases h5 : t.k = 5
      · have e5 : (t.k == 5) = true := by simpa using h5
        have e6 : (t.k == 6) = false := by rw [h5]; rfl
        have HDp : Hid (depthP d t = d + 1) := by show _ = _; simp [depthP, h5]
        clear h5
        by_cases hk : t.k = k
        · have ek : (t.k == k) = true := by simpa using hk
          by_cases hz : d + 1 = 0
          · have HSep : Hid (t.k = k ∧ depthP d t = 0) := ⟨hk, by rw [HDp.out]; exact hz⟩
            have HDz := hide hz
            have ez : (d + 1 == 0) = true := by simpa using hz
            clear hk hz
            clear HDp
            have HRn : Hid (cutF k 0 [] ((ps ++ [((.slice na now.length nc : Value), now)]).map Prod.snd) (L.drop (j + 1)) = Rs) := by
              show _ = _
              rw [List.map_append, List.map_singleton, ← HRt.out]; exact (cut_step_sep HSep.out.1 HSep.out.2).symm
            have HG2 := hide ((HG.out.kept HB.out).kept (belowt2 (belowA wr (.cells #[.int .i64 t.k, .string t.t, .int .i64 t.n, .int .i64 t.op, .int .i64 (t.off : Int), .int .i64 (t.en : Int)] 85)) (belowA (wr.alloc (.cells #[.int .i64 t.k, .string t.t, .int .i64 t.n, .int .i64 t.op, .int .i64 (t.off : Int), .int .i64 (t.en : Int)] 85)) (.cells #[.slice na now.length nc] 50))))
            have HEl : Hid (elTL.ok ((wr.alloc (.cells #[.int .i64 t.k, .string t.t, .int .i64 t.n, .int .i64 t.op, .int .i64 (t.off : Int), .int .i64 (t.en : Int)] 85)).alloc (.cells #[.slice na now.length nc] 50)) (fun b => w.heap.size ≤ b ∧ (Value.slice oa ps.length oc).ownBlock ≠ some b) (.slice na now.length nc, now)) :=
              HG.out.behind HwB.out.size elTL (x := ((.slice na now.length nc : Value), now)) ((HNw.out.new (by omega)).move fun b hb hF => ⟨hF, (belowt2 (belowA wr (.cells #[.int .i64 t.k, .string t.t, .int .i64 t.n, .int .i64 t.op, .int .i64 (t.off : Int), .int .i64 (t.en : Int)] 85)) (belowA (wr.alloc (.cells #[.int .i64 t.k, .string t.t, .int .i64 t.n, .int .i64 t.op, .int .i64 (t.off : Int), .int .i64 (t.en : Int)] 85)) (.cells #[.slice na now.length nc] 50))).block b hb⟩)
            have HSz : Hid (w.heap.size ≤ ((wr.alloc (.cells #[.int .i64 t.k, .string t.t, .int .i64 t.n, .int .i64 t.op, .int .i64 (t.off : Int), .int .i64 (t.en : Int)] 85)).alloc (.cells #[.slice na now.length nc] 50)).heap.size) := by show _ ≤ _; have := HBw.out.size; simp; omega
            have HW2 := hide (belowt2 HBw.out (belowt2 (belowA wr (.cells #[.int .i64 t.k, .string t.t, .int .i64 t.n, .int .i64 t.op, .int .i64 (t.off : Int), .int .i64 (t.en : Int)] 85)) (belowA (wr.alloc (.cells #[.int .i64 t.k, .string t.t, .int .i64 t.n, .int .i64 t.op, .int .i64 (t.off : Int), .int .i64 (t.en : Int)] 85)) (.cells #[.slice na now.length nc] 50))))
            go_wp2_with (at_builtin; obtain ⟨i0, hi0', hz0, hz1, hz2⟩ := info_parts Tryz.infoTks; refine wpList_push (w0 := w) elTL rfl _ _ 64 rfl w.heap.size 50 i0 _ 24 Tryz.underlying64 hi0' hz0 hz1 hz2 rfl (by decide) _ ps ps.length rfl rfl HG2.out (.slice na now.length nc, now) (wr.heap.size + 1) 1 rfl (fun j u hu => by have := new_cells (w := (wr.alloc (.cells #[.int .i64 t.k, .string t.t, .int .i64 t.n, .int .i64 t.op, .int .i64 (t.off : Int), .int .i64 (t.en : Int)] 85))) (cs := #[.slice na now.length nc]) (t := 50) j u hu; simpa using this) HEl.out (by omega) HW2.out HSz.out ?_; intro g7 c7 W7 HG7 HB7 HGr7; clear HG2 HEl HSz HW2 HGr7 hi0' hz0 hz1 hz2)
            go_roundw
            case rel => exact ⟨j + 1, 0, [], ps ++ [((.slice na now.length nc : Value), now)], W7, by omega, by go_num, by rw [HDz.out], by omega, by omega, by simp, by simp; omega, HRn, HG7, HB7, Below.refl _ _, Grow.nil _ _ _ _⟩
            case measure => simp [intOf]; omega
          · have HSep : Hid (¬ (t.k = k ∧ depthP d t = 0)) := fun h => hz (by rw [← HDp.out]; exact h.2)
            have ez : (d + 1 == 0) = false := by simpa using hz
            clear hk hz
            have HRn : Hid (cutF k (d + 1) (now ++ [t]) (ps.map Prod.snd) (L.drop (j + 1)) = Rs) := by
              show _ = _
              rw [← HRt.out, cut_step_in HSep.out, HDp.out]
            have HN2 := hide (HNw.out.kept (belowt2 (belowA wr (.cells #[.int .i64 t.k, .string t.t, .int .i64 t.n, .int .i64 t.op, .int .i64 (t.off : Int), .int .i64 (t.en : Int)] 85)) (belowA (wr.alloc (.cells #[.int .i64 t.k, .string t.t, .int .i64 t.n, .int .i64 t.op, .int .i64 (t.off : Int), .int .i64 (t.en : Int)] 85)) (.cells #[.int .i64 t.k, .string t.t, .int .i64 t.n, .int .i64 t.op, .int .i64 (t.off : Int), .int .i64 (t.en : Int)] 85))))
            have HSz : Hid (wB.heap.size ≤ ((wr.alloc (.cells #[.int .i64 t.k, .string t.t, .int .i64 t.n, .int .i64 t.op, .int .i64 (t.off : Int), .int .i64 (t.en : Int)] 85)).alloc (.cells #[.int .i64 t.k, .string t.t, .int .i64 t.n, .int .i64 t.op, .int .i64 (t.off : Int), .int .i64 (t.en : Int)] 85)).heap.size) := by show _ ≤ _; have := HB.out.size; simp; omega
            have HW2 := hide (belowt2 HB.out (belowt2 (belowA wr (.cells #[.int .i64 t.k, .string t.t, .int .i64 t.n, .int .i64 t.op, .int .i64 (t.off : Int), .int .i64 (t.en : Int)] 85)) (belowA (wr.alloc (.cells #[.int .i64 t.k, .string t.t, .int .i64 t.n, .int .i64 t.op, .int .i64 (t.off : Int), .int .i64 (t.en : Int)] 85)) (.cells #[.int .i64 t.k, .string t.t, .int .i64 t.n, .int .i64 t.op, .int .i64 (t.off : Int), .int .i64 (t.en : Int)] 85))))
            go_wp2_with (at_builtin; obtain ⟨i0, hi0', hz0, hz1, hz2⟩ := info_parts Tryz.infoTok; refine wpList_push (w0 := wB) elTok rfl _ _ 50 rfl wB.heap.size 85 i0 _ 56 Tryz.underlying50 hi0' hz0 hz1 hz2 rfl (by decide) _ now now.length rfl rfl HN2.out t (wr.heap.size + 1) 1 rfl (fun j u hu => by have := new_cells (w := (wr.alloc (.cells #[.int .i64 t.k, .string t.t, .int .i64 t.n, .int .i64 t.op, .int .i64 (t.off : Int), .int .i64 (t.en : Int)] 85))) (cs := #[.int .i64 t.k, .string t.t, .int .i64 t.n, .int .i64 t.op, .int .i64 (t.off : Int), .int .i64 (t.en : Int)]) (t := 85) j u hu; simpa using this) HOk.out (by omega) HW2.out HSz.out ?_; intro g7 c7 W7 HG7 HB7 HGr7; clear HN2 HSz HW2 HGr7 hi0' hz0 hz1 hz2)
            go_roundw
            case rel => exact ⟨j + 1, d + 1, now ++ [t], ps, wB, by omega, by go_num, rfl, by omega, by omega, by simp; omega, by omega, HRn, HG, HwB, HB7, HG7⟩
            case measure => simp [intOf]; omega
        · have HSep : Hid (¬ (t.k = k ∧ depthP d t = 0)) := fun h => hk h.1
          have ek : (t.k == k) = false := by simpa using hk
          clear hk
          have HRn : Hid (cutF k (d + 1) (now ++ [t]) (ps.map Prod.snd) (L.drop (j + 1)) = Rs) := by
            show _ = _
            rw [← HRt.out, cut_step_in HSep.out, HDp.out]
          have HN2 := hide (HNw.out.kept (belowt2 (belowA wr (.cells #[.int .i64 t.k, .string t.t, .int .i64 t.n, .int .i64 t.op, .int .i64 (t.off : Int), .int .i64 (t.en : Int)] 85)) (belowA (wr.alloc (.cells #[.int .i64 t.k, .string t.t, .int .i64 t.n, .int .i64 t.op, .int .i64 (t.off : Int), .int .i64 (t.en : Int)] 85)) (.cells #[.int .i64 t.k, .string t.t, .int .i64 t.n, .int .i64 t.op, .int .i64 (t.off : Int), .int .i64 (t.en : Int)] 85))))
          have HSz : Hid (wB.heap.size ≤ ((wr.alloc (.cells #[.int .i64 t.k, .string t.t, .int .i64 t.n, .int .i64 t.op, .int .i64 (t.off : Int), .int .i64 (t.en : Int)] 85)).alloc (.cells #[.int .i64 t.k, .string t.t, .int .i64 t.n, .int .i64 t.op, .int .i64 (t.off : Int), .int .i64 (t.en : Int)] 85)).heap.size) := by show _ ≤ _; have := HB.out.size; simp; omega
          have HW2 := hide (belowt2 HB.out (belowt2 (belowA wr (.cells #[.int .i64 t.k, .string t.t, .int .i64 t.n, .int .i64 t.op, .int .i64 (t.off : Int), .int .i64 (t.en : Int)] 85)) (belowA (wr.alloc (.cells #[.int .i64 t.k, .string t.t, .int .i64 t.n, .int .i64 t.op, .int .i64 (t.off : Int), .int .i64 (t.en : Int)] 85)) (.cells #[.int .i64 t.k, .string t.t, .int .i64 t.n, .int .i64 t.op, .int .i64 (t.off : Int), .int .i64 (t.en : Int)] 85))))
          go_wp2_with (at_builtin; obtain ⟨i0, hi0', hz0, hz1, hz2⟩ := info_parts Tryz.infoTok; refine wpList_push (w0 := wB) elTok rfl _ _ 50 rfl wB.heap.size 85 i0 _ 56 Tryz.underlying50 hi0' hz0 hz1 hz2 rfl (by decide) _ now now.length rfl rfl HN2.out t (wr.heap.size + 1) 1 rfl (fun j u hu => by have := new_cells (w := (wr.alloc (.cells #[.int .i64 t.k, .string t.t, .int .i64 t.n, .int .i64 t.op, .int .i64 (t.off : Int), .int .i64 (t.en : Int)] 85))) (cs := #[.int .i64 t.k, .string t.t, .int .i64 t.n, .int .i64 t.op, .int .i64 (t.off : Int), .int .i64 (t.en : Int)]) (t := 85) j u hu; simpa using this) HOk.out (by omega) HW2.out HSz.out ?_; intro g7 c7 W7 HG7 HB7 HGr7; clear HN2 HSz HW2 HGr7 hi0' hz0 hz1 hz2)
          go_roundw
          case rel => exact ⟨j + 1, d + 1, now ++ [t], ps, wB, by omega, by go_num, rfl, by omega, by omega, by simp; omega, by omega, HRn, HG, HwB, HB7, HG7⟩
          case measure => simp [intOf]; omega
      · have e5 : (t.k == 5) = false := by simpa using h5
        by_cases h6 : t.k = 6
        · have e6 : (t.k == 6) = true := by simpa using h6
          have HDp : Hid (depthP d t = d - 1) := by show _ = _; simp [depthP, h6]
          clear h5 h6
          by_cases hk : t.k = k
          · have ek : (t.k == k) = true := by simpa using hk
            by_cases hz : d - 1 = 0
            · have HSep : Hid (t.k = k ∧ depthP d t = 0) := ⟨hk, by rw [HDp.out]; exact hz⟩
              have HDz := hide hz
              have ez : (d - 1 == 0) = true := by simpa using hz
              clear hk hz
              clear HDp
              have HRn : Hid (cutF k 0 [] ((ps ++ [((.slice na now.length nc : Value), now)]).map Prod.snd) (L.drop (j + 1)) = Rs) := by
                show _ = _
                rw [List.map_append, List.map_singleton, ← HRt.out]; exact (cut_step_sep HSep.out.1 HSep.out.2).symm
              have HG2 := hide ((HG.out.kept HB.out).kept (belowt2 (belowA wr (.cells #[.int .i64 t.k, .string t.t, .int .i64 t.n, .int .i64 t.op, .int .i64 (t.off : Int), .int .i64 (t.en : Int)] 85)) (belowA (wr.alloc (.cells #[.int .i64 t.k, .string t.t, .int .i64 t.n, .int .i64 t.op, .int .i64 (t.off : Int), .int .i64 (t.en : Int)] 85)) (.cells #[.slice na now.length nc] 50))))
              have HEl : Hid (elTL.ok ((wr.alloc (.cells #[.int .i64 t.k, .string t.t, .int .i64 t.n, .int .i64 t.op, .int .i64 (t.off : Int), .int .i64 (t.en : Int)] 85)).alloc (.cells #[.slice na now.length nc] 50)) (fun b => w.heap.size ≤ b ∧ (Value.slice oa ps.length oc).ownBlock ≠ some b) (.slice na now.length nc, now)) :=
                HG.out.behind HwB.out.size elTL (x := ((.slice na now.length nc : Value), now)) ((HNw.out.new (by omega)).move fun b hb hF => ⟨hF, (belowt2 (belowA wr (.cells #[.int .i64 t.k, .string t.t, .int .i64 t.n, .int .i64 t.op, .int .i64 (t.off : Int), .int .i64 (t.en : Int)] 85)) (belowA (wr.alloc (.cells #[.int .i64 t.k, .string t.t, .int .i64 t.n, .int .i64 t.op, .int .i64 (t.off : Int), .int .i64 (t.en : Int)] 85)) (.cells #[.slice na now.length nc] 50))).block b hb⟩)
              have HSz : Hid (w.heap.size ≤ ((wr.alloc (.cells #[.int .i64 t.k, .string t.t, .int .i64 t.n, .int .i64 t.op, .int .i64 (t.off : Int), .int .i64 (t.en : Int)] 85)).alloc (.cells #[.slice na now.length nc] 50)).heap.size) := by show _ ≤ _; have := HBw.out.size; simp; omega
              have HW2 := hide (belowt2 HBw.out (belowt2 (belowA wr (.cells #[.int .i64 t.k, .string t.t, .int .i64 t.n, .int .i64 t.op, .int .i64 (t.off : Int), .int .i64 (t.en : Int)] 85)) (belowA (wr.alloc (.cells #[.int .i64 t.k, .string t.t, .int .i64 t.n, .int .i64 t.op, .int .i64 (t.off : Int), .int .i64 (t.en : Int)] 85)) (.cells #[.slice na now.length nc] 50))))
              go_wp2_with (at_builtin; obtain ⟨i0, hi0', hz0, hz1, hz2⟩ := info_parts Tryz.infoTks; refine wpList_push (w0 := w) elTL rfl _ _ 64 rfl w.heap.size 50 i0 _ 24 Tryz.underlying64 hi0' hz0 hz1 hz2 rfl (by decide) _ ps ps.length rfl rfl HG2.out (.slice na now.length nc, now) (wr.heap.size + 1) 1 rfl (fun j u hu => by have := new_cells (w := (wr.alloc (.cells #[.int .i64 t.k, .string t.t, .int .i64 t.n, .int .i64 t.op, .int .i64 (t.off : Int), .int .i64 (t.en : Int)] 85))) (cs := #[.slice na now.length nc]) (t := 50) j u hu; simpa using this) HEl.out (by omega) HW2.out HSz.out ?_; intro g7 c7 W7 HG7 HB7 HGr7; clear HG2 HEl HSz HW2 HGr7 hi0' hz0 hz1 hz2)
              go_roundw
              case rel => exact ⟨j + 1, 0, [], ps ++ [((.slice na now.length nc : Value), now)], W7, by omega, by go_num, by rw [HDz.out], by omega, by omega, by simp, by simp; omega, HRn, HG7, HB7, Below.refl _ _, Grow.nil _ _ _ _⟩
              case measure => simp [intOf]; omega
            · have HSep : Hid (¬ (t.k = k ∧ depthP d t = 0)) := fun h => hz (by rw [← HDp.out]; exact h.2)
              have ez : (d - 1 == 0) = false := by simpa using hz
              clear hk hz
              have HRn : Hid (cutF k (d - 1) (now ++ [t]) (ps.map Prod.snd) (L.drop (j + 1)) = Rs) := by
                show _ = _
                rw [← HRt.out, cut_step_in HSep.out, HDp.out]
              have HN2 := hide (HNw.out.kept (belowt2 (belowA wr (.cells #[.int .i64 t.k, .string t.t, .int .i64 t.n, .int .i64 t.op, .int .i64 (t.off : Int), .int .i64 (t.en : Int)] 85)) (belowA (wr.alloc (.cells #[.int .i64 t.k, .string t.t, .int .i64 t.n, .int .i64 t.op, .int .i64 (t.off : Int), .int .i64 (t.en : Int)] 85)) (.cells #[.int .i64 t.k, .string t.t, .int .i64 t.n, .int .i64 t.op, .int .i64 (t.off : Int), .int .i64 (t.en : Int)] 85))))
              have HSz : Hid (wB.heap.size ≤ ((wr.alloc (.cells #[.int .i64 t.k, .string t.t, .int .i64 t.n, .int .i64 t.op, .int .i64 (t.off : Int), .int .i64 (t.en : Int)] 85)).alloc (.cells #[.int .i64 t.k, .string t.t, .int .i64 t.n, .int .i64 t.op, .int .i64 (t.off : Int), .int .i64 (t.en : Int)] 85)).heap.size) := by show _ ≤ _; have := HB.out.size; simp; omega
              have HW2 := hide (belowt2 HB.out (belowt2 (belowA wr (.cells #[.int .i64 t.k, .string t.t, .int .i64 t.n, .int .i64 t.op, .int .i64 (t.off : Int), .int .i64 (t.en : Int)] 85)) (belowA (wr.alloc (.cells #[.int .i64 t.k, .string t.t, .int .i64 t.n, .int .i64 t.op, .int .i64 (t.off : Int), .int .i64 (t.en : Int)] 85)) (.cells #[.int .i64 t.k, .string t.t, .int .i64 t.n, .int .i64 t.op, .int .i64 (t.off : Int), .int .i64 (t.en : Int)] 85))))
              go_wp2_with (at_builtin; obtain ⟨i0, hi0', hz0, hz1, hz2⟩ := info_parts Tryz.infoTok; refine wpList_push (w0 := wB) elTok rfl _ _ 50 rfl wB.heap.size 85 i0 _ 56 Tryz.underlying50 hi0' hz0 hz1 hz2 rfl (by decide) _ now now.length rfl rfl HN2.out t (wr.heap.size + 1) 1 rfl (fun j u hu => by have := new_cells (w := (wr.alloc (.cells #[.int .i64 t.k, .string t.t, .int .i64 t.n, .int .i64 t.op, .int .i64 (t.off : Int), .int .i64 (t.en : Int)] 85))) (cs := #[.int .i64 t.k, .string t.t, .int .i64 t.n, .int .i64 t.op, .int .i64 (t.off : Int), .int .i64 (t.en : Int)]) (t := 85) j u hu; simpa using this) HOk.out (by omega) HW2.out HSz.out ?_; intro g7 c7 W7 HG7 HB7 HGr7; clear HN2 HSz HW2 HGr7 hi0' hz0 hz1 hz2)
              go_roundw
              case rel => exact ⟨j + 1, d - 1, now ++ [t], ps, wB, by omega, by go_num, rfl, by omega, by omega, by simp; omega, by omega, HRn, HG, HwB, HB7, HG7⟩
              case measure => simp [intOf]; omega
          · have HSep : Hid (¬ (t.k = k ∧ depthP d t = 0)) := fun h => hk h.1
            have ek : (t.k == k) = false := by simpa using hk
            clear hk
            have HRn : Hid (cutF k (d - 1) (now ++ [t]) (ps.map Prod.snd) (L.drop (j + 1)) = Rs) := by
              show _ = _
              rw [← HRt.out, cut_step_in HSep.out, HDp.out]
            have HN2 := hide (HNw.out.kept (belowt2 (belowA wr (.cells #[.int .i64 t.k, .string t.t, .int .i64 t.n, .int .i64 t.op, .int .i64 (t.off : Int), .int .i64 (t.en : Int)] 85)) (belowA (wr.alloc (.cells #[.int .i64 t.k, .string t.t, .int .i64 t.n, .int .i64 t.op, .int .i64 (t.off : Int), .int .i64 (t.en : Int)] 85)) (.cells #[.int .i64 t.k, .string t.t, .int .i64 t.n, .int .i64 t.op, .int .i64 (t.off : Int), .int .i64 (t.en : Int)] 85))))
            have HSz : Hid (wB.heap.size ≤ ((wr.alloc (.cells #[.int .i64 t.k, .string t.t, .int .i64 t.n, .int .i64 t.op, .int .i64 (t.off : Int), .int .i64 (t.en : Int)] 85)).alloc (.cells #[.int .i64 t.k, .string t.t, .int .i64 t.n, .int .i64 t.op, .int .i64 (t.off : Int), .int .i64 (t.en : Int)] 85)).heap.size) := by show _ ≤ _; have := HB.out.size; simp; omega
            have HW2 := hide (belowt2 HB.out (belowt2 (belowA wr (.cells #[.int .i64 t.k, .string t.t, .int .i64 t.n, .int .i64 t.op, .int .i64 (t.off : Int), .int .i64 (t.en : Int)] 85)) (belowA (wr.alloc (.cells #[.int .i64 t.k, .string t.t, .int .i64 t.n, .int .i64 t.op, .int .i64 (t.off : Int), .int .i64 (t.en : Int)] 85)) (.cells #[.int .i64 t.k, .string t.t, .int .i64 t.n, .int .i64 t.op, .int .i64 (t.off : Int), .int .i64 (t.en : Int)] 85))))
            go_wp2_with (at_builtin; obtain ⟨i0, hi0', hz0, hz1, hz2⟩ := info_parts Tryz.infoTok; refine wpList_push (w0 := wB) elTok rfl _ _ 50 rfl wB.heap.size 85 i0 _ 56 Tryz.underlying50 hi0' hz0 hz1 hz2 rfl (by decide) _ now now.length rfl rfl HN2.out t (wr.heap.size + 1) 1 rfl (fun j u hu => by have := new_cells (w := (wr.alloc (.cells #[.int .i64 t.k, .string t.t, .int .i64 t.n, .int .i64 t.op, .int .i64 (t.off : Int), .int .i64 (t.en : Int)] 85))) (cs := #[.int .i64 t.k, .string t.t, .int .i64 t.n, .int .i64 t.op, .int .i64 (t.off : Int), .int .i64 (t.en : Int)]) (t := 85) j u hu; simpa using this) HOk.out (by omega) HW2.out HSz.out ?_; intro g7 c7 W7 HG7 HB7 HGr7; clear HN2 HSz HW2 HGr7 hi0' hz0 hz1 hz2)
            go_roundw
            case rel => exact ⟨j + 1, d - 1, now ++ [t], ps, wB, by omega, by go_num, rfl, by omega, by omega, by simp; omega, by omega, HRn, HG, HwB, HB7, HG7⟩
            case measure => simp [intOf]; omega
        · have e6 : (t.k == 6) = false := by simpa using h6
          have HDp : Hid (depthP d t = d) := by show _ = _; simp [depthP, h5, h6]
          clear h5 h6
          by_cases hk : t.k = k
          · have ek : (t.k == k) = true := by simpa using hk
            by_cases hz : d = 0
            · have HSep : Hid (t.k = k ∧ depthP d t = 0) := ⟨hk, by rw [HDp.out]; exact hz⟩
              have HDz := hide hz
              have ez : (d == 0) = true := by simpa using hz
              clear hk hz
              clear HDp
              have HRn : Hid (cutF k 0 [] ((ps ++ [((.slice na now.length nc : Value), now)]).map Prod.snd) (L.drop (j + 1)) = Rs) := by
                show _ = _
                rw [List.map_append, List.map_singleton, ← HRt.out]; exact (cut_step_sep HSep.out.1 HSep.out.2).symm
              have HG2 := hide ((HG.out.kept HB.out).kept (belowt2 (belowA wr (.cells #[.int .i64 t.k, .string t.t, .int .i64 t.n, .int .i64 t.op, .int .i64 (t.off : Int), .int .i64 (t.en : Int)] 85)) (belowA (wr.alloc (.cells #[.int .i64 t.k, .string t.t, .int .i64 t.n, .int .i64 t.op, .int .i64 (t.off : Int), .int .i64 (t.en : Int)] 85)) (.cells #[.slice na now.length nc] 50))))
              have HEl : Hid (elTL.ok ((wr.alloc (.cells #[.int .i64 t.k, .string t.t, .int .i64 t.n, .int .i64 t.op, .int .i64 (t.off : Int), .int .i64 (t.en : Int)] 85)).alloc (.cells #[.slice na now.length nc] 50)) (fun b => w.heap.size ≤ b ∧ (Value.slice oa ps.length oc).ownBlock ≠ some b) (.slice na now.length nc, now)) :=
                HG.out.behind HwB.out.size elTL (x := ((.slice na now.length nc : Value), now)) ((HNw.out.new (by omega)).move fun b hb hF => ⟨hF, (belowt2 (belowA wr (.cells #[.int .i64 t.k, .string t.t, .int .i64 t.n, .int .i64 t.op, .int .i64 (t.off : Int), .int .i64 (t.en : Int)] 85)) (belowA (wr.alloc (.cells #[.int .i64 t.k, .string t.t, .int .i64 t.n, .int .i64 t.op, .int .i64 (t.off : Int), .int .i64 (t.en : Int)] 85)) (.cells #[.slice na now.length nc] 50))).block b hb⟩)
              have HSz : Hid (w.heap.size ≤ ((wr.alloc (.cells #[.int .i64 t.k, .string t.t, .int .i64 t.n, .int .i64 t.op, .int .i64 (t.off : Int), .int .i64 (t.en : Int)] 85)).alloc (.cells #[.slice na now.length nc] 50)).heap.size) := by show _ ≤ _; have := HBw.out.size; simp; omega
              have HW2 := hide (belowt2 HBw.out (belowt2 (belowA wr (.cells #[.int .i64 t.k, .string t.t, .int .i64 t.n, .int .i64 t.op, .int .i64 (t.off : Int), .int .i64 (t.en : Int)] 85)) (belowA (wr.alloc (.cells #[.int .i64 t.k, .string t.t, .int .i64 t.n, .int .i64 t.op, .int .i64 (t.off : Int), .int .i64 (t.en : Int)] 85)) (.cells #[.slice na now.length nc] 50))))
              go_wp2_with (at_builtin; obtain ⟨i0, hi0', hz0, hz1, hz2⟩ := info_parts Tryz.infoTks; refine wpList_push (w0 := w) elTL rfl _ _ 64 rfl w.heap.size 50 i0 _ 24 Tryz.underlying64 hi0' hz0 hz1 hz2 rfl (by decide) _ ps ps.length rfl rfl HG2.out (.slice na now.length nc, now) (wr.heap.size + 1) 1 rfl (fun j u hu => by have := new_cells (w := (wr.alloc (.cells #[.int .i64 t.k, .string t.t, .int .i64 t.n, .int .i64 t.op, .int .i64 (t.off : Int), .int .i64 (t.en : Int)] 85))) (cs := #[.slice na now.length nc]) (t := 50) j u hu; simpa using this) HEl.out (by omega) HW2.out HSz.out ?_; intro g7 c7 W7 HG7 HB7 HGr7; clear HG2 HEl HSz HW2 HGr7 hi0' hz0 hz1 hz2)
              go_roundw
              case rel => exact ⟨j + 1, 0, [], ps ++ [((.slice na now.length nc : Value), now)], W7, by omega, by go_num, by rw [HDz.out], by omega, by omega, by simp, by simp; omega, HRn, HG7, HB7, Below.refl _ _, Grow.nil _ _ _ _⟩
              case measure => simp [intOf]; omega
            · have HSep : Hid (¬ (t.k = k ∧ depthP d t = 0)) := fun h => hz (by rw [← HDp.out]; exact h.2)
              have ez : (d == 0) = false := by simpa using hz
              clear hk hz
              have HRn : Hid (cutF k (d) (now ++ [t]) (ps.map Prod.snd) (L.drop (j + 1)) = Rs) := by
                show _ = _
                rw [← HRt.out, cut_step_in HSep.out, HDp.out]
              have HN2 := hide (HNw.out.kept (belowt2 (belowA wr (.cells #[.int .i64 t.k, .string t.t, .int .i64 t.n, .int .i64 t.op, .int .i64 (t.off : Int), .int .i64 (t.en : Int)] 85)) (belowA (wr.alloc (.cells #[.int .i64 t.k, .string t.t, .int .i64 t.n, .int .i64 t.op, .int .i64 (t.off : Int), .int .i64 (t.en : Int)] 85)) (.cells #[.int .i64 t.k, .string t.t, .int .i64 t.n, .int .i64 t.op, .int .i64 (t.off : Int), .int .i64 (t.en : Int)] 85))))
              have HSz : Hid (wB.heap.size ≤ ((wr.alloc (.cells #[.int .i64 t.k, .string t.t, .int .i64 t.n, .int .i64 t.op, .int .i64 (t.off : Int), .int .i64 (t.en : Int)] 85)).alloc (.cells #[.int .i64 t.k, .string t.t, .int .i64 t.n, .int .i64 t.op, .int .i64 (t.off : Int), .int .i64 (t.en : Int)] 85)).heap.size) := by show _ ≤ _; have := HB.out.size; simp; omega
              have HW2 := hide (belowt2 HB.out (belowt2 (belowA wr (.cells #[.int .i64 t.k, .string t.t, .int .i64 t.n, .int .i64 t.op, .int .i64 (t.off : Int), .int .i64 (t.en : Int)] 85)) (belowA (wr.alloc (.cells #[.int .i64 t.k, .string t.t, .int .i64 t.n, .int .i64 t.op, .int .i64 (t.off : Int), .int .i64 (t.en : Int)] 85)) (.cells #[.int .i64 t.k, .string t.t, .int .i64 t.n, .int .i64 t.op, .int .i64 (t.off : Int), .int .i64 (t.en : Int)] 85))))
              go_wp2_with (at_builtin; obtain ⟨i0, hi0', hz0, hz1, hz2⟩ := info_parts Tryz.infoTok; refine wpList_push (w0 := wB) elTok rfl _ _ 50 rfl wB.heap.size 85 i0 _ 56 Tryz.underlying50 hi0' hz0 hz1 hz2 rfl (by decide) _ now now.length rfl rfl HN2.out t (wr.heap.size + 1) 1 rfl (fun j u hu => by have := new_cells (w := (wr.alloc (.cells #[.int .i64 t.k, .string t.t, .int .i64 t.n, .int .i64 t.op, .int .i64 (t.off : Int), .int .i64 (t.en : Int)] 85))) (cs := #[.int .i64 t.k, .string t.t, .int .i64 t.n, .int .i64 t.op, .int .i64 (t.off : Int), .int .i64 (t.en : Int)]) (t := 85) j u hu; simpa using this) HOk.out (by omega) HW2.out HSz.out ?_; intro g7 c7 W7 HG7 HB7 HGr7; clear HN2 HSz HW2 HGr7 hi0' hz0 hz1 hz2)
              go_roundw
              case rel => exact ⟨j + 1, d, now ++ [t], ps, wB, by omega, by go_num, rfl, by omega, by omega, by simp; omega, by omega, HRn, HG, HwB, HB7, HG7⟩
              case measure => simp [intOf]; omega
          · have HSep : Hid (¬ (t.k = k ∧ depthP d t = 0)) := fun h => hk h.1
            have ek : (t.k == k) = false := by simpa using hk
            clear hk
            have HRn : Hid (cutF k (d) (now ++ [t]) (ps.map Prod.snd) (L.drop (j + 1)) = Rs) := by
              show _ = _
              rw [← HRt.out, cut_step_in HSep.out, HDp.out]
            have HN2 := hide (HNw.out.kept (belowt2 (belowA wr (.cells #[.int .i64 t.k, .string t.t, .int .i64 t.n, .int .i64 t.op, .int .i64 (t.off : Int), .int .i64 (t.en : Int)] 85)) (belowA (wr.alloc (.cells #[.int .i64 t.k, .string t.t, .int .i64 t.n, .int .i64 t.op, .int .i64 (t.off : Int), .int .i64 (t.en : Int)] 85)) (.cells #[.int .i64 t.k, .string t.t, .int .i64 t.n, .int .i64 t.op, .int .i64 (t.off : Int), .int .i64 (t.en : Int)] 85))))
            have HSz : Hid (wB.heap.size ≤ ((wr.alloc (.cells #[.int .i64 t.k, .string t.t, .int .i64 t.n, .int .i64 t.op, .int .i64 (t.off : Int), .int .i64 (t.en : Int)] 85)).alloc (.cells #[.int .i64 t.k, .string t.t, .int .i64 t.n, .int .i64 t.op, .int .i64 (t.off : Int), .int .i64 (t.en : Int)] 85)).heap.size) := by show _ ≤ _; have := HB.out.size; simp; omega
            have HW2 := hide (belowt2 HB.out (belowt2 (belowA wr (.cells #[.int .i64 t.k, .string t.t, .int .i64 t.n, .int .i64 t.op, .int .i64 (t.off : Int), .int .i64 (t.en : Int)] 85)) (belowA (wr.alloc (.cells #[.int .i64 t.k, .string t.t, .int .i64 t.n, .int .i64 t.op, .int .i64 (t.off : Int), .int .i64 (t.en : Int)] 85)) (.cells #[.int .i64 t.k, .string t.t, .int .i64 t.n, .int .i64 t.op, .int .i64 (t.off : Int), .int .i64 (t.en : Int)] 85))))
            go_wp2_with (at_builtin; obtain ⟨i0, hi0', hz0, hz1, hz2⟩ := info_parts Tryz.infoTok; refine wpList_push (w0 := wB) elTok rfl _ _ 50 rfl wB.heap.size 85 i0 _ 56 Tryz.underlying50 hi0' hz0 hz1 hz2 rfl (by decide) _ now now.length rfl rfl HN2.out t (wr.heap.size + 1) 1 rfl (fun j u hu => by have := new_cells (w := (wr.alloc (.cells #[.int .i64 t.k, .string t.t, .int .i64 t.n, .int .i64 t.op, .int .i64 (t.off : Int), .int .i64 (t.en : Int)] 85))) (cs := #[.int .i64 t.k, .string t.t, .int .i64 t.n, .int .i64 t.op, .int .i64 (t.off : Int), .int .i64 (t.en : Int)]) (t := 85) j u hu; simpa using this) HOk.out (by omega) HW2.out HSz.out ?_; intro g7 c7 W7 HG7 HB7 HGr7; clear HN2 HSz HW2 HGr7 hi0' hz0 hz1 hz2)
            go_roundw
            case rel => exact ⟨j + 1, d, now ++ [t], ps, wB, by omega, by go_num, rfl, by omega, by omega, by simp; omega, by omega, HRn, HG, HwB, HB7, HG7⟩
            case measure => simp [intOf]; omega
    · obtain rfl : j = n := by omega
      have hi : ¬ (j : Int) < (j : Int) := by omega
      have HRn : Hid ((ps ++ [((.slice na now.length nc : Value), now)]).map Prod.snd = Rs) := by
        show _ = _
        have := HR.out
        rw [List.drop_of_length_le (by rw [← HN.out]; omega)] at this
        rw [← this]; simp [cutF]
      have HG2 := hide ((HG.out.kept HB.out).kept (belowA wr (.cells #[.slice na now.length nc] 50)))
      have HEl : Hid (elTL.ok (wr.alloc (.cells #[.slice na now.length nc] 50)) (fun b => w.heap.size ≤ b ∧ (Value.slice oa ps.length oc).ownBlock ≠ some b) (.slice na now.length nc, now)) :=
        HG.out.behind HwB.out.size elTL (x := ((.slice na now.length nc : Value), now)) ((HNw.out.new (by omega)).move fun b hb hF => ⟨hF, (belowA wr (.cells #[.slice na now.length nc] 50)).block b hb⟩)
      have HSz : Hid (w.heap.size ≤ (wr.alloc (.cells #[.slice na now.length nc] 50)).heap.size) := by show _ ≤ _; have := HBw.out.size; simp; omega
      have HW2 := hide (belowt2 HBw.out (belowA wr (.cells #[.slice na now.length nc] 50)))
      go_wp2_with (at_builtin; obtain ⟨i0, hi0', hz0, hz1, hz2⟩ := info_parts Tryz.infoTks; refine wpList_push (w0 := w) elTL rfl _ _ 64 rfl w.heap.size 50 i0 _ 24 Tryz.underlying64 hi0' hz0 hz1 hz2 rfl (by decide) _ ps ps.length rfl rfl HG2.out (.slice na now.length nc, now) wr.heap.size 1 rfl (fun j u hu => new_cells (w := wr) (cs := #[.slice na now.length nc]) (t := 50) j u hu) HEl.out (by omega) HW2.out HSz.out ?_; intro g7 c7 W7 HG7 HB7 HGr7; clear HG2 HEl HSz HW2 HGr7 hi0' hz0 hz1 hz2)
      go_ret
      exact ⟨_, rfl, ps ++ [((.slice na now.length nc : Value), now)], HG7.out, HRn.out, HB7.out⟩

theorem take_getLast {α : Type} {l : List α} (h : l ≠ []) : l.take (l.length - 1) = l.dropLast := by rw [List.dropLast_eq_take]
/-- The first elements of a list of one's own. -/
theorem Grow.front0 {α : Type} {E : El α} {e : TypeId} {base : Nat} {w : World} {ao : Option Addr} {n cap : Nat} {l : List α} (h : Grow E e base w (.slice ao n cap) l) (hl : l.length < 1073741824) (k : Nat) (hk : k ≤ l.length) : Lst E w (fun b => base ≤ b) (.slice ao k cap) (l.take k) := by
  obtain ⟨ao', cap', e1, h1, h2, h3, h4, h5⟩ := h.new hl
  cases e1
  refine ⟨ao, cap, by rw [List.length_take, Nat.min_eq_left hk], by rw [List.length_take]; omega, fun h => ?_, by rw [List.length_take]; omega, fun x hx => h4 x (List.mem_of_mem_take hx), fun hp => ?_⟩
  · have := h2 h; rw [List.length_take]; omega
  · obtain ⟨b, off, e2, hb, hF, hc⟩ := h5 (by rw [List.length_take] at hp; omega)
    refine ⟨b, off, e2, hb, hF, fun i x hx j u hu => hc i x ?_ j u hu⟩
    rw [List.getElem?_take] at hx
    split at hx
    · exact hx
    · cases hx
theorem cut_ne (k : Int) : ∀ (L : List Tok) (d : Int) (now : List Tok) (out : List (List Tok)), cutF k d now out L ≠ []
  | [], d, now, out => by simp [cutF]
  | t :: r, d, now, out => by unfold cutF; split <;> exact cut_ne k r _ _ _
theorem cut_len (k : Int) : ∀ (L : List Tok) (d : Int) (now : List Tok) (out : List (List Tok)), (cutF k d now out L).length ≤ out.length + L.length + 1
  | [], d, now, out => by simp [cutF]
  | t :: r, d, now, out => by
    unfold cutF
    split
    · have := cut_len k r (depthP d t) [] (out ++ [now]); simp only [List.length_append, List.length_cons, List.length_nil] at *; omega
    · have := cut_len k r (depthP d t) (now ++ [t]) out; simp only [List.length_cons] at *; omega

set_option maxRecDepth 100000 in
set_option maxHeartbeats 1000000 in
theorem sentences_any {w : World} {v : Value} {L : List Tok} (h : Has elTok w v L) (hL : L.length ≤ 100000) :
    Calls Tryz.prog 25 #[v] w fun e w' => ∃ tv, e = .returned tv ∧ ∃ ps, Lst elTL w' (fun b => w.heap.size ≤ b) tv ps ∧ ps.map Prod.snd = (cutF 8 0 [] [] L).dropLast ∧ Below w.heap.size w w' := by
  have HC := hide (cut_any 8 h hL)
  obtain ⟨la, lc, rfl, -⟩ := h.shape
  clear h
  have HX : Hid (∀ ps : List (Value × List Tok), ps.map Prod.snd = cutF 8 0 [] [] L → 1 ≤ ps.length ∧ ps.length ≤ 100001 ∧ (ps.take (ps.length - 1)).map Prod.snd = (cutF 8 0 [] [] L).dropLast) := fun ps hp => by
    have h1 := cut_ne 8 L 0 [] []
    have h2 := cut_len 8 L 0 [] []
    have h3 := congrArg List.length hp
    rw [List.length_map] at h3
    simp only [List.length_nil] at h2
    have h4 : (cutF 8 0 [] [] L).length ≠ 0 := fun e => h1 (List.length_eq_zero_iff.1 e)
    refine ⟨by omega, by omega, ?_⟩
    rw [← hp, List.dropLast_eq_take, List.map_take, List.length_map]
  go_enter Tryz.func25, Tryz.ntmps25
  go_wp2_with (go_at_call 32; refine HC.out.mono ?_; rintro e w1 ⟨tv, rfl, ps, hg, hp, hb⟩; obtain ⟨ta, tc, rfl, hcap, -⟩ := hg.shape; obtain ⟨x1, x2, x3⟩ := HX.out ps hp; have HG := hide hg; have HP := hide x3; have HB := hide hb; obtain ⟨q, hq⟩ : ∃ q, ps.length = q + 1 := ⟨ps.length - 1, by omega⟩; rw [hq] at hcap x2 HG HP ⊢; have HQ := hide hq; have s0 : (0 : Int) ≤ (q : Int) := (by omega); have s1 : (q : Int) ≤ (tc : Int) := (by omega); clear hg hp hb x1 x3 hq)
  go_ret
  exact ⟨_, rfl, ps.take q, HG.out.front0 (by have := HQ.out; omega) q (by have := HQ.out; omega), HP.out, HB.out⟩
end Go.Proofs.YtmdhjggijlhhgaaGreatDoor
