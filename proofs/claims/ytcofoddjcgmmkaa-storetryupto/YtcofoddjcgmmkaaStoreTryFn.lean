/- What StoreTry's own function does. -/
import Derived.Test.YtcofoddjcgmmkaaStoreTryAt
namespace Go.Proofs.Ytcofoddjcgmmkaa
set_option linter.unusedSimpArgs false
set_option linter.unusedVariables false
open Go.RowKit Go.Maps
variable {mk : Mk}

set_option maxRecDepth 100000 in
set_option maxHeartbeats 2000000 in
theorem tryFn_any {w1 wb wl : World} {p : Nat} {own0 : Own} {ar : List Int} {X : List (Addr × Value)} {W B : List Rw} {M bs bb ba bl bq bx al n nb : Nat} {ja ka : Option Addr} {jc kc : Nat} {sy : Bool}
    (h : TryAt mk w1 wb wl p own0 ar ((⟨bq, 0, none⟩, .int .i64 0) :: X) W M) (hX : ∀ x ∈ X, x.1.block ≠ bq) (hq : wb.heap.size ≤ bq) (hq1 : w1.heap.size ≤ bq) (hM : M + 8 * nb < 549755813888)
    (x1 : (⟨bs, 0, none⟩, .pointer (some ⟨p, 0, none⟩)) ∈ X) (x2 : (⟨bb, 0, none⟩, .slice ka nb kc) ∈ X) (x3 : (⟨ba, 0, none⟩, .slice ja n jc) ∈ X) (x4 : (⟨bl, 0, none⟩, .int .i64 ((al : Int) + 1)) ∈ X) (x5 : (⟨bx, 6, none⟩, .bool sy) ∈ X)
    (hB : FreeRows wb own0 ka nb B) (hBl : B.length = nb) (hm : mayR ar B = true) (hj : joinP W B = B) (hW : W.length = n) (hn : n ≤ nb) (hal : al < 900000) (hnb : nb < 100000000) :
    Calls Try.prog 11 #[.pointer (some ⟨bs, 0, none⟩), .pointer (some ⟨bb, 0, none⟩), .pointer (some ⟨ba, 0, none⟩), .pointer (some ⟨bl, 0, none⟩), .pointer (some ⟨bq, 0, none⟩), .pointer (some ⟨bx, 0, none⟩)] wl fun e w' => e = .returned (.bool sy) ∧ TryAt mk w1 wb w' p own0 ar ((⟨bq, 0, none⟩, .int .i64 1) :: X) B (M + 8 * nb) := by
  have HA := hide (h.add (c := kc) hB hm hBl hM)
  rw [hj, hBl, hW] at HA
  have z1 := h.cell (List.mem_cons_of_mem _ x1)
  have z2 := h.cell (List.mem_cons_of_mem _ x2)
  clear h
  go_enter Try.func11, Try.ntmps11
  go_wp2_with fail
  clear z1 z2
  refine HA.out.mono ?_
  rintro e w2 ⟨rfl, s2⟩
  have H2 := hide s2
  have y1 := s2.cell (List.mem_cons_of_mem _ x1)
  have y2 := s2.cell (List.mem_cons_of_mem _ x2)
  have y3 := s2.cell (List.mem_cons_of_mem _ x3)
  have y4 := s2.cell (List.mem_cons_of_mem _ x4)
  clear s2
  have e1 : (((nb - n : Nat) : Int) == (nb : Int) - (n : Int)) = true := by simp; omega
  go_wp2_with fail
  clear y1 y2 y3 y4
  have HH := hide (H2.out.holds (c := kc) (pr := al + 1) (by omega) hB hBl (by omega))
  rw [show ((al + 1 : Nat) : Int) = (al : Int) + 1 from by omega] at HH
  refine HH.out.mono ?_
  rintro e w3 ⟨rfl, s3⟩
  have z0 := s3.cell List.mem_cons_self
  have f0 := s3.frozen List.mem_cons_self
  have s4 := s3.put (u := .int .i64 1) hq hq1 hX
  have z5 := s4.cell (List.mem_cons_of_mem _ x5)
  have H4 := hide s4
  clear s3 s4 H2 HH
  go_wp2_with fail
  go_ret
  exact ⟨rfl, H4.out⟩

theorem TryAt.try_st {w1 wb wl : World} {p : Nat} {own0 : Own} {ar : List Int} {X : List (Addr × Value)} {W B : List Rw} {M bs bb ba bl bq bx al n nb : Nat} {ja ka : Option Addr} {jc kc : Nat} {sy : Bool}
    (h : TryAt mk w1 wb wl p own0 ar ((⟨bq, 0, none⟩, .int .i64 0) :: X) W M) (hX : ∀ x ∈ X, x.1.block ≠ bq) (hq : wb.heap.size ≤ bq) (hq1 : w1.heap.size ≤ bq) (hM : M + 16 * nb < 68719476736)
    (x1 : (⟨bs, 0, none⟩, .pointer (some ⟨p, 0, none⟩)) ∈ X) (x2 : (⟨bb, 0, none⟩, .slice ka nb kc) ∈ X) (x3 : (⟨ba, 0, none⟩, .slice ja n jc) ∈ X) (x4 : (⟨bl, 0, none⟩, .int .i64 ((al : Int) + 1)) ∈ X) (x5 : (⟨bx, 6, none⟩, .bool sy) ∈ X)
    (hB : FreeRows wb own0 ka nb B) (hBl : B.length = nb) (hm : mayR ar B = true) (hj : joinP W B = B) (hTk : B.take n = W) (hW : W.length = n) (hn0 : 0 < n) (hn : n ≤ nb) (hal : al < 900000) (hnb : nb < 100000000) :
    Calls Try.prog 10 #[.pointer (some ⟨p, 0, none⟩), .func (.func 11) #[] #[.pointer (some ⟨bs, 0, none⟩), .pointer (some ⟨bb, 0, none⟩), .pointer (some ⟨ba, 0, none⟩), .pointer (some ⟨bl, 0, none⟩), .pointer (some ⟨bq, 0, none⟩), .pointer (some ⟨bx, 0, none⟩)]] wl fun e w' => e = .returned (.bool sy) ∧ TryAt mk0 w1 wb w' p own0 ar ((⟨bq, 0, none⟩, .int .i64 1) :: X) (if sy then B else W) (M + 16 * nb) := by
  have hbq : bq < wl.heap.size := lt_of_cell (h.cell List.mem_cons_self)
  have hXl : ∀ x ∈ X, x.1.block < wl.heap.size := fun x hx => lt_of_cell (h.cell (a := x.1) (v := x.2) (List.mem_cons_of_mem _ hx))
  have hwb : wb.heap.size ≤ wl.heap.size := by omega
  have hw1 : w1.heap.size ≤ wl.heap.size := by omega
  obtain ⟨b, hb, hk⟩ := h.mark
  rw [hW] at hk
  have h1 := hk.box (.pointer (some ⟨p, 0, none⟩)) 27
  have h2 := h1.box (.bool false) 4
  have h3 := h2.box (.int .i64 b) 3
  rw [show (wl.alloc (.cells #[.pointer (some ⟨p, 0, none⟩)] 27)).heap.size = wl.heap.size + 1 from by simp] at h2 h3
  rw [show ((wl.alloc (.cells #[.pointer (some ⟨p, 0, none⟩)] 27)).alloc (.cells #[.bool false] 4)).heap.size = wl.heap.size + 1 + 1 from by simp] at h3
  have h4 := h3.sub (X' := (⟨bq, 0, none⟩, .int .i64 0) :: (⟨wl.heap.size + 1, 0, none⟩, .bool false) :: (⟨wl.heap.size, 0, none⟩, .pointer (some ⟨p, 0, none⟩)) :: (⟨wl.heap.size + 1 + 1, 0, none⟩, .int .i64 b) :: X) (fun x hx => by
    simp only [List.mem_cons] at hx ⊢
    rcases hx with rfl | rfl | rfl | rfl | hx <;> simp_all)
  have hf := tryFn_any (kc := kc) (jc := jc) (ja := ja) (sy := sy) h4 (fun x hx => by
    simp only [List.mem_cons] at hx
    rcases hx with rfl | rfl | rfl | hx
    · dsimp only; omega
    · dsimp only; omega
    · dsimp only; omega
    · exact hX x hx) hq hq1 (by omega) (bs := bs) (bb := bb) (ba := ba) (bl := bl) (bx := bx) (by simp [x1]) (by simp [x2]) (by simp [x3]) (by simp [x4]) (by simp [x5]) hB hBl hm hj hW hn hal hnb
  refine try_any hb rfl hf (fun V hV => ?_)
  have hV' := hV.sub (X' := (⟨wl.heap.size + 1, 0, none⟩, .bool false) :: (⟨bq, 0, none⟩, .int .i64 1) :: (⟨wl.heap.size, 0, none⟩, .pointer (some ⟨p, 0, none⟩)) :: (⟨wl.heap.size + 1 + 1, 0, none⟩, .int .i64 b) :: X) (fun x hx => by
    simp only [List.mem_cons] at hx ⊢
    rcases hx with rfl | rfl | rfl | rfl | hx <;> simp_all)
  refine ⟨hV'.cell List.mem_cons_self, hV'.frozen List.mem_cons_self, ?_⟩
  have hp := hV'.put (u := .bool sy) (by omega) (by omega) (fun x hx => by
    simp only [List.mem_cons] at hx
    rcases hx with rfl | rfl | rfl | hx
    · dsimp only; omega
    · dsimp only; omega
    · dsimp only; omega
    · have := hXl x hx; omega)
  cases sy with
  | true =>
    refine (after_held (hp.cell List.mem_cons_self)).mono ?_
    rintro e u' w' ⟨rfl, rfl, rfl⟩
    refine ⟨rfl, rfl, hp.cell List.mem_cons_self, ?_⟩
    obtain ⟨own, hK, rest⟩ := (hp.base.sub (X' := (⟨bq, 0, none⟩, .int .i64 1) :: X) (fun x hx => by
      simp only [List.mem_cons] at hx ⊢
      rcases hx with rfl | hx <;> simp_all))
    exact ⟨own, ⟨hK.1.mono (by omega), hK.2⟩, rest⟩
  | false =>
    obtain ⟨own, hK, hT, hB', hU, hY⟩ := hp
    have hCl : (B.map cellsR).length = nb := by rw [List.length_map, hBl]
    refine (after_undo (own := own) (n := n) (b := b) (p := p) (Q := fun W' => St mk0 W' p own ar ((B.map cellsR).take n) (M + 16 * nb)) (hY (⟨wl.heap.size + 1, 0, none⟩, .bool false) (by simp)).1 (hY (⟨wl.heap.size, 0, none⟩, .pointer (some ⟨p, 0, none⟩)) (by simp)).1 (hY (⟨wl.heap.size + 1 + 1, 0, none⟩, .int .i64 b) (by simp)).1 (hY (⟨wl.heap.size, 0, none⟩, .pointer (some ⟨p, 0, none⟩)) (by simp)).2.1 (hY (⟨wl.heap.size + 1 + 1, 0, none⟩, .int .i64 b) (by simp)).2.1
      (fun V' hV' => since_st (mk := ⟨n, b⟩) (hK.1.below hV') (by omega) (by omega))
      (fun V' hV' => (runBack_st (n := n) (hK.1.below hV').base (by omega) (by omega)).mono fun e w' ⟨he, hs, ht⟩ => ⟨he, hs.mono (by omega), ht⟩)).mono ?_
    rintro e u' w' ⟨rfl, rfl, hs, ht⟩
    obtain ⟨g1, g2⟩ := ht.from hT hB'.size
    have hYc := fun x hx => ht.cell (hY x hx).1 (hY x hx).2.1
    refine ⟨rfl, rfl, hYc _ List.mem_cons_self, own, ?_, g1, hB'.trans g2, hU.trans ht, fun x hx => ?_⟩
    · have := Keeps.undo (n := n) hK.2 hs
      rw [hTk] at this
      exact this
    · have hx' : x ∈ (⟨wl.heap.size + 1, 0, none⟩, .bool false) :: (⟨bq, 0, none⟩, .int .i64 1) :: (⟨wl.heap.size, 0, none⟩, .pointer (some ⟨p, 0, none⟩)) :: (⟨wl.heap.size + 1 + 1, 0, none⟩, .int .i64 b) :: X := by
        simp only [List.mem_cons] at hx ⊢
        rcases hx with rfl | hx <;> simp_all
      refine ⟨hYc x hx', (hY x hx').2.1, ?_⟩
      rw [frozen_of (ht.block (lt_of_cell (hY x hx').1) (fun t ht' => by rw [(hY x hx').2.1] at ht'; cases ht'))]
      exact (hY x hx').2.2
end Go.Proofs.Ytcofoddjcgmmkaa
