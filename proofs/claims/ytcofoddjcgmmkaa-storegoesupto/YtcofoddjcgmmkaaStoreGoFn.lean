/- What StoreGoes' own function does. -/
import Derived.Test.YtcofoddjcgmmkaaStoreTryAt
import Derived.Test.YtcofoddjcgmmkaaStoreNil
namespace Go.Proofs.Ytcofoddjcgmmkaa
set_option linter.unusedSimpArgs false
set_option linter.unusedVariables false
open Go.RowKit Go.Maps
variable {mk : Mk}

/-- Since w0 only the two variables were written; what got holds by now. -/
def GoAt (w0 wl : World) (qg qo : Nat) (ga : Option Addr) (gc : Nat) (L : List Int) : Prop :=
  Only (fun k => k = qg ∨ k = qo) w0 wl ∧ wl.cell? ⟨qo, 0, none⟩ = some (.bool true) ∧ wl.frozen? ⟨qo, 0, none⟩ = false ∧ wl.frozen? ⟨qg, 0, none⟩ = false ∧ wl.cell? ⟨qg, 0, none⟩ = some (.slice ga L.length gc) ∧ wl.ownsRow w0.heap.size 3 1 (.slice ga L.length gc) L.length (ints L)

theorem GoAt.below {w0 wl w' : World} {qg qo : Nat} {ga : Option Addr} {gc : Nat} {L : List Int} (h : GoAt w0 wl qg qo ga gc L) (hb : Below wl.heap.size wl w') : GoAt w0 w' qg qo ga gc L := by
  obtain ⟨h1, h2, h3, h4, h5, h6⟩ := h
  exact ⟨h1.trans (Only.of_below hb _), kept_cell hb h2, by rw [frozen_of (hb.block _ (lt_of_cell h2))]; exact h3, by rw [frozen_of (hb.block _ (lt_of_cell h5))]; exact h4, kept_cell hb h5, own_kept6 h6 hb⟩
theorem GoAt.store {w0 wl : World} {qg qo : Nat} {ga : Option Addr} {gc : Nat} {L : List Int} (h : GoAt w0 wl qg qo ga gc L) {p : Nat} {own : Own} {ar : List Int} {W : List Rw} {M : Nat} (hk : Keeps mk w0 p own ar W M) (hg : own qg = none) (ho : own qo = none) : Keeps mk wl p own ar W M :=
  ⟨hk.1.keep (h.1.mono fun k _ hS => by rcases hS with rfl | rfl <;> assumption), hk.2⟩
theorem GoAt.cell {w0 wl : World} {qg qo : Nat} {ga : Option Addr} {gc : Nat} {L : List Int} (h : GoAt w0 wl qg qo ga gc L) {a : Addr} {v : Value} (hc : w0.cell? a = some v) (h1 : a.block ≠ qg) (h2 : a.block ≠ qo) : wl.cell? a = some v := h.1.cell hc (by rintro (e | e); exact h1 e; exact h2 e)

theorem own_same {w w' : World} {base size n : Nat} {e : TypeId} {v : Value} {xs : List Value} (h : w.ownsRow base e size v n xs) (hb : ∀ k, v.ownBlock = some k → w'.heap[k]? = w.heap[k]?) : w'.ownsRow base e size v n xs := by
  refine ⟨h.1, ?_⟩
  rcases h.2 with h0 | ⟨g, cap, cur, hv, hbase, hblk, rest⟩
  · exact .inl h0
  · exact .inr ⟨g, cap, cur, hv, hbase, by rw [hb g (by rw [hv]; rfl)]; exact hblk, rest⟩
theorem GoAt.ok {w0 wl : World} {qg qo : Nat} {ga : Option Addr} {gc : Nat} {L : List Int} (h : GoAt w0 wl qg qo ga gc L) (hne : qg ≠ qo) (hol : qo < w0.heap.size) : GoAt w0 (wl.setCell ⟨qo, 0, none⟩ (.bool true)) qg qo ga gc L := by
  obtain ⟨h1, h2, h3, h4, h5, h6⟩ := h
  refine ⟨h1.setCell (.inr rfl) _, by simp [World.cell?_setCell_same, h2], by rw [World.frozen?_setCell]; exact h3, by rw [World.frozen?_setCell]; exact h4, ?_, own_same h6 fun k hk => Below.heap_setCell _ _ _ _ (by have := own_new h6 k hk; dsimp only; omega)⟩
  rw [World.cell?_of_block (Below.heap_setCell _ _ _ _ hne)]
  exact h5
theorem eqRw_self (r : Rw) : eqRw r r = true := by unfold eqRw; simp

set_option maxRecDepth 100000 in
set_option maxHeartbeats 2000000 in
theorem goFn_any {w0 wl : World} {qg qo bs bx p i gc : Nat} {ga : Option Addr} {L : List Int} {own : Own} {ar : List Int} {W : List Rw} {M : Nat} {q st : Int} {l : List Int} {ao : Option Addr} {cap : Nat}
    (h : GoAt w0 wl qg qo ga gc L) (hk : Keeps mk w0 p own ar W M) (hM : M < 549755813888) (hg : own qg = none) (ho : own qo = none) (hne : qg ≠ qo) (hgl : qg < w0.heap.size) (hol : qo < w0.heap.size)
    (hs : w0.cell? ⟨bs, 0, none⟩ = some (.pointer (some ⟨p, 0, none⟩))) (hs1 : bs ≠ qg) (hs2 : bs ≠ qo) (hx : w0.cell? ⟨bx, 5, none⟩ = some (.int .i64 st)) (hx1 : bx ≠ qg) (hx2 : bx ≠ qo)
    (hi : W[i]? = some (q, l)) (hL : L.length < 1000000000)
    (hr : ∀ V, Only (fun k => k = qg ∨ k = qo ∨ (Value.slice ga L.length gc).ownBlock = some k) wl V → IsInts V ao l.length l) :
    Calls Try.prog 15 #[.int .i64 (i : Int), .agg #[.int .i64 q, .slice ao l.length cap], .pointer (some ⟨qg, 0, none⟩), .pointer (some ⟨bs, 0, none⟩), .pointer (some ⟨qo, 0, none⟩), .pointer (some ⟨bx, 0, none⟩)] wl fun e w' => e = .returned (.bool ((L.length : Int) != st)) ∧ ∃ ga' gc', GoAt w0 w' qg qo ga' gc' (L ++ [(i : Int)]) := by
  obtain ⟨j0, hj0, hy0, hy1, hy2⟩ := info_parts Try.infoInt5
  have hm := mayR_iff.1 hk.2 (q, l) (List.mem_of_getElem? hi)
  have hci : (W.map cellsR)[i]? = some (cellsP q l) := by rw [List.getElem?_map, hi]; rfl
  obtain ⟨Y, hY⟩ : ∃ Y, Y = (wl.alloc (.cells #[.int .i64 q, .slice ao l.length cap] 31)).alloc (.cells #[.int .i64 (i : Int)] 3) := ⟨_, rfl⟩
  have hBY : Below wl.heap.size wl Y := by rw [hY]; exact ((Below.refl _ wl).alloc (Nat.le_refl _) _).alloc (by simp) _
  have hGY := h.below hBY
  have hc1 : (wl.alloc (.cells #[.int .i64 q, .slice ao l.length cap] 31)).cell? ⟨qg, 0, none⟩ = some (.slice ga L.length gc) := kept_cell ((Below.refl _ _).alloc (Nat.le_refl _) _) h.2.2.2.2.1
  have hown := hGY.2.2.2.2.2
  have hblk : Y.heap[wl.heap.size + 1]? = some (.cells #[.int .i64 (i : Int)] 3 (0, 0)) := by
    rw [hY]
    have := heap_alloc_new (wl.alloc (.cells #[.int .i64 q, .slice ao l.length cap] 31)) (.cells #[.int .i64 (i : Int)] 3)
    rw [show (wl.alloc (.cells #[.int .i64 q, .slice ao l.length cap] 31)).heap.size = wl.heap.size + 1 from by simp] at this
    exact this
  have HNw : Hid (∀ ad, some (⟨wl.heap.size + 1, 0, none⟩ : Addr) = some ad → ∀ (j : Nat) (u : Value), [Value.int .i64 (i : Int)][j]? = some u → Y.cell? (ad.add j) = some u) := fun ad had j u hu => by
    cases had
    exact World.news_of_block hblk j u (by simpa using hu)
  have HYr : Hid (Y.cell? ⟨wl.heap.size, 0, none⟩ = some (.int .i64 q) ∧ Y.cell? ⟨wl.heap.size, 1, none⟩ = some (.slice ao l.length cap)) := by
    show _ ∧ _
    rw [hY]
    exact ⟨by simp, by simp⟩
  go_enter Try.func15, Try.ntmps15
  rw [hY] at hown HNw
  have hsz0 : w0.heap.size ≤ wl.heap.size := h.1.size
  have HH := hide h
  have HK := hide hk
  have HR := hide hr
  have HGY := hide hGY
  have HBY := hide hBY
  have HW := hide (And.intro hs hx)
  clear h hk hr hGY hBY hs hx hblk
  go_wp2_with (at_builtin; refine wpList_append_any rfl _ _ 22 rfl w0.heap.size 3 j0 (.int .i64 0) 1 8 Try.underlying22 hj0 hy0 hy1 hy2 rfl (by decide) (.slice ga L.length gc) L.length (ints L) rfl hown (some ⟨wl.heap.size + 1, 0, none⟩) 1 1 [.int .i64 (i : Int)] rfl (fun h => by cases h) rfl HNw.out (by simp [Value.oneCell']) (by unfold maxLen; omega) (by omega) (by simp; omega) ?_)
  rw [← hY] at hown ⊢
  intro v' w5 hown5 hgrow
  obtain ⟨na, nc, rfl, -, -, -⟩ := own_shape6 hown5
  have hb5 : Below w0.heap.size Y w5 := below_grown (Below.refl _ Y) hown hgrow (by have := HBY.out.size; omega)
  have hown0 := HH.out.2.2.2.2.2
  have hrb : w5.heap[wl.heap.size]? = Y.heap[wl.heap.size]? := hgrow.block _ (lt_of_cell HYr.out.1) (fun e => by have := own_lt6 hown0 _ e.symm; omega)
  have c0 := below_cell hb5 HGY.out.2.2.2.2.1 hgl
  have f0 : w5.frozen? ⟨qg, 0, none⟩ = false := by rw [frozen_of (hb5.block _ hgl)]; exact HGY.out.2.2.2.1
  have hll : (L ++ [(i : Int)]).length = L.length + 1 := by simp
  have hG6 : GoAt w0 (w5.setCell ⟨qg, 0, none⟩ (.slice na (L.length + 1) nc)) qg qo na nc (L ++ [(i : Int)]) := by
    refine ⟨(HGY.out.1.grown hgrow (fun k hk hlt => by have := own_new hown k hk; omega)).setCell (.inl rfl) _, ?_, ?_, by rw [World.frozen?_setCell]; exact f0, by rw [hll]; simp [World.cell?_setCell_same, c0], ?_⟩
    · rw [World.cell?_of_block (Below.heap_setCell _ _ _ _ (fun e => hne e.symm))]
      exact below_cell hb5 HGY.out.2.1 hol
    · rw [World.frozen?_setCell, frozen_of (hb5.block _ hol)]
      exact HGY.out.2.2.1
    · rw [hll]
      refine own_same (by simpa [ints] using hown5) fun k hk => Below.heap_setCell _ _ _ _ (by have := own_new hown5 k hk; dsimp only; omega)
  have hI6 := HR.out (w5.setCell ⟨qg, 0, none⟩ (.slice na (L.length + 1) nc)) (((Only.of_below HBY.out _).grown hgrow (fun k hk _ => .inr (.inr hk))).setCell (.inl rfl) _)
  have hR6 : (w5.setCell ⟨qg, 0, none⟩ (.slice na (L.length + 1) nc)).cell? ⟨wl.heap.size, 0, none⟩ = some (.int .i64 q) ∧ (w5.setCell ⟨qg, 0, none⟩ (.slice na (L.length + 1) nc)).cell? ⟨wl.heap.size, 1, none⟩ = some (.slice ao l.length cap) := by
    have hq : (w5.setCell ⟨qg, 0, none⟩ (.slice na (L.length + 1) nc)).heap[wl.heap.size]? = Y.heap[wl.heap.size]? := (Below.heap_setCell _ _ _ _ (by dsimp only; omega)).trans hrb
    exact ⟨by rw [World.cell?_of_block hq]; exact HYr.out.1, by rw [World.cell?_of_block hq]; exact HYr.out.2⟩
  obtain ⟨V6, hV6⟩ : ∃ V, V = w5.setCell ⟨qg, 0, none⟩ (.slice na (L.length + 1) nc) := ⟨_, rfl⟩
  rw [← hV6] at hG6 hI6 hR6
  have hK6 := hG6.store HK.out hg ho
  have s6 : (w5.setCell ⟨qg, 0, none⟩ (.slice na (L.length + 1) nc)).cell? ⟨bs, 0, none⟩ = some (.pointer (some ⟨p, 0, none⟩)) := by rw [← hV6]; exact hG6.cell HW.out.1 hs1 hs2
  have HRow := hide (row_in hK6.1 hM hci hm)
  have HG6 := hide hG6
  have HI6 := hide hI6
  have HR6 := hide hR6
  clear hown5 hgrow hown hown0 hrb hb5 hG6 hI6 hR6 hK6 HGY HH
  go_wp2_with fail
  rw [← hV6]
  clear hV6 s6 c0 f0
  refine HRow.out.mono ?_
  rintro e w7 ⟨bo, bc, rfl, hi7, h7, -⟩
  have HG7 := hide ((HG6.out.below h7).below ((Below.refl _ _).alloc (Nat.le_refl _) (.cells #[.int .i64 q, .slice bo l.length bc] 31)))
  have HB7 : Hid (Below V6.heap.size V6 (w7.alloc (.cells #[.int .i64 q, .slice bo l.length bc] 31))) := h7.alloc h7.size _
  have HI7 := hide (hi7.kept ((Below.refl _ w7).alloc (Nat.le_refl _) (.cells #[.int .i64 q, .slice bo l.length bc] 31)))
  have o7 := HG7.out.2.1
  have r0 := kept_cell HB7.out HR6.out.1
  have r1 := kept_cell HB7.out HR6.out.2
  have HE := hide (equal_any (q1 := q) (q2 := q) (c1 := bc) (c2 := cap) HI7.out (HI6.out.kept HB7.out))
  rw [eqRw_self] at HE
  clear hi7 h7 HRow
  go_wp2_with fail
  clear o7 r0 r1
  refine HE.out.mono ?_
  rintro e w8 ⟨rfl, h8⟩
  have hG8 := HG7.out.below h8
  have o8 := hG8.2.1
  have f8 := hG8.2.2.1
  have hG9 := hG8.ok hne hol
  have g9 := hG9.2.2.2.2.1
  have x9 := hG9.cell HW.out.2 hx1 hx2
  rw [hll] at g9
  have HG9 := hide hG9
  clear hG8 hG9 h8 HE
  go_wp2_with fail
  go_ret
  exact ⟨rfl, na, nc, HG9.out⟩
end Go.Proofs.Ytcofoddjcgmmkaa
