/- The walk goes on to a predicate. -/
import Derived.Test.YtjifhmlfnnagcaaWalkMem
import Derived.Test.YtjifhmlfnnagcaaRegionLast
namespace Go.Proofs.Ytjifhmlfnnagcaa
set_option linter.unusedSimpArgs false
set_option linter.unusedVariables false
open Go.RowKit Go.Maps

theorem cell_other {w : World} {g i : Nat} {v : Value} {a : Addr} (h : a.block ≠ g) : (w.setCell ⟨g, i, none⟩ v).cell? a = w.cell? a := by
  refine World.cell?_of_block ?_
  simp [World.setCell, Array.getElem?_modify, Ne.symm h]

section
variable {base : Nat} {w : World} {p n gl c : Nat} {s : Tj} {po oo : Option Addr} {pc oc gp gw gh : Nat}
theorem WalkAt.drew (h : WalkAt base w p n gl c s po pc oo oc gp gw gh) : WalkAt base w.drew p n gl c s po pc oo oc gp gw gh := h.kept (Below.refl _ _).drew
/-- A store into one of the three rows. -/
theorem WalkAt.setPlace (h : WalkAt base w p n gl c s po pc oo oc gp gw gh) (q : Nat) (x : Int) : WalkAt base (w.setCell ⟨gp, q, none⟩ (.int .i64 x)) p n gl c { s with place := updI s.place q x } po pc oo oc gp gw gh where
  box := by rw [heap_other h.dis.1.1]; exact h.box
  path := own_same h.path fun b hb => heap_other (h.pdis b hb).2.1
  opn := own_same h.opn fun b hb => heap_other (h.odis b hb).2.1
  place := (h.place.set q _).congr fun i _ => by show _ = Value.int _ (updI _ _ _ _); unfold updI; split <;> rfl
  low := h.low.of_block (heap_other h.dis.2.1.symm)
  home := h.home.of_block (heap_other h.dis.2.2.1.symm)
  bs := h.bs
  dis := h.dis
  pdis := h.pdis
  odis := h.odis
theorem WalkAt.setLow (h : WalkAt base w p n gl c s po pc oo oc gp gw gh) (q : Nat) (x : Int) : WalkAt base (w.setCell ⟨gw, q, none⟩ (.int .i64 x)) p n gl c { s with low := updI s.low q x } po pc oo oc gp gw gh where
  box := by rw [heap_other h.dis.1.2.1]; exact h.box
  path := own_same h.path fun b hb => heap_other (h.pdis b hb).2.2.1
  opn := own_same h.opn fun b hb => heap_other (h.odis b hb).2.2.1
  place := h.place.of_block (heap_other h.dis.2.1)
  low := (h.low.set q _).congr fun i _ => by show _ = Value.int _ (updI _ _ _ _); unfold updI; split <;> rfl
  home := h.home.of_block (heap_other h.dis.2.2.2.symm)
  bs := h.bs
  dis := h.dis
  pdis := h.pdis
  odis := h.odis
theorem WalkAt.setHome (h : WalkAt base w p n gl c s po pc oo oc gp gw gh) (q : Nat) (x : Int) : WalkAt base (w.setCell ⟨gh, q, none⟩ (.int .i64 x)) p n gl c { s with home := updI s.home q x } po pc oo oc gp gw gh where
  box := by rw [heap_other h.dis.1.2.2]; exact h.box
  path := own_same h.path fun b hb => heap_other (h.pdis b hb).2.2.2
  opn := own_same h.opn fun b hb => heap_other (h.odis b hb).2.2.2.1
  place := h.place.of_block (heap_other h.dis.2.2.1)
  low := h.low.of_block (heap_other h.dis.2.2.2)
  home := (h.home.set q _).congr fun i _ => by show _ = Value.int _ (updI _ _ _ _); unfold updI; split <;> rfl
  bs := h.bs
  dis := h.dis
  pdis := h.pdis
  odis := h.odis

/-- The slice of what is open, one longer, in its field. -/
theorem WalkAt.pushOpen (h : WalkAt base w p n gl c s po pc oo oc gp gw gh) {V : World} {o : Obj} {g cap q : Nat} (ho : V.ownsRow base 3 1 (.slice (some ⟨g, 0, none⟩) (s.opn.length + 1) cap) (s.opn.length + 1) (s.opn.map nv ++ [nv q])) (hgr : (w.alloc o).grownBy V (Value.slice oo s.opn.length oc).ownBlock) (hat : (Value.slice oo s.opn.length oc).ownBlock = some g ∨ g = w.heap.size + 1) :
    WalkAt base (V.setCell ⟨p, 3, none⟩ (.slice (some ⟨g, 0, none⟩) (s.opn.length + 1) cap)) p n gl c { s with opn := s.opn ++ [q] } po pc (some ⟨g, 0, none⟩) cap gp gw gh := by
  have hsz : (w.alloc o).heap.size = w.heap.size + 1 := by simp
  have keep : ∀ b, b < w.heap.size → (Value.slice oo s.opn.length oc).ownBlock ≠ some b → V.heap[b]? = w.heap[b]? := fun b hb hne => by
    rw [hgr.block b (by omega) (fun e => hne e.symm), heap_alloc_old w o (by exact hb)]
  have gne : ∀ b, b < w.heap.size → (Value.slice oo s.opn.length oc).ownBlock ≠ some b → g ≠ b := fun b hb hne e => by
    rcases hat with h1 | h1
    · rw [e] at h1; exact hne h1
    · omega
  have on : ∀ b, (∀ b', (Value.slice oo s.opn.length oc).ownBlock = some b' → b' ≠ b) → (Value.slice oo s.opn.length oc).ownBlock ≠ some b := fun b hh e => hh b e rfl
  have np := on p fun b hb => (h.odis b hb).1
  have ngp := on gp fun b hb => (h.odis b hb).2.1
  have ngw := on gw fun b hb => (h.odis b hb).2.2.1
  have ngh := on gh fun b hb => (h.odis b hb).2.2.2.1
  have npa : ∀ b, (Value.slice po s.path.length pc).ownBlock = some b → b < w.heap.size ∧ (Value.slice oo s.opn.length oc).ownBlock ≠ some b := fun b hb => ⟨own_lt6 h.path b hb, fun e => (h.odis b e).2.2.2.2 hb⟩
  refine ⟨?_, ?_, ?_, ?_, ?_, ?_, h.bs, h.dis, h.pdis, ?_⟩
  · have h1 := keep p h.lt np
    rw [h.box] at h1
    simp [World.setCell, Array.getElem?_modify, h1]
  · refine own_same h.path fun b hb => ?_
    obtain ⟨h1, h2⟩ := npa b hb
    rw [heap_other (h.pdis b hb).1]
    exact keep b h1 h2
  · dsimp only
    rw [List.length_append, List.map_append]
    refine own_same ho fun b hb => heap_other ?_
    simp only [Value.ownBlock, Option.some.injEq] at hb
    rw [← hb]
    exact gne p h.lt np
  · exact h.place.of_block (by rw [heap_other h.dis.1.1.symm]; exact keep gp h.place.lt ngp)
  · exact h.low.of_block (by rw [heap_other h.dis.1.2.1.symm]; exact keep gw h.low.lt ngw)
  · exact h.home.of_block (by rw [heap_other h.dis.1.2.2.symm]; exact keep gh h.home.lt ngh)
  · intro b hb
    simp only [Value.ownBlock, Option.some.injEq] at hb
    rw [← hb]
    refine ⟨gne p h.lt np, gne gp h.place.lt ngp, gne gw h.low.lt ngw, gne gh h.home.lt ngh, fun e => ?_⟩
    obtain ⟨h1, h2⟩ := npa g e
    exact gne g h1 h2 rfl

/-- The path's slice, one longer, in its field. -/
theorem WalkAt.pushPath (h : WalkAt base w p n gl c s po pc oo oc gp gw gh) {V : World} {o : Obj} {g cap q : Nat} (ho : V.ownsRow base 3 1 (.slice (some ⟨g, 0, none⟩) (s.path.length + 1) cap) (s.path.length + 1) (s.path.map nv ++ [nv q])) (hgr : (w.alloc o).grownBy V (Value.slice po s.path.length pc).ownBlock) (hat : (Value.slice po s.path.length pc).ownBlock = some g ∨ g = w.heap.size + 1) :
    WalkAt base (V.setCell ⟨p, 2, none⟩ (.slice (some ⟨g, 0, none⟩) (s.path.length + 1) cap)) p n gl c { s with path := s.path ++ [q] } (some ⟨g, 0, none⟩) cap oo oc gp gw gh := by
  have hsz : (w.alloc o).heap.size = w.heap.size + 1 := by simp
  have keep : ∀ b, b < w.heap.size → (Value.slice po s.path.length pc).ownBlock ≠ some b → V.heap[b]? = w.heap[b]? := fun b hb hne => by
    rw [hgr.block b (by omega) (fun e => hne e.symm), heap_alloc_old w o (by exact hb)]
  have gne : ∀ b, b < w.heap.size → (Value.slice po s.path.length pc).ownBlock ≠ some b → g ≠ b := fun b hb hne e => by
    rcases hat with h1 | h1
    · rw [e] at h1; exact hne h1
    · omega
  have on : ∀ b, (∀ b', (Value.slice po s.path.length pc).ownBlock = some b' → b' ≠ b) → (Value.slice po s.path.length pc).ownBlock ≠ some b := fun b hh e => hh b e rfl
  have np := on p fun b hb => (h.pdis b hb).1
  have ngp := on gp fun b hb => (h.pdis b hb).2.1
  have ngw := on gw fun b hb => (h.pdis b hb).2.2.1
  have ngh := on gh fun b hb => (h.pdis b hb).2.2.2
  have npa : ∀ b, (Value.slice oo s.opn.length oc).ownBlock = some b → b < w.heap.size ∧ (Value.slice po s.path.length pc).ownBlock ≠ some b := fun b hb => ⟨own_lt6 h.opn b hb, (h.odis b hb).2.2.2.2⟩
  refine ⟨?_, ?_, ?_, ?_, ?_, ?_, h.bs, h.dis, ?_, ?_⟩
  · have h1 := keep p h.lt np
    rw [h.box] at h1
    simp [World.setCell, Array.getElem?_modify, h1]
  · dsimp only
    rw [List.length_append, List.map_append]
    refine own_same ho fun b hb => heap_other ?_
    simp only [Value.ownBlock, Option.some.injEq] at hb
    rw [← hb]
    exact gne p h.lt np
  · refine own_same h.opn fun b hb => ?_
    obtain ⟨h1, h2⟩ := npa b hb
    rw [heap_other (h.odis b hb).1]
    exact keep b h1 h2
  · exact h.place.of_block (by rw [heap_other h.dis.1.1.symm]; exact keep gp h.place.lt ngp)
  · exact h.low.of_block (by rw [heap_other h.dis.1.2.1.symm]; exact keep gw h.low.lt ngw)
  · exact h.home.of_block (by rw [heap_other h.dis.1.2.2.symm]; exact keep gh h.home.lt ngh)
  · intro b hb
    simp only [Value.ownBlock, Option.some.injEq] at hb
    rw [← hb]
    exact ⟨gne p h.lt np, gne gp h.place.lt ngp, gne gw h.low.lt ngw, gne gh h.home.lt ngh⟩
  · intro b hb
    obtain ⟨h1, h2, h3, h4, _⟩ := h.odis b hb
    refine ⟨h1, h2, h3, h4, fun e => ?_⟩
    simp only [Value.ownBlock, Option.some.injEq] at e
    obtain ⟨h5, h6⟩ := npa b hb
    exact gne b h5 h6 e
end

set_option maxHeartbeats 1000000 in
theorem enter_any {base : Nat} {w : World} {p n gl c : Nat} {s : Tj} {po oo : Option Addr} {pc oc gp gw gh : Nat} (h : WalkAt base w p n gl c s po pc oo oc gp gw gh) (hn : n ≤ 128) {q : Nat} (hq : q < n) (hp : s.path.length ≤ 128) (ho : s.opn.length ≤ 128) (hb : base ≤ w.heap.size) :
    Calls Try.prog 45 #[.pointer (some ⟨p, 0, none⟩), .int .i64 (q : Int)] w fun e w' => e = .returned (.tuple #[]) ∧ ∃ po' pc' oo' oc', WalkAt base w' p n gl c (s.enter q) po' pc' oo' oc' gp gw gh ∧ Below base w w' := by
  obtain ⟨c0, c1, c2, c3, c4, c5, c6⟩ := h.fields
  have z0 := h.place.cell hq
  have z1 := h.low.cell hq
  have f0 := h.place.frozen q
  have f1 := h.low.frozen q
  have hqi : (q : Int) < (n : Int) := by omega
  have hq0 : (0 : Int) ≤ (q : Int) := by omega
  obtain ⟨⟨d1, d2, d3⟩, d4, d5, d6⟩ := h.dis
  have HH := hide h
  clear h
  go_enter Try.func45, Try.ntmps45
  go_wp2
  go_region_held3 (fun w' => w'.cell? ⟨p, 4, none⟩ = some (.slice (some ⟨gp, 0, none⟩) n n) ∧ w'.cell? ⟨p, 3, none⟩ = some (.slice oo s.opn.length oc)) (first | exact ⟨c4, c3⟩ | exact ⟨(cell_other d1).trans c4, (cell_other d1).trans c3⟩) (fail)
  clear c0 c1 c2 c3 c4 c5 c6 z0 z1 f0 f1
  have HW1 := hide (HH.out.setPlace q (s.opn.length : Int)).drew
  have HB1 : Hid (Below base w (w.setCell ⟨gp, q, none⟩ (.int .i64 (s.opn.length : Int))).drew) := ((Below.refl base w).setCell (by have := HH.out.bs; dsimp only; omega) _).drew
  go_wp2
  revert HW1 HB1
  generalize (w.setCell ⟨gp, q, none⟩ (.int .i64 (s.opn.length : Int))).drew = V1
  intro HW1 HB1
  obtain ⟨c0, c1, c2, c3, c4, c5, c6⟩ := HW1.out.fields
  have z0 := HW1.out.place.cell hq
  have z1 := HW1.out.low.cell hq
  have f1 := HW1.out.low.frozen q
  dsimp only at c2 c3 z0 z1
  rw [updI_at] at z0
  go_region_held3 (fun w' => w'.cell? ⟨p, 4, none⟩ = some (.slice (some ⟨gp, 0, none⟩) n n) ∧ w'.cell? ⟨p, 5, none⟩ = some (.slice (some ⟨gw, 0, none⟩) n n) ∧ w'.cell? ⟨gp, q, none⟩ = some (.int .i64 (s.opn.length : Int))) (first | exact ⟨c4, c5, z0⟩ | exact ⟨(cell_other d2).trans c4, (cell_other d2).trans c5, (cell_other d4).trans z0⟩) (fail)
  clear c0 c1 c2 c3 c4 c5 c6 z0 z1 f1
  have HW2 := hide (HW1.out.setLow q (s.opn.length : Int)).drew
  have HB2 : Hid (Below base w (V1.setCell ⟨gw, q, none⟩ (.int .i64 (s.opn.length : Int))).drew) := (HB1.out.setCell (by have := HH.out.bs; dsimp only; omega) _).drew
  have HS1 : Hid (base ≤ V1.heap.size) := by show _ ≤ _; have := HB1.out.size; omega
  have HS2 : Hid (base ≤ ((V1.setCell ⟨gw, q, none⟩ (.int .i64 (s.opn.length : Int))).drew).heap.size) := by show _ ≤ _; have := HB2.out.size; omega
  clear HW1 HB1
  revert HW2 HB2 HS2
  generalize (V1.setCell ⟨gw, q, none⟩ (.int .i64 (s.opn.length : Int))).drew = V2
  intro HW2 HB2 HS2
  obtain ⟨-, -, -, c3, -, -, -⟩ := HW2.out.fields
  have f3 := HW2.out.frozen 3
  dsimp only at c3
  obtain ⟨i0, hi0, hz0, hz1, hz2⟩ := info_parts Try.infoInt9
  have HO := hide (own_kept6 HW2.out.opn (belo1 V2 (.cells #[.int .i64 (q : Int)] 3)))
  dsimp only at HO
  obtain ⟨xs, hxs⟩ : ∃ xs, s.opn.map nv = xs := ⟨_, rfl⟩
  rw [hxs] at HO
  have HXs := hide hxs
  clear hxs
  have HK : Hid (∀ V : World, (V2.alloc (.cells #[.int .i64 (q : Int)] 3)).grownBy V (Value.slice oo s.opn.length oc).ownBlock → V.heap[p]? = V2.heap[p]?) := fun V hV => by
    rw [hV.block p (by simp; have := HW2.out.lt; omega) (fun e => (HW2.out.odis p e.symm).1 rfl), heap_alloc_old _ _ HW2.out.lt]
  have HBx := hide HW2.out.box
  dsimp only at HBx
  go_wp2_with (at_builtin; refine wpList_append_lies _ rfl _ _ 33 rfl base 3 i0 (.int .i64 0) 1 8 Try.underlying33 hi0 hz0 hz1 hz2 rfl (by decide) (.slice oo s.opn.length oc) s.opn.length xs rfl HO.out ⟨V2.heap.size, 0, none⟩ 1 1 [.int .i64 (q : Int)] rfl rfl (World.news_of_block (cs := #[.int .i64 (q : Int)]) (t := 3) (fr := (0, 0)) (heap_alloc_new V2 _)) (by simp [Value.oneCell']) (by decide) (by unfold maxLen; omega) (by omega) (by simp; have := HS2.out; omega) (V2.heap.size + 1) (by simp) ?_)
  intro g1 cap1 V3 ho3 hgr3 hat3 hlt3
  have hp3 := HK.out V3 hgr3
  rw [HBx.out] at hp3
  have k3 : V3.cell? ⟨p, 3, none⟩ = some (.slice oo s.opn.length oc) := by simp [World.cell?, hp3]
  have k3f : V3.frozen? ⟨p, 3, none⟩ = false := by simp [World.frozen?, hp3]
  rw [← HXs.out] at ho3
  have HW3 := hide (HW2.out.pushOpen (q := q) ho3 hgr3 hat3)
  have HB3 : Hid (Below base w (V3.setCell ⟨p, 3, none⟩ (.slice (some ⟨g1, 0, none⟩) (s.opn.length + 1) cap1))) := (below_grown (HB2.out.alloc (by have := HS2.out; exact this) _) (by have := HO.out; exact this) hgr3 (by simp; have := HS2.out; omega)).setCell (by have := HH.out.bs; dsimp only; omega) _
  have k2 : V3.cell? ⟨p, 2, none⟩ = some (.slice po s.path.length pc) := by simp [World.cell?, hp3]
  have k2f : V3.frozen? ⟨p, 2, none⟩ = false := by simp [World.frozen?, hp3]
  clear ho3 hgr3 hat3 hlt3 hp3 HK HBx HO c3 f3 HW2 HB2 HS2 HXs
  obtain ⟨W4, hW4⟩ : ∃ W4, W4 = V3.setCell ⟨p, 3, none⟩ (.slice (some ⟨g1, 0, none⟩) (s.opn.length + 1) cap1) := ⟨_, rfl⟩
  have HE4 := hide hW4
  rw [← hW4] at HW3 HB3
  have hsz4 : W4.heap.size = V3.heap.size := by rw [hW4]; simp
  have HS4 : Hid (base ≤ W4.heap.size) := by show _ ≤ _; have := HB3.out.size; omega
  have HO := hide (own_kept6 HW3.out.path (belo1 W4 (.cells #[.int .i64 (q : Int)] 3)))
  dsimp only at HO
  obtain ⟨ys, hys⟩ : ∃ ys, s.path.map nv = ys := ⟨_, rfl⟩
  rw [hys] at HO
  have HYs := hide hys
  have HK : Hid (∀ V : World, (W4.alloc (.cells #[.int .i64 (q : Int)] 3)).grownBy V (Value.slice po s.path.length pc).ownBlock → V.heap[p]? = W4.heap[p]?) := fun V hV => by
    rw [hV.block p (by simp; have := HW3.out.lt; omega) (fun e => (HW3.out.pdis p e.symm).1 rfl), heap_alloc_old _ _ HW3.out.lt]
  have HBx := hide HW3.out.box
  dsimp only at HBx
  clear hys hW4
  have HSz4 := hide hsz4
  clear hsz4
  go_wp2_with (at_builtin; rw [← HE4.out, ← HSz4.out]; refine wpList_append_lies _ rfl _ _ 33 rfl base 3 i0 (.int .i64 0) 1 8 Try.underlying33 hi0 hz0 hz1 hz2 rfl (by decide) (.slice po s.path.length pc) s.path.length ys rfl HO.out ⟨W4.heap.size, 0, none⟩ 1 1 [.int .i64 (q : Int)] rfl rfl (World.news_of_block (cs := #[.int .i64 (q : Int)]) (t := 3) (fr := (0, 0)) (heap_alloc_new W4 _)) (by simp [Value.oneCell']) (by decide) (by unfold maxLen; omega) (by omega) (by simp; have := HS4.out; omega) (W4.heap.size + 1) (by simp) ?_)
  intro g2 cap2 V5 ho5 hgr5 hat5 hlt5
  have hp5 := HK.out V5 hgr5
  rw [HBx.out] at hp5
  have k5 : V5.cell? ⟨p, 2, none⟩ = some (.slice po s.path.length pc) := by simp [World.cell?, hp5]
  have k5f : V5.frozen? ⟨p, 2, none⟩ = false := by simp [World.frozen?, hp5]
  rw [← HYs.out] at ho5
  have HW5 := hide (HW3.out.pushPath (q := q) ho5 hgr5 hat5)
  have HB5 : Hid (Below base w (V5.setCell ⟨p, 2, none⟩ (.slice (some ⟨g2, 0, none⟩) (s.path.length + 1) cap2))) := (below_grown (HB3.out.alloc (by have := HS4.out; exact this) _) (by have := HO.out; exact this) hgr5 (by simp; have := HS4.out; omega)).setCell (by have := HH.out.bs; dsimp only; omega) _
  clear ho5 hgr5 hat5 hlt5 hp5 HK HBx HO k3 k3f k2 k2f
  go_wp2
  go_end0
  exact ⟨rfl, ⟨_, _, _, _, HW5.out⟩, HB5.out⟩
end Go.Proofs.Ytjifhmlfnnagcaa
