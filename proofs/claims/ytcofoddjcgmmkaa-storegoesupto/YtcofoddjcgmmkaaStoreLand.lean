/- A list of rows that is put into a variable stays as it is. -/
import Derived.Test.YtcofoddjcgmmkaaStoreLaw10
namespace Go.Proofs.Ytcofoddjcgmmkaa
set_option linter.unusedSimpArgs false
set_option linter.unusedVariables false
open Go.RowKit Go.Maps

theorem cell_land {W : World} {q : Nat} {T : TypeId} (hq : W.heap[q]? = some (.cells #[.slice none 0 0] T (0, 0))) {b o : Nat} {x : Int} (hc : W.cell? ⟨b, o, none⟩ = some (.int .i64 x)) : b ≠ q := by
  intro e
  subst e
  rw [World.cell?, hq] at hc
  cases o with
  | zero => simp at hc
  | succ o => simp at hc
theorem ints_land {W : World} {own : Own} {q : Nat} {T : TypeId} (hq : W.heap[q]? = some (.cells #[.slice none 0 0] T (0, 0))) (v : Value) {ao : Option Addr} {len : Nat} {l : List Int} (h : FreeInts W own ao len l) : FreeInts (W.setCell ⟨q, 0, none⟩ v) own ao len l := by
  obtain ⟨⟨h1, h2, h3, h4⟩, h5⟩ := h
  refine ⟨⟨h1, h2, h3, fun hp => ?_⟩, h5⟩
  obtain ⟨b, off, rfl, hc⟩ := h4 hp
  refine ⟨b, off, rfl, fun j x hx => ?_⟩
  have hcc := hc j x hx
  rw [World.cell?_of_block (Below.heap_setCell _ _ _ _ (cell_land hq hcc))]
  exact hcc
theorem rows_land {W : World} {own : Own} {q : Nat} {T : TypeId} (hq : W.heap[q]? = some (.cells #[.slice none 0 0] T (0, 0))) (v : Value) {ao : Option Addr} {n : Nat} {R : List Rw} (h : FreeRows W own ao n R) : FreeRows (W.setCell ⟨q, 0, none⟩ v) own ao n R := by
  obtain ⟨h1, h2, h3, h4⟩ := h
  refine ⟨h1, h2, h3, fun hp => ?_⟩
  obtain ⟨b, off, rfl, hn, hc⟩ := h4 hp
  refine ⟨b, off, rfl, hn, fun i r hr => ?_⟩
  obtain ⟨c0, ao', cap, c1, hf⟩ := hc i r hr
  have hb := cell_land hq c0
  have hk : (W.setCell ⟨q, 0, none⟩ v).heap[b]? = W.heap[b]? := Below.heap_setCell _ _ _ _ hb
  exact ⟨by rw [World.cell?_of_block hk]; exact c0, ao', cap, by rw [World.cell?_of_block hk]; exact c1, ints_land hq v hf⟩
/-- A list of one row of no args, at K. -/
theorem one_at {V : World} {own : Own} (hl : own.lim V.heap.size) {q : Int} (hq : I64 q) {K : Nat} (hK : V.heap.size = K) : FreeRows (V.alloc (.cells #[.int .i64 q, .slice none 0 0] 31)) own (some ⟨K, 0, none⟩) 1 [(q, [])] := by
  subst hK
  exact free_one V hl hq (l := []) (a := none) (c := 0) ⟨⟨rfl, by decide, by simp, fun h => absurd h (by decide)⟩, fun h => absurd h (by decide)⟩
theorem box_at {V : World} {o : Obj} {K : Nat} (hK : V.heap.size = K) : (V.alloc o).heap[K]? = some o := by
  subst hK
  exact heap_alloc_new V o
theorem lt_heap8 {w : World} {b : Nat} {o : Obj} (h : w.heap[b]? = some o) : b < w.heap.size := (Array.getElem?_eq_some_iff.1 h).1
theorem box_old {V : World} {o o' : Obj} {K : Nat} (hK : V.heap.size = K) : ((V.alloc o).alloc o').heap[K]? = some o := by
  subst hK
  rw [heap_alloc_old _ _ (by simp)]
  exact heap_alloc_new V o
end Go.Proofs.Ytcofoddjcgmmkaa
