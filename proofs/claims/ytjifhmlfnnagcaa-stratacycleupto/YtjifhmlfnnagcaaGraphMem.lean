/- The members of components, as lists in memory, each in a block of its own. -/
import Derived.Test.YtjifhmlfnnagcaaGraphRelease
namespace Go.Proofs.Ytjifhmlfnnagcaa
set_option linter.unusedSimpArgs false
set_option linter.unusedVariables false
open Go.RowKit Go.Maps

def updV (M : Nat → Value) (r : Nat) (x : Value) : Nat → Value := fun i => if i = r then x else M i
def updL (M : Nat → List Nat) (r : Nat) (x : List Nat) : Nat → List Nat := fun i => if i = r then x else M i
theorem updV_at (M : Nat → Value) (r : Nat) (x : Value) : updV M r x r = x := by simp [updV]
theorem updV_ne (M : Nat → Value) {r i : Nat} (x : Value) (h : i ≠ r) : updV M r x i = M i := by simp [updV, h]
theorem updL_at (M : Nat → List Nat) (r : Nat) (x : List Nat) : updL M r x r = x := by simp [updL]
theorem updL_ne (M : Nat → List Nat) {r i : Nat} (x : List Nat) (h : i ≠ r) : updL M r x i = M i := by simp [updL, h]

structure MemAt (base : Nat) (w : World) (gm n : Nat) (M : Nat → Value) (mem : Nat → List Nat) : Prop where
  row : w.rowIs gm 33 n M
  own : ∀ i, i < n → w.ownsRow base 3 1 (M i) (mem i).length ((mem i).map nv)
  ngm : ∀ i, i < n → (M i).ownBlock ≠ some gm
  dis : ∀ i j, i < n → j < n → i ≠ j → ∀ b, (M i).ownBlock = some b → (M j).ownBlock ≠ some b
  bs : base ≤ gm

section
variable {base : Nat} {w w' : World} {gm n : Nat} {M : Nat → Value} {mem : Nat → List Nat}
theorem MemAt.kept (h : MemAt base w gm n M mem) (hb : Below w.heap.size w w') : MemAt base w' gm n M mem where
  row := h.row.of_block (hb.block _ h.row.lt)
  own := fun i hi => own_kept6 (h.own i hi) hb
  ngm := h.ngm
  dis := h.dis
  bs := h.bs
theorem MemAt.shape (h : MemAt base w gm n M mem) {i : Nat} (hi : i < n) : ∃ ao cap, M i = .slice ao (mem i).length cap := by
  obtain ⟨ao, cap, e, _⟩ := own_shape6 (h.own i hi)
  exact ⟨ao, cap, e⟩
/-- One more behind one of the lists. -/
theorem MemAt.push (h : MemAt base w gm n M mem) {r q g cap : Nat} {V : World} {o : Obj} (hr : r < n) (ho : V.ownsRow base 3 1 (.slice (some ⟨g, 0, none⟩) ((mem r).length + 1) cap) ((mem r).length + 1) ((mem r).map nv ++ [nv q])) (hgr : (w.alloc o).grownBy V (M r).ownBlock) (hat : (M r).ownBlock = some g ∨ g = w.heap.size + 1) :
    MemAt base (V.setCell ⟨gm, r, none⟩ (.slice (some ⟨g, 0, none⟩) ((mem r).length + 1) cap)) gm n (updV M r (.slice (some ⟨g, 0, none⟩) ((mem r).length + 1) cap)) (updL mem r (mem r ++ [q])) := by
  have hsz : (w.alloc o).heap.size = w.heap.size + 1 := by simp
  have keep : ∀ b, b < w.heap.size → (M r).ownBlock ≠ some b → V.heap[b]? = w.heap[b]? := fun b hb hne => by
    rw [hgr.block b (by omega) (fun e => hne e.symm), heap_alloc_old w o (by exact hb)]
  have gne : ∀ b, b < w.heap.size → (M r).ownBlock ≠ some b → g ≠ b := fun b hb hne e => by
    rcases hat with h1 | h1
    · rw [e] at h1; exact hne h1
    · omega
  have gm_ne := gne gm h.row.lt (h.ngm r hr)
  refine ⟨?_, fun i hi => ?_, fun i hi => ?_, fun i j hi hj hij b hb => ?_, h.bs⟩
  · refine ((h.row.of_block (keep gm h.row.lt (h.ngm r hr))).set r _).congr fun i _ => ?_
    unfold updV
    rfl
  · by_cases e : i = r
    · subst e
      rw [updV_at, updL_at, List.length_append, List.map_append]
      refine own_same ho fun b hb => heap_other ?_
      simp only [Value.ownBlock, Option.some.injEq] at hb
      rw [← hb]; exact gm_ne
    · rw [updV_ne _ _ e, updL_ne _ _ e]
      refine own_same (h.own i hi) fun b hb => ?_
      have h1 := own_lt6 (h.own i hi) b hb
      have h2 := h.dis i r hi hr e b hb
      rw [heap_other (fun e2 => h.ngm i hi (by rw [hb, e2]))]
      exact keep b h1 h2
  · by_cases e : i = r
    · subst e
      rw [updV_at]
      intro e2
      simp only [Value.ownBlock, Option.some.injEq] at e2
      exact gm_ne e2
    · rw [updV_ne _ _ e]; exact h.ngm i hi
  · by_cases e : i = r
    · subst e
      rw [updV_at] at hb
      simp only [Value.ownBlock, Option.some.injEq] at hb
      rw [updV_ne _ _ (fun e2 => hij e2.symm), ← hb]
      intro e2
      exact gne g (own_lt6 (h.own j hj) g e2) (fun e3 => h.dis i j hi hj hij g e3 e2) rfl
    · rw [updV_ne _ _ e] at hb
      by_cases e2 : j = r
      · subst e2
        rw [updV_at]
        intro e3
        simp only [Value.ownBlock, Option.some.injEq] at e3
        exact gne b (own_lt6 (h.own i hi) b hb) (fun e4 => h.dis i j hi hj hij b hb e4) e3
      · rw [updV_ne _ _ e2]; exact h.dis i j hi hj hij b hb
end

theorem Try.infoInts : (Try.prog.info? 33).map (fun i => (i.zero, i.size, i.bytes)) = some (some (.slice none 0 0), 1, 24) := by kernel_rfl

/-- Nothing in them yet. -/
theorem MemAt.made (base : Nat) (w : World) (n : Nat) (hb : base ≤ w.heap.size) : MemAt base (w.alloc (.cells (madeCells #[.slice none 0 0] n) 33)) w.heap.size n (fun _ => .slice none 0 0) (fun _ => []) where
  row := World.rowIs_made _ _ _ _
  own := fun i _ => World.ownsRow_nil _ _ _ _
  ngm := fun i _ e => by cases e
  dis := fun i j _ _ _ b e => by cases e
  bs := hb
end Go.Proofs.Ytjifhmlfnnagcaa
