/- One element more behind a list of one's own that grows by append. -/
import Derived.Test.YtnpmdepbfobebaaGreatDoorLists
import Derived.Test.YtnpmdepbfobebaaGreatDoorOpen
namespace Go.Proofs.YtnpmdepbfobebaaGreatDoor
set_option linter.unusedSimpArgs false
set_option linter.unusedVariables false
open Go.RowKit

section
variable {P : Program} {α : Type}

theorem wpList_push (E : El α) {w0 w : World} {ops : Array Oper} {rest : List Oper} {o : Oper} {a : Act} {Q : Exit → Act → World → Prop} (hgd : o.guard = none) (s x : Operand) (t : TypeId)
    (ho : o.op = .call { callee := .builtin .append, args := #[s, x], argTypes := #[t, t] })
    (base : Nat) (e : TypeId) (i : TypeInfo) (z : Value) (bytes : Nat) (ht : P.underlying t = some (.slice e)) (hi : P.info? e = some i) (hz : i.zero = some z)
    (hsize : i.size = E.size) (hby : i.bytes = bytes) (hzs : z.cells.size = E.size) (hbytes : bytes ≤ 4096)
    (v : Value) (l : List α) (n : Nat) (hn : l.length = n) (hs : a.eval s = v) (hg : Grow E e base w v l)
    (y : α) (ad c : Nat) (hx : a.eval x = .slice (some ⟨ad, 0, none⟩) 1 c) (hnew : ∀ j u, (E.cells y)[j]? = some u → w.cell? ⟨ad, j, none⟩ = some u)
    (hok : E.ok w (fun b => base ≤ b ∧ v.ownBlock ≠ some b) y) (hl : n + 1 < 1073741824) (hB : Below base w0 w) (hb : base ≤ w.heap.size)
    (h : ∀ g cap w', Hid (Grow E e base w' (.slice (some ⟨g, 0, none⟩) (n + 1) cap) (l ++ [y])) → Hid (Below base w0 w') → Hid (w.grownBy w' v.ownBlock) → wpList P ops Q rest (a.put o.dst (.slice (some ⟨g, 0, none⟩) (n + 1) cap)) w') : wpList P ops Q (o :: rest) a w := by
  subst hn
  refine wpList_append_lies w hgd s x t ho base e i z E.size bytes ht hi hz hsize hby hzs E.pos v l.length (l.flatMap E.cells) hs hg.1 ⟨ad, 0, none⟩ 1 c (E.cells y) hx (by rw [E.len, Nat.one_mul]) (fun j u hu => by rw [addr_add, Nat.zero_add]; exact hnew j u hu) (E.one hok) (by decide) (by unfold maxLen; omega) ?_ hb w.heap.size rfl ?_
  · have := Nat.mul_le_mul (Nat.le_of_lt hl) hbytes
    omega
  · intro g cap w' ho' hgr hat hlt
    exact h g cap w' (hg.push hok rfl rfl ho' hgr hat) (below_grown hB hg.1 hgr hb) hgr

theorem step_push (E : El α) {w0 w : World} {ops : Array Oper} {o : Oper} {a : Act} {K : Act → World → Prop} {Q : Exit → Act → World → Prop} {Z : Prop} (hgd : o.guard = none) (s x : Operand) (t : TypeId)
    (ho : o.op = .call { callee := .builtin .append, args := #[s, x], argTypes := #[t, t] })
    (base : Nat) (e : TypeId) (i : TypeInfo) (z : Value) (bytes : Nat) (ht : P.underlying t = some (.slice e)) (hi : P.info? e = some i) (hz : i.zero = some z)
    (hsize : i.size = E.size) (hby : i.bytes = bytes) (hzs : z.cells.size = E.size) (hbytes : bytes ≤ 4096)
    (v : Value) (l : List α) (n : Nat) (hn : l.length = n) (hs : a.eval s = v) (hg : Grow E e base w v l)
    (y : α) (ad c : Nat) (hx : a.eval x = .slice (some ⟨ad, 0, none⟩) 1 c) (hnew : ∀ j u, (E.cells y)[j]? = some u → w.cell? ⟨ad, j, none⟩ = some u)
    (hok : E.ok w (fun b => base ≤ b ∧ v.ownBlock ≠ some b) y) (hl : n + 1 < 1073741824) (hB : Below base w0 w) (hb : base ≤ w.heap.size)
    (h : ∀ g cap w', Hid (Grow E e base w' (.slice (some ⟨g, 0, none⟩) (n + 1) cap) (l ++ [y])) → Hid (Below base w0 w') → Hid (w.grownBy w' v.ownBlock) → K (a.put o.dst (.slice (some ⟨g, 0, none⟩) (n + 1) cap)) w') :
    if Region.wanted o (yielded ops a.tmps) = true then Oper.wp P o a w K Q else Z := by
  subst hn
  refine step_append_lies w hgd s x t ho base e i z E.size bytes ht hi hz hsize hby hzs E.pos v l.length (l.flatMap E.cells) hs hg.1 ⟨ad, 0, none⟩ 1 c (E.cells y) hx (by rw [E.len, Nat.one_mul]) (fun j u hu => by rw [addr_add, Nat.zero_add]; exact hnew j u hu) (E.one hok) (by decide) (by unfold maxLen; omega) ?_ hb w.heap.size rfl ?_
  · have := Nat.mul_le_mul (Nat.le_of_lt hl) hbytes
    omega
  · intro g cap w' ho' hgr hat hlt
    exact h g cap w' (hg.push hok rfl rfl ho' hgr hat) (below_grown hB hg.1 hgr hb) hgr
end

/-- What stands in a new block of its own. -/
theorem new_cells {w : World} {cs : Array Value} {t : TypeId} : ∀ (j : Nat) (u : Value), cs.toList[j]? = some u → (w.alloc (.cells cs t)).cell? ⟨w.heap.size, j, none⟩ = some u := by
  intro j u hu
  have hh : (w.alloc (.cells cs t)).heap[w.heap.size]? = some (.cells cs t) := heap_alloc_new w _
  unfold World.cell?
  rw [hh]
  simpa using hu
end Go.Proofs.YtnpmdepbfobebaaGreatDoor
