/- 'append(v, x...)': all of a list behind a list of one's own; a copy in new memory. -/
import Derived.Test.YthhoiejjejdffaaPush
namespace Go.Proofs.Ythhoiejjejdffaa
set_option linter.unusedSimpArgs false
set_option linter.unusedVariables false
open Go.RowKit

theorem Grow.empty {α : Type} (E : El α) (e : TypeId) (base : Nat) (W : World) (hb : base ≤ W.heap.size) : Grow E e base (W.alloc (.cells #[] e)) (.slice (some ⟨W.heap.size, 0, none⟩) 0 0) [] :=
  ⟨⟨by simp, .inr ⟨W.heap.size, 0, #[], rfl, hb, heap_alloc_new _ _, Nat.le_refl _, by decide, by simp, by simp⟩⟩, by simp⟩

theorem Grow.of_own {α : Type} {E : El α} {e : TypeId} {base : Nat} {w : World} {v : Value} {l : List α} {n : Nat} (hn : l.length = n) (ho : w.ownsRow base e E.size v n (l.flatMap E.cells)) (hok : ∀ x ∈ l, ∀ (V : World) F, E.ok V F x) : Grow E e base w v l :=
  ⟨by rw [hn]; exact ho, fun x hx => hok x hx _ _⟩

theorem flat_one {α : Type} {E : El α} {w : World} {F : Nat → Prop} {l : List α} (h : ∀ x ∈ l, E.ok w F x) : ∀ u ∈ l.flatMap E.cells, u.oneCell' = true := fun u hu => by
  obtain ⟨x, hx, hu⟩ := List.mem_flatMap.1 hu
  exact E.one (h x hx) u hu

theorem flat_cells {α : Type} {E : El α} {w : World} {F : Nat → Prop} {ao : Option Addr} {n cap : Nat} {l : List α} (h : Lst E w F (.slice ao n cap) l) : ∀ ad, ao = some ad → ∀ j u, (l.flatMap E.cells)[j]? = some u → w.cell? (ad.add j) = some u := by
  intro ad ha j u hu
  have hj := (List.getElem?_eq_some_iff.1 hu).1
  rw [flatE_len] at hj
  have hp : 0 < l.length := by
    rcases Nat.eq_zero_or_pos l.length with h0 | h0
    · rw [h0] at hj; omega
    · exact h0
  obtain ⟨b, off, e2, -, -, hc⟩ := h.row hp
  rw [ha] at e2
  cases e2
  have hd : j = j / E.size * E.size + j % E.size := by rw [Nat.mul_comm]; exact (Nat.div_add_mod j E.size).symm
  have hm : j % E.size < E.size := Nat.mod_lt _ E.pos
  have hi : j / E.size < l.length := by rw [Nat.div_lt_iff_lt_mul E.pos]; exact hj
  obtain ⟨x, hx⟩ : ∃ x, l[j / E.size]? = some x := ⟨_, List.getElem?_eq_getElem hi⟩
  have h1 := flatE_at E l _ _ x hx hm
  rw [← hd, hu] at h1
  have h2 := hc _ x hx (j % E.size) u h1.symm
  rw [addr_add]
  rw [Nat.add_assoc, ← hd] at h2
  exact h2

section
variable {P : Program} {α : Type}
theorem step_spread (E : El α) {w0 w : World} {ops : Array Oper} {o : Oper} {a : Act} {K : Act → World → Prop} {Q : Exit → Act → World → Prop} {Z : Prop} (hgd : o.guard = none) (s x : Operand) (t : TypeId)
    (ho : o.op = .call { callee := .builtin .append, args := #[s, x], argTypes := #[t, t] })
    (base : Nat) (e : TypeId) (i : TypeInfo) (z : Value) (bytes : Nat) (ht : P.underlying t = some (.slice e)) (hi : P.info? e = some i) (hz : i.zero = some z)
    (hsize : i.size = E.size) (hby : i.bytes = bytes) (hzs : z.cells.size = E.size) (hbytes : bytes ≤ 4096)
    (v : Value) (l : List α) (hs : a.eval s = v) (hg : Grow E e base w v l)
    (F : Nat → Prop) (ao : Option Addr) (m c : Nat) (l2 : List α) (hm : l2.length = m) (hx : a.eval x = .slice ao m c) (hX : Lst E w F (.slice ao m c) l2)
    (hok : ∀ y ∈ l ++ l2, ∀ (V : World) G, E.ok V G y) (hl : l.length + m < 1073741824) (hB : Below base w0 w) (hb : base ≤ w.heap.size)
    (h : ∀ v' w', Hid (Grow E e base w' v' (l ++ l2)) → Hid (Below base w0 w') → Hid (w.grownBy w' v.ownBlock) → K (a.put o.dst v') w') :
    if Region.wanted o (yielded ops a.tmps) = true then Oper.wp P o a w K Q else Z := by
  subst hm
  obtain ⟨ao', cap', e1, h1, h2, h3⟩ := hX.shape
  cases e1
  refine step_append_any hgd s x t ho base e i z E.size bytes ht hi hz hsize hby hzs E.pos v l.length (l.flatMap E.cells) hs hg.1 ao l2.length c (l2.flatMap E.cells) hx h2 (flatE_len E l2) (flat_cells hX) (flat_one fun y hy => hX.ok hy) (by unfold maxLen; omega) ?_ hb ?_
  · have := Nat.mul_le_mul (Nat.le_of_lt hl) hbytes
    omega
  · intro v' w' ho' hgr
    exact h v' w' (Grow.of_own List.length_append (by rw [List.flatMap_append]; exact ho') hok) (below_grown hB hg.1 hgr hb) hgr

theorem wpList_spread (E : El α) {w0 w : World} {ops : Array Oper} {rest : List Oper} {o : Oper} {a : Act} {Q : Exit → Act → World → Prop} (hgd : o.guard = none) (s x : Operand) (t : TypeId)
    (ho : o.op = .call { callee := .builtin .append, args := #[s, x], argTypes := #[t, t] })
    (base : Nat) (e : TypeId) (i : TypeInfo) (z : Value) (bytes : Nat) (ht : P.underlying t = some (.slice e)) (hi : P.info? e = some i) (hz : i.zero = some z)
    (hsize : i.size = E.size) (hby : i.bytes = bytes) (hzs : z.cells.size = E.size) (hbytes : bytes ≤ 4096)
    (v : Value) (l : List α) (hs : a.eval s = v) (hg : Grow E e base w v l)
    (F : Nat → Prop) (ao : Option Addr) (m c : Nat) (l2 : List α) (hm : l2.length = m) (hx : a.eval x = .slice ao m c) (hX : Lst E w F (.slice ao m c) l2)
    (hok : ∀ y ∈ l ++ l2, ∀ (V : World) G, E.ok V G y) (hl : l.length + m < 1073741824) (hB : Below base w0 w) (hb : base ≤ w.heap.size)
    (h : ∀ v' w', Hid (Grow E e base w' v' (l ++ l2)) → Hid (Below base w0 w') → Hid (w.grownBy w' v.ownBlock) → wpList P ops Q rest (a.put o.dst v') w') : wpList P ops Q (o :: rest) a w := by
  subst hm
  obtain ⟨ao', cap', e1, h1, h2, h3⟩ := hX.shape
  cases e1
  refine wpList_append_any hgd s x t ho base e i z E.size bytes ht hi hz hsize hby hzs E.pos v l.length (l.flatMap E.cells) hs hg.1 ao l2.length c (l2.flatMap E.cells) hx h2 (flatE_len E l2) (flat_cells hX) (flat_one fun y hy => hX.ok hy) (by unfold maxLen; omega) ?_ hb ?_
  · have := Nat.mul_le_mul (Nat.le_of_lt hl) hbytes
    omega
  · intro v' w' ho' hgr
    exact h v' w' (Grow.of_own List.length_append (by rw [List.flatMap_append]; exact ho') hok) (below_grown hB hg.1 hgr hb) hgr
end
end Go.Proofs.Ythhoiejjejdffaa
