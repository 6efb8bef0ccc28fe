/- A list of the call's own that loses its head and grows at its end: reached = reached[1:], append(reached, x). -/
import Derived.Test.YtmbkjgfnnpopgabOrderPure
import Derived.Deep.AppendSrc
namespace Go.Proofs.Ytmbkjgfnnpopgab
set_option linter.unusedSimpArgs false
set_option linter.unusedVariables false
open Go.RowKit Go.Maps
variable {P : Program}

structure QAt (base : Nat) (w : World) (g off cap : Nat) (l : List Nat) : Prop where
  ge : base ≤ g
  lt : g < w.heap.size
  le : l.length ≤ cap
  all : ∀ j, j < cap → (w.cell? ⟨g, off + j, none⟩).isSome = true ∧ w.frozen? ⟨g, off + j, none⟩ = false
  el : ∀ (i x : Nat), l[i]? = some x → w.cell? ⟨g, off + i, none⟩ = some (nv x)

theorem QAt.same {base : Nat} {w w' : World} {g off cap : Nat} {l : List Nat} (h : QAt base w g off cap l) (hs : w.heap.size ≤ w'.heap.size) (hb : w'.heap[g]? = w.heap[g]?) : QAt base w' g off cap l :=
  ⟨h.ge, Nat.lt_of_lt_of_le h.lt hs, h.le, fun j hj => by rw [World.cell?_of_block (w := w) hb, World.frozen?_of_block (w := w) hb]; exact h.all j hj, fun i x hi => by rw [World.cell?_of_block (w := w) hb]; exact h.el i x hi⟩
theorem QAt.pop {base : Nat} {w : World} {g off cap x : Nat} {l : List Nat} (h : QAt base w g off cap (x :: l)) : QAt base w g (off + 1) (cap - 1) l :=
  ⟨h.ge, h.lt, by have := h.le; simp at this; omega, fun j hj => by have := h.all (j + 1) (by omega); rw [Nat.add_assoc, Nat.add_comm 1 j]; exact this, fun i y hi => by have := h.el (i + 1) y (by simpa using hi); rw [Nat.add_assoc, Nat.add_comm 1 i]; exact this⟩
theorem QAt.none_ {base : Nat} {w : World} {g off cap : Nat} {l : List Nat} (h : QAt base w g off cap l) : QAt base w g off 0 [] :=
  ⟨h.ge, h.lt, by simp, fun j hj => by omega, fun i x hi => by simp at hi⟩

theorem wpList_qpush {w : World} {ops : Array Oper} {rest : List Oper} {o : Oper} {a : Act} {Q : Exit → Act → World → Prop} (hgd : o.guard = none) (s x : Operand) (t : TypeId)
    (ho : o.op = .call { callee := .builtin .append, args := #[s, x], argTypes := #[t, t] })
    (base : Nat) (e : TypeId) (i : TypeInfo) (z : Value) (ht : P.underlying t = some (.slice e)) (hi : P.info? e = some i) (hz : i.zero = some z)
    (hsize : i.size = 1) (hby : i.bytes = 8) (hzs : z.cells.size = 1)
    (g off n cap : Nat) (l : List Nat) (hn : l.length = n) (hs : a.eval s = .slice (some ⟨g, off, none⟩) n cap) (hq : QAt base w g off cap l)
    (y : Nat) (ad c : Nat) (hx : a.eval x = .slice (some ⟨ad, 0, none⟩) 1 c) (hnew : w.cell? ⟨ad, 0, none⟩ = some (nv y))
    (hl : n < 1000000) (hb : base ≤ w.heap.size)
    (h : ∀ g' off' cap' w', Hid (QAt base w' g' off' cap' (l ++ [y])) → Hid (Only (fun b => b = g) w w') → wpList P ops Q rest (a.put o.dst (.slice (some ⟨g', off', none⟩) (n + 1) cap')) w') : wpList P ops Q (o :: rest) a w := by
  subst hn
  have hnews : ∀ (j : Nat) (u : Value), [nv y][j]? = some u → w.cell? ((⟨ad, 0, none⟩ : Addr).add j) = some u := fun j u hu => by
    have hj : j = 0 := by have := (List.getElem?_eq_some_iff.1 hu).1; simpa using this
    subst hj
    simp only [List.getElem?_cons_zero, Option.some.injEq] at hu
    subst hu
    rw [addr_add, Nat.zero_add]
    exact hnew
  refine wpList_plain hgd fun K hK => ?_
  by_cases hr : l.length + 1 ≤ cap
  · have hrun : (Builtin.append_ #[t, t] o.type #[.slice (some ⟨g, off, none⟩) l.length cap, .slice (some ⟨ad, 0, none⟩) 1 c]).run P w = .ok (.slice (some ⟨g, off, none⟩) (l.length + 1) cap) (w.setCell ⟨g, off + l.length, none⟩ (nv y)) := by
      have h1 := run_append_room_src w t t o.type e i ht hi g off l.length cap (.slice (some ⟨ad, 0, none⟩) 1 c) 1 [nv y] (Src.ofSlice w ht ⟨ad, 0, none⟩ 1 c [nv y] (by rw [hsize]; rfl) hnews (by simp [nv, Value.oneCell'])) hr (fun j hj => by
        have hj0 : j = 0 := by simpa using hj
        subst hj0
        rw [hsize, Nat.mul_one, Nat.add_zero]
        exact (hq.all l.length (by omega)).1) (fun j hj => by
        have hj0 : j = 0 := by simpa using hj
        subst hj0
        rw [hsize, Nat.mul_one, Nat.add_zero]
        exact (hq.all l.length (by omega)).2)
      rw [h1, hsize, Nat.mul_one]
      rfl
    unfold Oper.wp execOp
    simp only [ho, resolve, invoke, builtin, Sem.run_bind, Sem.run_pure, Result.andThen_ok, List.map_toArray, List.map_cons, List.map_nil, hs, hx, hrun]
    refine hK _ _ (h g off cap _ ?_ ?_)
    · have hself : (w.setCell ⟨g, off + l.length, none⟩ (nv y)).cell? ⟨g, off + l.length, none⟩ = some (nv y) := World.cell?_setCell_same' _ _ _ (hq.all l.length (by omega)).1
      have hoth : ∀ j, j ≠ l.length → (w.setCell ⟨g, off + l.length, none⟩ (nv y)).cell? ⟨g, off + j, none⟩ = w.cell? ⟨g, off + j, none⟩ := fun j hj => World.cell?_setCell_other _ _ _ _ (fun e => by injection e with _ e2 _; omega)
      refine ⟨hq.ge, by simpa [World.setCell] using hq.lt, by simp; omega, fun j hj => ⟨?_, by simpa using (hq.all j hj).2⟩, fun i x hi => ?_⟩
      · by_cases e : j = l.length
        · subst e; rw [hself]; rfl
        · rw [hoth j e]; exact (hq.all j hj).1
      · by_cases e : i = l.length
        · subst e
          rw [List.getElem?_append_right (Nat.le_refl _), Nat.sub_self] at hi
          simp only [List.getElem?_cons_zero, Option.some.injEq] at hi
          rw [hself, hi]
        · have hlt : i < l.length := by have := (List.getElem?_eq_some_iff.1 hi).1; simp at this; omega
          rw [List.getElem?_append_left hlt] at hi
          rw [hoth i e]
          exact hq.el i x hi
    · exact Only.setCell (S := fun b => b = g) (Only.refl _ w) (p := ⟨g, off + l.length, none⟩) rfl _
  · have hrun := run_append_grow w t o.type e i z ht hi hz ⟨g, off, none⟩ l.length cap (l.map nv) (by rw [List.length_map, hsize, Nat.mul_one]) (fun j u hu => by
      rw [addr_add]
      rw [List.getElem?_map] at hu
      cases hx : l[j]? with
      | none => rw [hx] at hu; cases hu
      | some x =>
        rw [hx] at hu
        simp only [Option.map_some, Option.some.injEq] at hu
        rw [← hu]
        exact hq.el j x hx) ⟨ad, 0, none⟩ 1 c [nv y] (by rw [hsize]; rfl) hnews (by omega) (by omega) (by
        have := nextslicecap_le (need := l.length + 1) (old := cap) (by omega)
        rw [hby]
        omega)
    unfold Oper.wp execOp
    simp only [ho, resolve, invoke, builtin, Sem.run_bind, Sem.run_pure, Result.andThen_ok, List.map_toArray, List.map_cons, List.map_nil, hs, hx, hrun]
    have hgc := grownCap_ge w (l.length + 1) cap e
    obtain ⟨gc, hgce⟩ : ∃ gc, grownCap w (l.length + 1) cap e = gc := ⟨_, rfl⟩
    rw [hgce] at hgc ⊢
    have hnz := heap_alloc_new w.drew (.cells ((l.map nv).toArray ++ [nv y].toArray ++ Builtin.zeroCells z.cells (gc - (l.length + 1))) e)
    have hdr : w.drew.heap.size = w.heap.size := rfl
    rw [hdr] at hnz
    refine hK _ _ (h _ 0 _ _ ?_ ?_)
    · refine ⟨hb, by show _ < (w.drew.heap.push _).size; rw [Array.size_push]; exact Nat.lt_succ_self _, by simp; omega, fun j hj => ⟨?_, ?_⟩, fun i x hi => ?_⟩
      · rw [Nat.zero_add]
        simp only [World.cell?, hnz]
        rw [Array.getElem?_eq_getElem (by simp [size_zeroCells, hzs]; omega)]
        rfl
      · simp only [World.frozen?, hnz]; simp
      · rw [Nat.zero_add]
        simp only [World.cell?, hnz]
        have hlt : i < (l ++ [y]).length := (List.getElem?_eq_some_iff.1 hi).1
        rw [Array.getElem?_append_left (by simpa using hlt)]
        have : ((l.map nv).toArray ++ [nv y].toArray) = ((l ++ [y]).map nv).toArray := by simp
        rw [this, List.getElem?_toArray, List.getElem?_map, hi]
        rfl
    · exact ((Only.refl _ w).drew).alloc _
end Go.Proofs.Ytmbkjgfnnpopgab
