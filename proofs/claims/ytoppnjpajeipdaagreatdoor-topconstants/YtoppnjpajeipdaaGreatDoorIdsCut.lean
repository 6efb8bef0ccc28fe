/- What cutting an Ids does to memory: keys taken out of the map, the list's tail cleared, the list shortened. Nothing of the program's own text. -/
import Derived.Test.YtoppnjpajeipdaaGreatDoorIdsBase
import Derived.Laws.IdiomCopy
namespace Go.Proofs.YtoppnjpajeipdaaGreatDoor
set_option linter.unusedSimpArgs false
set_option linter.unusedVariables false
open Go.RowKit Go.Maps

theorem setCells_block {e : TypeId} {fr : Nat × Nat} (g : Nat) : ∀ (vs : List Value) (o : Nat) (w : World) (cur : Array Value), w.heap[g]? = some (.cells cur e fr) →
    ∃ cur', (w.setCells g o vs).heap[g]? = some (.cells cur' e fr) ∧ cur'.size = cur.size ∧ ∀ j, j < o → cur'[j]? = cur[j]?
  | [], _, _, cur, h => ⟨cur, h, rfl, fun _ _ => rfl⟩
  | v :: r, o, w, cur, h => by
    have h1 : (w.setCell ⟨g, o, none⟩ v).heap[g]? = some (.cells (cur.setIfInBounds o v) e fr) := by simp [World.setCell, Array.getElem?_modify, h]
    obtain ⟨cur', a, b, c⟩ := setCells_block g r (o + 1) _ _ h1
    refine ⟨cur', a, by rw [b]; simp, fun j hj => ?_⟩
    rw [c j (by omega), Array.getElem?_setIfInBounds_ne (by omega)]

theorem setCells_only (g : Nat) : ∀ (vs : List Value) (o : Nat) (w : World), Only (fun k => k = g) w (w.setCells g o vs)
  | [], _, _ => Only.refl _ _
  | v :: r, o, w => Only.trans (S := fun k => k = g) ((Only.refl (fun k => k = g) w).setCell (p := ⟨g, o, none⟩) rfl v) (setCells_only g r (o + 1) _)

section
variable {P : Program}
theorem run_clear_rows (w : World) (t e : TypeId) (z : Value) (ht : P.underlying t = some (.slice e)) (hv : ∀ w, (zeroValue e).run P w = .ok z w) (h1 : ∀ u ∈ z.cells.toList, u.oneCell' = true) (hs : 0 < z.cells.size) (b o n c : Nat) (hn : 0 < n)
    (hc : ∀ j, j < n * z.cells.size → (w.cell? ⟨b, o + j, none⟩).isSome = true) (hf : ∀ j, j < n * z.cells.size → w.frozen? ⟨b, o + j, none⟩ = false) :
    ∃ L : List Value, ∀ ty, (Builtin.clear_ #[t] ty #[.slice (some ⟨b, o, none⟩) n c]).run P w = .ok (.tuple #[]) (w.setCells b o L) := by
  have hst := run_storeCells_cells (P := P) b o (Builtin.zeroCells z.cells n).toList 0 w (by simpa [Builtin.zeroCells] using hc) (by simpa [Builtin.zeroCells] using hf) (by
    intro u hu
    simp only [Builtin.zeroCells, Array.toList_map, List.mem_map] at hu
    obtain ⟨i, _, rfl⟩ := hu
    apply h1
    have hlt : i % z.cells.size < z.cells.size := Nat.mod_lt _ hs
    rw [getElem!_pos z.cells (i % z.cells.size) hlt]
    exact Array.getElem_mem_toList hlt)
  simp only [Nat.add_zero] at hst
  obtain ⟨m, rfl⟩ : ∃ m, n = m + 1 := ⟨n - 1, by omega⟩
  exact ⟨(Builtin.zeroCells z.cells (m + 1)).toList, fun ty => by simp [Builtin.clear_, run_underlying ht, hv, hst]⟩
end

theorem flatMap_at {α : Type} {cells : α → List Value} {size : Nat} (hc : ∀ k, (cells k).length = size) : ∀ (ks : List α) (i j : Nat) (k : α), ks[i]? = some k → j < size → (ks.flatMap cells)[i * size + j]? = (cells k)[j]?
  | [], i, j, k, h, _ => by simp at h
  | a :: r, 0, j, k, h, hj => by
    simp only [List.getElem?_cons_zero, Option.some.injEq] at h
    subst h
    rw [List.flatMap_cons, Nat.zero_mul, Nat.zero_add, List.getElem?_append_left (by rw [hc]; exact hj)]
  | a :: r, i + 1, j, k, h, hj => by
    rw [List.getElem?_cons_succ] at h
    rw [List.flatMap_cons, List.getElem?_append_right (by rw [hc, Nat.succ_mul]; omega), hc, ← flatMap_at hc r i j k h hj]
    congr 1
    rw [Nat.succ_mul]; omega

theorem flatMap_len {α : Type} {cells : α → List Value} {size : Nat} (hc : ∀ k, (cells k).length = size) : ∀ (ks : List α), (ks.flatMap cells).length = ks.length * size
  | [] => by simp
  | a :: r => by rw [List.flatMap_cons, List.length_append, hc, flatMap_len hc r, List.length_cons, Nat.succ_mul]; omega

theorem flatMap_take {α : Type} {cells : α → List Value} {size : Nat} (hc : ∀ k, (cells k).length = size) : ∀ (ks : List α) (c : Nat), (ks.take c).flatMap cells = (ks.flatMap cells).take (c * size)
  | [], c => by simp
  | a :: r, 0 => by simp
  | a :: r, c + 1 => by
    rw [List.take_succ_cons, List.flatMap_cons, List.flatMap_cons, List.take_append, hc, flatMap_take hc r c, List.take_of_length_le (l := cells a) (by rw [hc, Nat.succ_mul]; omega)]
    congr 2
    rw [Nat.succ_mul]; omega

section
variable {α : Type} {P : Program} {tk te ts : TypeId} {size : Nat} {cells : α → List Value} {lit : α → Lit} {base : Nat} {w w' : World} {p m n : Nat} {ao : Option Addr} {cap : Nat} {ks : List α}

/-- Where a key lies. -/
theorem IdsAt.lies (h : IdsAt P tk te ts size cells lit base w p m n ao cap ks) (hpos : 0 < ks.length) : ∃ g cur, ao = some ⟨g, 0, none⟩ ∧ w.heap[g]? = some (.cells cur tk (0, 0)) ∧ ks.length ≤ cap ∧ cap ≤ maxLen ∧ cur.size = cap * size ∧ cur.toList.take (ks.length * size) = ks.flatMap cells ∧ base ≤ g := by
  rcases h.row.2 with ⟨_, e⟩ | ⟨g, cap', cur, e, hb, hh, r1, r2, r3, r4⟩
  · omega
  · simp only [Value.slice.injEq] at e
    obtain ⟨rfl, _, rfl⟩ := e
    exact ⟨g, cur, rfl, hh, r1, r2, r3, r4, hb⟩

theorem cur_at (hc : ∀ k, (cells k).length = size) {cur : Array Value} {len : Nat} (hlen : len = ks.length) (ht : cur.toList.take (len * size) = ks.flatMap cells) {i j : Nat} {k : α} (hi : ks[i]? = some k) (hj : j < size) : cur[i * size + j]? = (cells k)[j]? := by
  have hlt : i < ks.length := (List.getElem?_eq_some_iff.1 hi).1
  have h1 : i * size + j < len * size := by
    have : (i + 1) * size ≤ len * size := Nat.mul_le_mul_right _ (by omega)
    rw [Nat.succ_mul] at this; omega
  rw [← flatMap_at hc ks i j k hi hj, ← ht, List.getElem?_take_of_lt h1]
  simp

theorem IdsAt.cellAt (h : IdsAt P tk te ts size cells lit base w p m n ao cap ks) (hc : ∀ k, (cells k).length = size) {g : Nat} (hg : ao = some ⟨g, 0, none⟩) {i j : Nat} {k : α} {v : Value} (hi : ks[i]? = some k) (hv : (cells k)[j]? = some v) : w.cell? ⟨g, i * size + j, none⟩ = some v := by
  have hlt : i < ks.length := (List.getElem?_eq_some_iff.1 hi).1
  obtain ⟨g', cur, e, hh, _, _, _, r4, _⟩ := h.lies (by omega)
  rw [hg] at e
  simp only [Option.some.injEq, Addr.mk.injEq, and_true] at e
  subst e
  have hj : j < size := by rw [← hc k]; exact (List.getElem?_eq_some_iff.1 hv).1
  simp [World.cell?, hh, cur_at hc rfl r4 hi hj, hv]

theorem keyAt_take (c : Nat) (l : Lit) (i : Nat) : keyAt lit (ks.take c) l i ↔ (keyAt lit ks l i ∧ i < c) := by
  constructor
  · rintro ⟨k, h1, h2⟩
    rcases Nat.lt_or_ge i c with h | h
    · rw [List.getElem?_take_of_lt h] at h1; exact ⟨⟨k, h1, h2⟩, h⟩
    · rw [List.getElem?_eq_none (by rw [List.length_take]; omega)] at h1; exact absurd h1 (by simp)
  · rintro ⟨⟨k, h1, h2⟩, h⟩
    exact ⟨k, by rw [List.getElem?_take_of_lt h]; exact h1, h2⟩

/-- WHAT CUT LEAVES: w1: behind the deletes; then the tail is cleared; then the list's header is stored. -/
theorem IdsAt.cutAt (h : IdsAt P tk te ts size cells lit base w p m n ao cap ks) (htt : tk ≠ ts) (hc : ∀ k, (cells k).length = size) {c g : Nat} (hcl : c < ks.length) (hg : ao = some ⟨g, 0, none⟩)
    {w1 : World} (hO : Only (fun k => k = m) w w1) (hM : MapIs P tk te w1 m n (keyAt lit (ks.take c))) :
    (∀ j, j < (ks.length - c) * size → (w1.cell? ⟨g, c * size + j, none⟩).isSome = true) ∧ (∀ j, j < (ks.length - c) * size → w1.frozen? ⟨g, c * size + j, none⟩ = false) ∧
    w1.cell? ⟨p, 0, none⟩ = some (.slice ao ks.length cap) ∧
    ∀ L, (w1.setCells g (c * size) L).cell? ⟨p, 0, none⟩ = some (.slice ao ks.length cap) ∧ (w1.setCells g (c * size) L).frozen? ⟨p, 0, none⟩ = false ∧
      IdsAt P tk te ts size cells lit base ((w1.setCells g (c * size) L).setCell ⟨p, 0, none⟩ (.slice ao c cap)) p m n ao cap (ks.take c) ∧ Only (foot p m ao) w ((w1.setCells g (c * size) L).setCell ⟨p, 0, none⟩ (.slice ao c cap)) := by
  obtain ⟨g', cur, e, hh, r1, r2, r3, r4, hb⟩ := h.lies (by omega)
  rw [hg] at e
  simp only [Option.some.injEq, Addr.mk.injEq, and_true] at e
  subst e
  have hgp : g ≠ p ∧ g ≠ m ∧ base ≤ g ∧ g < w.heap.size := h.rp htt ⟨g, 0, none⟩ hg
  have hpm := h.pm
  have hbp : w1.heap[p]? = some (.cells #[.slice ao ks.length cap, .map (some m)] ts (0, 0)) := by rw [hO.block p h.plt (fun e => hpm e.symm)]; exact h.fields
  have hbg : w1.heap[g]? = some (.cells cur tk (0, 0)) := by rw [hO.block g hgp.2.2.2 hgp.2.1]; exact hh
  have hsz : ∀ j, j < (ks.length - c) * size → c * size + j < cur.size := by
    intro j hj
    have e1 : (ks.length - c) * size + c * size = ks.length * size := by rw [← Nat.add_mul]; congr 1; omega
    have e2 : ks.length * size ≤ cap * size := Nat.mul_le_mul_right _ r1
    rw [r3]; omega
  refine ⟨fun j hj => ?_, fun j _ => by simp [World.frozen?, hbg], by simp [World.cell?, hbp], fun L => ?_⟩
  · have := hsz j hj
    simp [World.cell?, hbg, this]
  · have hOL := setCells_only g L (c * size) w1
    have hp1 : p < w1.heap.size := Nat.lt_of_lt_of_le h.plt hO.size
    have hbp2 : (w1.setCells g (c * size) L).heap[p]? = some (.cells #[.slice ao ks.length cap, .map (some m)] ts (0, 0)) := by rw [hOL.block p hp1 (fun e => hgp.1 e.symm)]; exact hbp
    obtain ⟨cur', hb2, s2, k2⟩ := setCells_block g L (c * size) w1 cur hbg
    have hM2 : MapIs P tk te (w1.setCells g (c * size) L) m n (keyAt lit (ks.take c)) := hM.only hOL (fun e => hgp.2.1 e.symm)
    have hlc : (ks.take c).length = c := by rw [List.length_take]; omega
    refine ⟨by simp [World.cell?, hbp2], by simp [World.frozen?, hbp2], ⟨?_, h.hp, h.hm, ?_, hM2.setCell hpm _⟩, ?_⟩
    · rw [hlc]; simp [World.setCell, Array.getElem?_modify, hbp2]
    · rw [hlc]
      refine ⟨by rw [flatMap_len hc, hlc], .inr ⟨g, cap, cur', by rw [hg], hb, ?_, by omega, r2, by rw [s2]; exact r3, ?_⟩⟩
      · rw [Below.heap_setCell _ _ _ _ hgp.1]; exact hb2
      · have e1 : cur'.toList.take (c * size) = cur.toList.take (c * size) := by
          apply List.ext_getElem?
          intro j
          rcases Nat.lt_or_ge j (c * size) with hj | hj
          · rw [List.getElem?_take_of_lt hj, List.getElem?_take_of_lt hj]; simpa using k2 j hj
          · rw [List.getElem?_eq_none (by rw [List.length_take]; omega), List.getElem?_eq_none (by rw [List.length_take]; omega)]
        have e2 : c * size ≤ ks.length * size := Nat.mul_le_mul_right _ (by omega)
        rw [e1, flatMap_take hc, ← r4, List.take_take, Nat.min_eq_left e2]
    · have o1 : Only (foot p m ao) w w1 := hO.mono (fun k _ e => .inr (.inl e))
      have o2 : Only (foot p m ao) w1 (w1.setCells g (c * size) L) := hOL.mono (fun k _ e => .inr (.inr ⟨⟨g, 0, none⟩, hg, e⟩))
      exact (o1.trans o2).setCell (p := ⟨p, 0, none⟩) (.inl rfl) _
end
end Go.Proofs.YtoppnjpajeipdaaGreatDoor
