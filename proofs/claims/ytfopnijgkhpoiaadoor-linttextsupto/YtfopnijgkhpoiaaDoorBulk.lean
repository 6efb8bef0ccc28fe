/- What an argument that was read holds, a list of whatever elements, by the bulk of what is read. -/
import Derived.Test.YtfopnijgkhpoiaaDoorUpto
import Derived.Test.YtfopnijgkhpoiaaDoorForms
namespace Go.Proofs.YtfopnijgkhpoiaaDoor
set_option linter.unusedSimpArgs false
set_option linter.unusedVariables false
open Go.RowKit Go.Deep Go.ChangeShapes Go.WideShapes Go.ChangeAt Go.Joins

section
variable {H : Type} {enc : TypeId × Value → H} {P : Program} {w : World}

theorem bulkAt {D : Nat → DataW H} {len i : Nat} (hi : i < len) : Rows.uptoBulk (D i) ≤ Rows.uptoBulkAll ((List.range len).map D) :=
  bulk_mem (j := i) (by rw [List.getElem?_map, List.getElem?_range hi]; rfl)
theorem bulkRange (D : Nat → DataW H) (len : Nat) : len ≤ Rows.uptoBulkAll ((List.range len).map D) := by
  have := bulk_len ((List.range len).map D)
  simpa using this

theorem lst_val {α : Type} (E : El α) {t e : TypeId} {v : Value} {x : DataW H × List MemPlace} {fuel : Nat}
    (ht : P.underlying t = some (.slice e)) (ce : P.cellsOf e = E.size)
    (hf : DataW.trod enc P w 0 (fun _ => true) true fuel t [v] = some x) (hk : Rows.uptoBulk x.1 ≤ 1048576)
    (hel : ∀ cs fuel y, DataW.trod enc P w 0 (fun _ => true) true fuel e cs = some y → Rows.uptoBulk y.1 ≤ 1048576 → cs.length = E.size → ∃ z : α, cs = E.cells z ∧ E.ok w (fun _ => True) z) :
    ∃ l, Has E w v l ∧ l.length ≤ Rows.uptoBulk x.1 := by
  rcases open_slice ht hf with ⟨h1, _⟩ | ⟨a, len, cap, m, n, D, Pl, h1, hb, hl, hm, hmm, hx, hrow⟩
  · simp only [List.cons.injEq, and_true] at h1
    exact ⟨[], by rw [h1]; exact Lst.nil _ _ _, Nat.zero_le _⟩
  · simp only [List.cons.injEq, and_true] at h1
    simp only [if_true] at hmm
    subst hmm
    obtain ⟨b, off, spot⟩ := a
    have hbk : Rows.uptoBulkAll ((List.range len).map D) ≤ Rows.uptoBulk x.1 := by
      rw [hx]
      simp only [Rows.uptoBulk]
      omega
    have hlb := bulkRange D len
    by_cases hlen : 0 < len
    · have hspot : spot = none := by
        obtain ⟨cs', g1, _⟩ := hrow 0 (by omega)
        rw [ce] at g1
        obtain ⟨_, hl3, g2⟩ := World.cells?_some g1
        have g3 := g2 0 E.pos
        have g4 : w.cell? ⟨b, off, spot⟩ = some (cs'[0]'(by rw [hl3]; exact E.pos)) := by
          simp only [Nat.zero_mul, Addr.add, if_true] at g3
          rw [g3]; exact List.getElem?_eq_getElem _
        exact World.cell?_spot g4
      subst hspot
      obtain ⟨l, h2, h3⟩ := list_of_each (R := fun i (z : α) => E.ok w (fun _ => True) z ∧ ∀ j u, (E.cells z)[j]? = some u → w.cell? ⟨b, off + i * E.size + j, none⟩ = some u) len (fun i hi => by
        obtain ⟨cs, g1, g2⟩ := hrow i (by omega)
        rw [addr_add, ce] at g1
        obtain ⟨_, hl3, hc⟩ := World.cells?_some g1
        have hbi := bulkAt (D := D) hi
        obtain ⟨z, rfl, hz⟩ := hel cs _ _ g2 (by dsimp only; omega) hl3
        refine ⟨z, hz, fun j u hu => ?_⟩
        have hj : j < E.size := by have := (List.getElem?_eq_some_iff.1 hu).1; rw [E.len] at this; exact this
        have := hc j hj
        rw [addr_add] at this
        rw [this]; exact hu)
      subst h2
      have hlt : b < w.heap.size := by
        obtain ⟨z, hz⟩ : ∃ z, l[0]? = some z := ⟨_, List.getElem?_eq_getElem hlen⟩
        obtain ⟨u, hu⟩ : ∃ u, (E.cells z)[0]? = some u := ⟨_, List.getElem?_eq_getElem (by rw [E.len]; exact E.pos)⟩
        exact lt_of_cell ((h3 0 z hz).2 0 u hu)
      refine ⟨l, ⟨_, _, h1, hl, (fun h => by cases h), by omega, fun z hz => ?_, fun _ => ⟨b, off, rfl, hlt, trivial, fun i z hz => (h3 i z hz).2⟩⟩, by omega⟩
      obtain ⟨i, hi⟩ := List.mem_iff_getElem?.1 hz
      exact (h3 i z hi).1
    · obtain rfl : len = 0 := by omega
      exact ⟨[], ⟨_, _, h1, hl, (fun h => by cases h), by simp, by simp, fun h => by simp at h⟩, Nat.zero_le _⟩
end
end Go.Proofs.YtfopnijgkhpoiaaDoor
