/- The law of the components' being apart: its walk. -/
import Derived.Test.YtjifhmlfnnagcaaApartPure
import Derived.Test.YtjifhmlfnnagcaaEdgeLaw
namespace Go.Proofs.Ytjifhmlfnnagcaa
set_option linter.unusedSimpArgs false
set_option linter.unusedVariables false
open Go.RowKit Go.Maps

theorem own_small {w : World} {base n : Nat} {e : TypeId} {v : Value} {xs : List Value} (h : w.ownsRow base e 1 v n xs) : n ≤ 9223372036854775807 := by
  have hm : maxLen = 9223372036854775807 := by decide
  rcases h.2 with ⟨_, h0⟩ | ⟨g, cap, cur, h1, h2, h3, h4, h5, h6⟩
  · rw [h0]; exact Nat.zero_le _
  · omega

/-- What the lists of the components read, one by one. -/
theorem CompsAt.at_ {base : Nat} {w : World} {n : Nat} {es : List Edg} {H : Nat → Int} {reps : List Nat} {M : Nat → Value} {ta : Option Addr} {tc i : Nat} (h : CompsAt base w n (lnkT es) H reps M (.slice ta reps.length tc)) (hi : i < reps.length) : ∃ (gt r gr cr : Nat) (L : List Nat), ta = some ⟨gt, 0, none⟩ ∧ reps[i]? = some r ∧ L = memL H n r ∧ w.cell? ⟨gt, i, none⟩ = some (.slice (some ⟨gr, 0, none⟩) L.length cr) ∧ 0 < L.length ∧ L.length ≤ n ∧ (∀ (j x : Nat), L[j]? = some x → w.cell? ⟨gr, j, none⟩ = some (.int .i64 (x : Int)) ∧ x < n ∧ H x = (r : Int)) := by
  have hr : reps[i]? = some reps[i] := List.getElem?_eq_getElem hi
  obtain ⟨r1, r2⟩ := h.greedy.rep _ (List.mem_of_getElem? hr)
  have ho : w.ownsRow base 33 1 (.slice ta reps.length tc) (reps.map M).length (reps.map M) := by rw [List.length_map]; exact h.told.own
  obtain ⟨gt, cap, e, -, hc⟩ := own_cells ho (by rw [List.length_map]; omega)
  have hm : reps[i] ∈ memL H n reps[i] := mem_memL.2 ⟨r1, r2⟩
  have hpos : 0 < (memL H n reps[i]).length := List.length_pos_of_mem hm
  have hl := h.told.lst _ r1
  have hl' : w.ownsRow base 3 1 (M reps[i]) ((memL H n reps[i]).map nv).length ((memL H n reps[i]).map nv) := by rw [List.length_map]; exact hl
  obtain ⟨gr, cr, e2, -, hc2⟩ := own_cells hl' (by rw [List.length_map]; exact hpos)
  rw [List.length_map] at e2
  refine ⟨gt, reps[i], gr, cr, _, by injection e, hr, rfl, ?_, hpos, ?_, fun j x hj => ⟨?_, (mem_memL.1 (List.mem_of_getElem? hj))⟩⟩
  · rw [← e2]
    exact hc i _ (by rw [List.getElem?_map, hr]; rfl)
  · unfold memL
    have := List.length_filter_le (fun v => H v == (reps[i] : Int)) (List.range n)
    simpa using this
  · exact hc2 j _ (by rw [List.getElem?_map, hj]; rfl)

end Go.Proofs.Ytjifhmlfnnagcaa
