/- The document's Fit. -/
import Derived.Test.YtmbkjgfnnpopgabEdgeFit
namespace Go.Proofs.Ytmbkjgfnnpopgab
set_option linter.unusedSimpArgs false
set_option linter.unusedVariables false
open Go.RowKit

theorem eOut_false {n : Int} {x : Edg} (h : eOut n x = false) : 0 ≤ x.f ∧ x.f < n ∧ 0 ≤ x.t ∧ x.t < n := by
  unfold eOut eIn inB at h
  simp at h
  omega
theorem eOut_true {n : Int} {x : Edg} (h : eOut n x = true) : x.f < 0 ∨ (0 ≤ x.f ∧ n ≤ x.f) ∨ (0 ≤ x.f ∧ x.f < n ∧ x.t < 0) ∨ (0 ≤ x.f ∧ x.f < n ∧ 0 ≤ x.t ∧ n ≤ x.t) := by
  unfold eOut eIn inB at h
  simp at h
  omega
theorem any_at {α : Type} {p : α → Bool} {l : List α} {k : Nat} {x : α} (hx : l[k]? = some x) (he : p x = true) : l.any p = true := List.any_eq_true.2 ⟨x, List.mem_of_getElem? hx, he⟩
theorem any_no {α : Type} {p : α → Bool} {l : List α} (ha : ∀ y ∈ l.take l.length, p y = false) : l.any p = false := by
  rw [List.take_of_length_le (Nat.le_refl _)] at ha
  rw [List.any_eq_false]
  intro y hy
  simp [ha y hy]

end Go.Proofs.Ytmbkjgfnnpopgab
