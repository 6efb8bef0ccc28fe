/- The distinct shapes of patterns, said over lists. -/
import Derived.Test.YtgligipgjakecaaDoorPatPure
namespace Go.Proofs.YtgligipgjakecaaDoor
set_option linter.unusedSimpArgs false
set_option linter.unusedVariables false
open Go.RowKit

open Classical in
noncomputable def distS (acc : List (Int × List Int)) (p : Pat) : List (Int × List Int) := if ShapeOk p.q p.ss ∧ (p.q, shapeC p.ss) ∉ acc then acc ++ [(p.q, shapeC p.ss)] else acc
noncomputable def distL (ps : List Pat) : List (Int × List Int) := ps.foldl distS []
theorem distS_no {acc : List (Int × List Int)} {p : Pat} (h : ¬ ShapeOk p.q p.ss) : distS acc p = acc := if_neg fun h' => h h'.1
theorem distS_old {acc : List (Int × List Int)} {p : Pat} (h : (p.q, shapeC p.ss) ∈ acc) : distS acc p = acc := if_neg fun h' => h'.2 h
theorem distS_new {acc : List (Int × List Int)} {p : Pat} (h1 : ShapeOk p.q p.ss) (h : (p.q, shapeC p.ss) ∉ acc) : distS acc p = acc ++ [(p.q, shapeC p.ss)] := if_pos ⟨h1, h⟩
theorem distL_snoc {ps : List Pat} {k : Nat} {p : Pat} (h : ps[k]? = some p) : distL (ps.take (k + 1)) = distS (distL (ps.take k)) p := by
  unfold distL
  rw [List.take_add_one, h, List.foldl_append]
  rfl
theorem distS_len (acc : List (Int × List Int)) (p : Pat) : (distS acc p).length ≤ acc.length + 1 := by
  unfold distS
  split
  · simp
  · omega
theorem distL_len (ps : List Pat) (k : Nat) : (distL (ps.take k)).length ≤ k := by
  induction k with
  | zero => simp [distL]
  | succ k ih =>
    cases h : ps[k]? with
    | none =>
      have h1 : ps.take (k + 1) = ps.take k := by rw [List.take_add_one, h]; simp
      rw [h1]; omega
    | some p =>
      rw [distL_snoc h]
      have := distS_len (distL (ps.take k)) p
      omega
end Go.Proofs.YtgligipgjakecaaDoor
