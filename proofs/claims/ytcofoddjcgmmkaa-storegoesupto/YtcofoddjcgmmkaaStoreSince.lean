/- firstSince: the number of the first row that came since a mark. -/
import Derived.Test.YtcofoddjcgmmkaaStoreSt
import Derived.Test.YtcofoddjcgmmkaaSearchLay
import Derived.Shelf.Slices.SearchI
namespace Go.Proofs.Ytcofoddjcgmmkaa
set_option linter.unusedSimpArgs false
set_option linter.unusedVariables false
open Go.RowKit Go.Maps
variable {mk : Mk}

theorem count_all (l : List Int) (b : Int) (h : ∀ x ∈ l, x < b) : l.countP (· < b) = l.length := by
  rw [List.countP_eq_length]
  intro x hx
  simpa using h x hx
theorem count_none (l : List Int) (b : Int) (h : ∀ x ∈ l, b ≤ x) : l.countP (· < b) = 0 := by
  rw [List.countP_eq_zero]
  intro x hx
  have := h x hx
  simp only [decide_eq_true_eq]
  omega
theorem Rises.count {bs : List Int} {born : Int} (h : Rises mk bs born) : bs.countP (· < mk.b) = mk.n := by
  rw [← List.take_append_drop mk.n bs, List.countP_append, count_all _ _ h.old, count_none _ _ h.young, List.length_take]
  have := h.n
  omega

set_option maxHeartbeats 1000000 in
theorem since_st {w : World} {p : Nat} {own : Own} {ar : List Int} {C : List (List Int)} {M : Nat} (h : St mk w p own ar C M) (hC : 0 < C.length) (hM : M < 549755813888) :
    Calls Try.prog 31 #[.pointer (some ⟨p, 0, none⟩), .int .i64 mk.b] w fun e w' => e = .returned (.int .i64 (mk.n : Int)) ∧ Below w.heap.size w w' := by
  obtain ⟨L, S, hR, hS, -⟩ := h
  have c2 := hR.c2
  obtain ⟨ao, cap, hvb, hg, -⟩ := hR.births.form
  have hbl := hS.bs
  have hnum := hS.num
  obtain ⟨g, rfl⟩ := hg (by omega)
  rw [hvb] at c2
  have hb := hR.births
  rw [hvb] at hb
  have HA := hide (fun (V : World) (hV : Below w.heap.size w V) => Any.slices_BinarySearch_int Try.laysSearch g 0 S.bs.length cap S.bs mk.b V (Nat.le_refl _) (by omega) (fun j hj => by
    obtain ⟨g', cap', e, hc, -, -⟩ := hb.cellAt (j := j) (u := .int .i64 (S.bs.getD j 0)) (by simp [ints, List.getD, List.getElem?_eq_getElem hj])
    cases e
    have := kept_cell hV hc
    simpa using this) (by rw [List.take_of_length_le (Nat.le_refl _)]; exact hS.rise.up.imp fun h => Int.le_of_lt h))
  rw [List.take_of_length_le (Nat.le_refl _), hS.rise.count] at HA
  generalize S.bs.length = N at *
  generalize S.bs.contains mk.b = is at *
  clear hR hS hvb hg hb hnum hbl
  go_enter Try.func31, Try.ntmps31
  go_wp2_with fail
  refine (HA.out w (Below.refl _ _)).mono ?_
  rintro e w' ⟨rfl, q, rfl⟩
  go_wp2_with fail
  go_ret
  exact ⟨rfl, below_drewN _ _ _⟩
end Go.Proofs.Ytcofoddjcgmmkaa
