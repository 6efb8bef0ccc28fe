/- What a store answers that is asked for its length, for a predicate's rows, for the rows that hold an id at a place. -/
import Derived.Test.YtcofoddjcgmmkaaProg
import Derived.Test.YtcofoddjcgmmkaaStoreFns
namespace Go.Proofs.Ytcofoddjcgmmkaa
set_option linter.unusedSimpArgs false
set_option linter.unusedVariables false
open Go.RowKit Go.Maps

theorem clone_any {w : World} {ao : Option Addr} {len cap : Nat} {l : List Int} (h : IsInts w ao len l) (hn : ao = none → len = 0 ∧ cap = 0) :
    Calls Try.prog 38 #[.slice ao len cap] w fun e w' => ∃ ao' cap', e = .returned (.slice ao' len cap') ∧ IsInts w' ao' len l ∧ Below w.heap.size w w' ∧ (0 < len → ∃ g, ao' = some ⟨g, 0, none⟩ ∧ w.heap.size ≤ g) := by
  by_cases hpos : 0 < len
  · obtain ⟨b, off, rfl, hc⟩ := h.2.2.2 hpos
    refine (clone_pos (cap := cap) h hpos).mono ?_
    rintro e w' ⟨g, cap', rfl, hown, hB⟩
    refine ⟨_, _, rfl, ⟨h.1, h.2.1, h.2.2.1, fun _ => ⟨g, 0, rfl, fun i x hi => ?_⟩⟩, hB, fun _ => ⟨g, rfl, ?_⟩⟩
    · have hR : RowIs w' (fun _ => some .ar) .ar 3 1 (.slice (some ⟨g, 0, none⟩) len cap') len (ints l) := ⟨⟨hown.1, hown.2.imp id (fun ⟨g, c, cur, h1, _, h3⟩ => ⟨g, c, cur, h1, Nat.zero_le _, h3⟩)⟩, fun _ _ => rfl⟩
      obtain ⟨g', c', e, hcell, _⟩ := hR.cellAt (j := i) (u := .int .i64 x) (by rw [List.getElem?_map, hi]; rfl)
      simp only [Value.slice.injEq, Option.some.injEq, Addr.mk.injEq, and_true, true_and] at e
      rw [Nat.zero_add, e.1]; exact hcell
    · rcases hown.2 with ⟨e, _⟩ | ⟨g', c', cur, e, hb, _⟩
      · cases e
      · simp only [Value.slice.injEq, Option.some.injEq, Addr.mk.injEq, and_true, true_and] at e
        omega
  · obtain rfl : len = 0 := by omega
    have hl : l = [] := List.length_eq_zero_iff.1 h.1
    subst hl
    cases ao with
    | none =>
      obtain ⟨_, rfl⟩ := hn rfl
      refine (clone_nil w).mono ?_
      rintro e w' ⟨rfl, rfl⟩
      exact ⟨_, _, rfl, ⟨rfl, h.2.1, by simp, fun h => by omega⟩, Below.refl _ _, fun h => by omega⟩
    | some a =>
      refine (clone_zero w a cap).mono ?_
      rintro e w' ⟨ao', cap', rfl, hB⟩
      exact ⟨_, _, rfl, ⟨rfl, h.2.1, by simp, fun h => by omega⟩, hB, fun h => by omega⟩

theorem row_ints {w : World} {own : Own} {tag : Tag} {v : Value} {n : Nat} {l : List Int} (h : RowIs w own tag 3 1 v n (ints l)) (hn : n < 1099511627776) (hI : ∀ x ∈ l, I64 x) :
    ∃ ao cap, v = .slice ao n cap ∧ IsInts w ao n l ∧ (ao = none → n = 0 ∧ cap = 0) := by
  have hl : l.length = n := by have := h.1.1; simpa using this
  rcases h.1.2 with ⟨rfl, h0⟩ | ⟨g, cap, cur, rfl, hb, hh, r1, r2, r3, r4⟩
  · subst h0
    exact ⟨none, 0, rfl, ⟨hl, hn, hI, fun h => by omega⟩, fun _ => ⟨rfl, rfl⟩⟩
  · refine ⟨_, cap, rfl, ⟨hl, hn, hI, fun _ => ⟨g, 0, rfl, fun i x hi => ?_⟩⟩, fun e => by cases e⟩
    obtain ⟨g', c', e, hcell, _⟩ := h.cellAt (j := i) (u := .int .i64 x) (by rw [List.getElem?_map, hi]; rfl)
    simp only [Value.slice.injEq, Option.some.injEq, Addr.mk.injEq, and_true, true_and] at e
    rw [Nat.zero_add, e.1]; exact hcell

section
variable {w : World} {own : Own} {p : Nat} {L : Loc} {S : Sto}

theorem len_any (h : Raw w own p L S) : Calls Try.prog 22 #[.pointer (some ⟨p, 0, none⟩)] w fun e w' => e = .returned (.int .i64 S.C.length) ∧ w' = w := by
  obtain ⟨vr, cr, hvr, -, -⟩ := h.rows.form
  have c1 := h.c1
  rw [hvr] at c1
  clear h hvr
  generalize S.C.length = n at *
  go_enter Try.func22, Try.ntmps22
  go_wp2
  go_ret
  exact ⟨rfl, rfl⟩

theorem of_any (h : Raw w own p L S) {x : Int} (hx : I64 x) (hO : (S.O (.int .i64 x)).length < 1099511627776) (hI : ∀ y ∈ S.O (.int .i64 x), I64 y) :
    Calls Try.prog 18 #[.pointer (some ⟨p, 0, none⟩), .int .i64 x] w fun e w' => ∃ ao cap, e = .returned (.slice ao (S.O (.int .i64 x)).length cap) ∧ IsInts w' ao (S.O (.int .i64 x)).length (S.O (.int .i64 x)) ∧ Below w.heap.size w w' ∧ (0 < (S.O (.int .i64 x)).length → ∃ g, ao = some ⟨g, 0, none⟩ ∧ w.heap.size ≤ g) := by
  obtain ⟨v, hrun, hv⟩ := h.of.look (t := 62) (te := 22) lawInt Try.underlying62 (zeroInts w) (keyOf_pred hx)
  obtain ⟨ao, cap, rfl, hi, hn⟩ := row_ints hv hO hI
  have hcl := clone_any hi hn
  have c6 := h.c6
  have HC := hide hcl
  clear h hv hi hn hO hI hx hcl
  generalize (S.O (.int .i64 x)).length = n at *
  go_enter Try.func18, Try.ntmps18
  go_wp2_with (go_at_call 38; refine HC.out.mono ?_; rintro e w2 ⟨ao2, cap2, rfl, q1, q2, q3⟩; have Q1 := hide (And.intro q1 (And.intro q2 q3)); clear q1 q2 q3)
  go_ret
  exact ⟨_, _, rfl, Q1.out⟩

theorem where_any (h : Raw w own p L S) {x y z : Int} (hx : I64 x) (hy : I64 y) (hz : I64 z) (hO : (S.W (litI [x, y, z])).length < 1099511627776) (hI : ∀ a ∈ S.W (litI [x, y, z]), I64 a) :
    Calls Try.prog 34 #[.pointer (some ⟨p, 0, none⟩), .int .i64 x, .int .i64 y, .int .i64 z] w fun e w' => ∃ ao cap, e = .returned (.slice ao (S.W (litI [x, y, z])).length cap) ∧ IsInts w' ao (S.W (litI [x, y, z])).length (S.W (litI [x, y, z])) ∧ Below w.heap.size w w' ∧ (0 < (S.W (litI [x, y, z])).length → ∃ g, ao = some ⟨g, 0, none⟩ ∧ w.heap.size ≤ g) := by
  obtain ⟨v, hrun, hv⟩ := h.wh.look (t := 63) (te := 22) (Keyed.of_law lawSpot) Try.underlying63 (zeroInts w) (keyOf_spot (c := [x, y, z]) rfl (by intro a ha; simp at ha; rcases ha with rfl | rfl | rfl <;> assumption))
  obtain ⟨ao, cap, rfl, hi, hn⟩ := row_ints hv hO hI
  have hrun2 : (Instr.lookup 63 (.map (some L.m3)) (.agg #[.int .i64 x, .int .i64 y, .int .i64 z]) false).run Try.prog w = .ok (.slice ao (S.W (litI [x, y, z])).length cap) w := hrun
  have hcl := clone_any hi hn
  have c7 := h.c7
  have HC := hide hcl
  clear h hv hi hn hO hI hx hy hz hcl hrun
  generalize (S.W (litI [x, y, z])).length = n at *
  go_enter Try.func34, Try.ntmps34
  go_wp2_with (go_at_call 38; refine HC.out.mono ?_; rintro e w2 ⟨ao2, cap2, rfl, q1, q2, q3⟩; have Q1 := hide (And.intro q1 (And.intro q2 q3)); clear q1 q2 q3)
  go_ret
  exact ⟨_, _, rfl, Q1.out⟩
end
end Go.Proofs.Ytcofoddjcgmmkaa
