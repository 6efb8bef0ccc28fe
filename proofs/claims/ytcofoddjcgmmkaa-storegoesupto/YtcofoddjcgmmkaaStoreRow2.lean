/- What Row answers; Len, Of and Where said of a store's rows. -/
import Derived.Test.YtcofoddjcgmmkaaProg
import Derived.Test.YtcofoddjcgmmkaaStoreRow
namespace Go.Proofs.Ytcofoddjcgmmkaa
set_option linter.unusedSimpArgs false
set_option linter.unusedVariables false
open Go.RowKit Go.Maps
variable {mk : Mk}

theorem len_st {w : World} {p : Nat} {own : Own} {ar : List Int} {C : List (List Int)} {M : Nat} (h : St mk w p own ar C M) : Calls Try.prog 22 #[.pointer (some ⟨p, 0, none⟩)] w fun e w' => e = .returned (.int .i64 C.length) ∧ w' = w := by
  obtain ⟨L, S, hR, hS, _⟩ := h
  have := len_any hR
  rw [hS.eC] at this
  exact this

set_option maxRecDepth 100000 in
set_option maxHeartbeats 2000000 in
theorem row_in {w : World} {p : Nat} {own : Own} {ar : List Int} {C : List (List Int)} {M : Nat} (h : St mk w p own ar C M) (hM : M < 549755813888) {i : Nat} {q : Int} {l : List Int} (hc : C[i]? = some (cellsP q l)) (hm : mayP ar q l = true) :
    Calls Try.prog 16 #[.pointer (some ⟨p, 0, none⟩), .int .i64 i] w fun e w' => ∃ ao cap, e = .returned (.tuple #[.agg #[.int .i64 q, .slice ao l.length cap], .int .i64 0]) ∧ IsInts w' ao l.length l ∧ Below w.heap.size w w' ∧ (0 < l.length → ∃ g, ao = some ⟨g, 0, none⟩ ∧ w.heap.size ≤ g) := by
  have hB : Below w.heap.size w (w.alloc (.cells #[.int .i64 0, .slice none 0 0] 31)) := (Below.refl _ _).alloc (Nat.le_refl _) _
  have hil : i < C.length := (List.getElem?_eq_some_iff.1 hc).1
  have hCl : C.length < 1099511627776 := by obtain ⟨L, S, _, hS, _⟩ := h; have := hS.num; omega
  have HL := hide (len_st (h.below hB))
  have HR := hide (rowAt_any (h.below hB) hM hc hm)
  have HB := hide hB
  clear h hc hm hB
  generalize C.length = n at *
  have h1 : ¬ (i : Int) < 0 := by omega
  have h2 : ¬ (n : Int) ≤ (i : Int) := by omega
  go_enter Try.func16, Try.ntmps16
  go_wp2_with
    (first
      | (go_at_call 22; refine HL.out.mono ?_; rintro e w2 ⟨rfl, hw⟩; have hw := hw.symm; subst hw)
      | (go_at_call 37; refine HR.out.mono ?_; rintro e w3 ⟨ao', cap', rfl, q1, q2, q3⟩; have hr3 : w3.heap[w.heap.size]? = some (.cells #[.int .i64 0, .slice none 0 0] 31 (0, 0)) := (by rw [q2.block _ (by simp)]; exact heap_alloc_new _ _); have z0 : w3.cell? ⟨w.heap.size, 0, none⟩ = some (.int .i64 0) := (by simp [World.cell?, hr3]); have z1 : w3.cell? ⟨w.heap.size, 1, none⟩ = some (.slice none 0 0) := (by simp [World.cell?, hr3]); have z2 : w3.frozen? ⟨w.heap.size, 0, none⟩ = false := (by simp [World.frozen?, hr3]); have z3 : w3.frozen? ⟨w.heap.size, 1, none⟩ = false := (by simp [World.frozen?, hr3]); have Q := hide (And.intro q1 (And.intro q2 q3)); clear q1 q2 q3 hr3))
  have hO : Only (fun b => b = w.heap.size) w3 ((w3.setCell ⟨w.heap.size, 0, none⟩ (.int .i64 q)).setCell ⟨w.heap.size, 1, none⟩ (.slice ao' l.length cap')) := ((Only.refl (fun b => b = w.heap.size) w3).setCell (p := ⟨w.heap.size, 0, none⟩) rfl _).setCell (p := ⟨w.heap.size, 1, none⟩) rfl _
  have hs : (w.alloc (.cells #[.int .i64 0, .slice none 0 0] 31)).heap.size = w.heap.size + 1 := by simp
  have hf := Q.out.2.2
  rw [hs] at hf
  have hB3 : Below w.heap.size w w3 := HB.out.trans (Q.out.2.1.mono (by rw [hs]; omega))
  have HFr : 0 < l.length → ∀ a : Addr, ao' = some a → ¬ a.block = w.heap.size := fun hp a e => by
    obtain ⟨g', e', hg'⟩ := hf hp
    rw [e] at e'
    simp only [Option.some.injEq] at e'
    subst e'
    simp only
    omega
  refine bodyPost_ret (v := .tuple #[.agg #[.int .i64 q, .slice ao' l.length cap'], .int .i64 0]) (by simp [results, Try.results16, go_sem, z0, z1, z2, z3]) rfl ⟨ao', cap', rfl, Q.out.1.only hO HFr, hB3.trans (hO.below hB3.size (fun k hk e => by omega)), fun hp => ?_⟩
  obtain ⟨g', e', hg'⟩ := hf hp
  exact ⟨g', e', by omega⟩

theorem row_out {w : World} {p : Nat} {own : Own} {ar : List Int} {C : List (List Int)} {M : Nat} (h : St mk w p own ar C M) (hM : M < 549755813888) {i : Int} (hI : I64 i) (hi : i < 0 ∨ (C.length : Int) ≤ i) :
    Calls Try.prog 16 #[.pointer (some ⟨p, 0, none⟩), .int .i64 i] w fun e w' => e = .returned (.tuple #[.agg #[.int .i64 0, .slice none 0 0], .int .i64 2]) ∧ Below w.heap.size w w' := by
  have hB : Below w.heap.size w (w.alloc (.cells #[.int .i64 0, .slice none 0 0] 31)) := (Below.refl _ _).alloc (Nat.le_refl _) _
  have hCl : C.length < 1099511627776 := by obtain ⟨L, S, _, hS, _⟩ := h; have := hS.num; omega
  have HL := hide (len_st (h.below hB))
  have HB := hide hB
  clear h hB
  generalize C.length = n at *
  by_cases h1 : i < 0
  · clear hi
    go_enter Try.func16, Try.ntmps16
    go_wp2
    exact bodyPost_ret (v := .tuple #[.agg #[.int .i64 0, .slice none 0 0], .int .i64 2]) (by simp [results, Try.results16, go_sem]) rfl ⟨rfl, HB.out⟩
  · have h2 : (n : Int) ≤ i := by omega
    clear hi
    go_enter Try.func16, Try.ntmps16
    go_wp2_with (go_at_call 22; refine HL.out.mono ?_; rintro e w2 ⟨rfl, hw⟩; have hw := hw.symm; subst hw)
    exact bodyPost_ret (v := .tuple #[.agg #[.int .i64 0, .slice none 0 0], .int .i64 2]) (by simp [results, Try.results16, go_sem]) rfl ⟨rfl, HB.out⟩
end Go.Proofs.Ytcofoddjcgmmkaa
