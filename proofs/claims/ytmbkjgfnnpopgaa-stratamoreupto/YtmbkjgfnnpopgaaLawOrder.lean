/- The law of the edges' order: its walk. -/
import Derived.Test.YtmbkjgfnnpopgaaOrderPure
namespace Go.Proofs.Ytmbkjgfnnpopgaa
set_option linter.unusedSimpArgs false
set_option linter.unusedVariables false
open Go.RowKit Go.Maps

theorem CompsAt.has_ {base : Nat} {w : World} {n : Nat} {es : List Edg} {H : Nat → Int} {reps : List Nat} {M : Nat → Value} {ta : Option Addr} {tc i : Nat} (h : CompsAt base w n (lnkT es) H reps M (.slice ta reps.length tc)) (hi : i < reps.length) (hn : n ≤ 128) : ∃ (gt : Nat) (va : Value), ta = some ⟨gt, 0, none⟩ ∧ w.cell? ⟨gt, i, none⟩ = some va ∧ Has elInt w va ((memL H n reps[i]).map fun (u : Nat) => (u : Int)) := by
  have hr : reps[i]? = some reps[i] := List.getElem?_eq_getElem hi
  obtain ⟨r1, r2⟩ := h.greedy.rep _ (List.mem_of_getElem? hr)
  have ho : w.ownsRow base 46 1 (.slice ta reps.length tc) (reps.map M).length (reps.map M) := by rw [List.length_map]; exact h.told.own
  obtain ⟨gt, cap, e, -, hc⟩ := own_cells ho (by rw [List.length_map]; omega)
  have hlen : (memL H n reps[i]).length ≤ n := nd_len (nd_memL _ _ _) (fun p hp => (mem_memL.1 hp).1)
  exact ⟨gt, M reps[i], by injection e, hc i _ (by rw [List.getElem?_map, hr]; rfl), own_has (h.told.lst _ r1) (by omega) (fun x hx => by have := (mem_memL.1 hx).1; omega)⟩

theorem fitP_same {n : Int} {es es' : List Edg} (h : ∀ x, x ∈ es' ↔ x ∈ es) : fitP n es' = fitP n es := by
  have h1 : es'.any (eOut n) = es.any (eOut n) := by
    rw [Bool.eq_iff_iff]
    simp only [List.any_eq_true, h]
  unfold fitP
  rw [h1]

theorem levels_bad {w : World} {v : Value} {es : List Edg} {n : Nat} (h : Has elEdg w v es) (hfit : fitP n es = true) (hb : HasBad n es) :
    Calls Try.prog 22 #[.int .i64 (n : Int), v] w fun e w' => e = .returned (.tuple #[.slice none 0 0, .int .i64 40]) ∧ Below w.heap.size w w' :=
  (levels_fit h hfit).mono fun e w' ⟨h1, h2⟩ => ⟨h1.elim (fun h => h.2) (fun h => absurd hb h.1), h2⟩
theorem levels_good {w : World} {v : Value} {es : List Edg} {n : Nat} (h : Has elEdg w v es) (hfit : fitP n es = true) (hb : ¬ HasBad n es) :
    Calls Try.prog 22 #[.int .i64 (n : Int), v] w fun e w' => ∃ (g : Nat) (X : Nat → Int), e = .returned (.tuple #[.slice (some ⟨g, 0, none⟩) n n, .int .i64 0]) ∧ w'.rowIs g 3 n (fun i => .int .i64 (X i)) ∧ (Least n (lnkT es) (lnkN es) X ∧ ∀ p, p < n → X p ≤ n) ∧ Below w.heap.size w w' :=
  (levels_fit h hfit).mono fun e w' ⟨h1, h2⟩ => h1.elim (fun h => absurd h.1 hb) (fun ⟨_, g, X, a, b, c⟩ => ⟨g, X, a, b, c, h2⟩)

theorem comps_same {base base' : Nat} {w : World} {n : Nat} {es : List Edg} {H H' : Nat → Int} {reps reps' : List Nat} {M M' : Nat → Value} {ta ta' : Option Addr} {tc tc' : Nat} (hn : n ≤ 128) (h : CompsAt base w n (lnkT es) H reps M (.slice ta reps.length tc)) (h' : CompsAt base' w n (lnkT es) H' reps' M' (.slice ta' reps'.length tc')) :
    ∀ i, i < reps.length → ∃ (ga gb : Nat) (L : List Int) (va vb : Value), ta = some ⟨ga, 0, none⟩ ∧ ta' = some ⟨gb, 0, none⟩ ∧ w.cell? ⟨ga, i, none⟩ = some va ∧ w.cell? ⟨gb, i, none⟩ = some vb ∧ Has elInt w va L ∧ Has elInt w vb L := fun i hi => by
  have he := home_uniq h.least h'.least
  have hr := greedy_uniq he h.greedy h'.greedy h.all h'.all
  subst hr
  obtain ⟨ga, va, a1, a2, a3⟩ := h.has_ hi hn
  obtain ⟨gb, vb, b1, b2, b3⟩ := h'.has_ hi hn
  rw [← memL_congr he] at b3
  exact ⟨ga, gb, _, va, vb, a1, b1, a2, b2, a3, b3⟩

end Go.Proofs.Ytmbkjgfnnpopgaa
