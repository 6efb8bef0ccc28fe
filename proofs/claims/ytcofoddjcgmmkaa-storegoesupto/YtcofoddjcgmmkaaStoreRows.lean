/- Rows in memory that is not the store's. -/
import Derived.Test.YtcofoddjcgmmkaaProg
import Derived.Test.YtcofoddjcgmmkaaStoreRow2
namespace Go.Proofs.Ytcofoddjcgmmkaa
set_option linter.unusedSimpArgs false
set_option linter.unusedVariables false
open Go.RowKit Go.Maps

/-- A slice of numbers in a block that bears no tag. -/
def FreeInts (w : World) (own : Own) (ao : Option Addr) (len : Nat) (l : List Int) : Prop := IsInts w ao len l ∧ (0 < len → ∀ a, ao = some a → own a.block = none)
/-- A row: its predicate, its args. -/
abbrev Rw := Int × List Int
def rwAt (w : World) (own : Own) (b off : Nat) (r : Rw) : Prop :=
  w.cell? ⟨b, off, none⟩ = some (.int .i64 r.1) ∧ ∃ ao cap, w.cell? ⟨b, off + 1, none⟩ = some (.slice ao r.2.length cap) ∧ FreeInts w own ao r.2.length r.2
def FreeRows (w : World) (own : Own) (ao : Option Addr) (len : Nat) (R : List Rw) : Prop :=
  R.length = len ∧ len < 1099511627776 ∧ (∀ r ∈ R, I64 r.1) ∧ (0 < len → ∃ b off, ao = some ⟨b, off, none⟩ ∧ own b = none ∧ ∀ i r, R[i]? = some r → rwAt w own b (off + i * 2) r)

theorem Turn.cell {A : Tag → Prop} {own own' : Own} {w w' : World} (h : Turn A own own' w w') {a : Addr} {v : Value} (hc : w.cell? a = some v) (hn : own a.block = none) : w'.cell? a = some v := by
  have hlt := lt_of_cell hc
  rw [World.cell?_of_block (w := w) (h.block hlt (fun t ht => by rw [hn] at ht; cases ht))]
  exact hc

section
variable {A : Tag → Prop} {own own' : Own} {w w' : World}
theorem FreeInts.turn {ao : Option Addr} {len : Nat} {l : List Int} (h : FreeInts w own ao len l) (hT : Turn A own own' w w') : FreeInts w' own' ao len l := by
  obtain ⟨⟨h1, h2, h3, h4⟩, h5⟩ := h
  refine ⟨⟨h1, h2, h3, fun hp => ?_⟩, fun hp a ha => ?_⟩
  · obtain ⟨b, off, rfl, hc⟩ := h4 hp
    exact ⟨b, off, rfl, fun i x hx => hT.cell (hc i x hx) (h5 hp ⟨b, off, none⟩ rfl)⟩
  · obtain ⟨b, off, rfl, hc⟩ := h4 hp
    cases ha
    obtain ⟨x, hx⟩ : ∃ x, l[0]? = some x := ⟨_, List.getElem?_eq_getElem (by omega)⟩
    rw [hT.ext b (lt_of_cell (hc 0 x hx))]
    exact h5 hp _ rfl
theorem rwAt.turn {b off : Nat} {r : Rw} (h : rwAt w own b off r) (hn : own b = none) (hT : Turn A own own' w w') : rwAt w' own' b off r := by
  obtain ⟨h1, ao, cap, h2, h3⟩ := h
  exact ⟨hT.cell h1 hn, ao, cap, hT.cell h2 hn, h3.turn hT⟩
theorem FreeRows.turn {ao : Option Addr} {len : Nat} {R : List Rw} (h : FreeRows w own ao len R) (hT : Turn A own own' w w') : FreeRows w' own' ao len R := by
  obtain ⟨h1, h2, h3, h4⟩ := h
  refine ⟨h1, h2, h3, fun hp => ?_⟩
  obtain ⟨b, off, rfl, hn, hc⟩ := h4 hp
  obtain ⟨r, hr⟩ : ∃ r, R[0]? = some r := ⟨_, List.getElem?_eq_getElem (by omega)⟩
  have hlt := lt_of_cell (hc 0 r hr).1
  exact ⟨b, off, rfl, by rw [hT.ext b hlt]; exact hn, fun i r hr => (hc i r hr).turn hn hT⟩
end
theorem FreeInts.below {own : Own} {w w' : World} {ao : Option Addr} {len : Nat} {l : List Int} (h : FreeInts w own ao len l) (hb : Below w.heap.size w w') : FreeInts w' own ao len l := h.turn (A := fun _ => False) (Turn.below hb)
theorem FreeRows.below {own : Own} {w w' : World} {ao : Option Addr} {len : Nat} {R : List Rw} (h : FreeRows w own ao len R) (hb : Below w.heap.size w w') : FreeRows w' own ao len R := h.turn (A := fun _ => False) (Turn.below hb)

/-- What is put in, one by one. -/
def addOne (C : List (List Int)) (c : List Int) : List (List Int) := if C.contains c then C else C ++ [c]
def addC (C : List (List Int)) (R : List Rw) : List (List Int) := R.foldl (fun C r => addOne C (cellsP r.1 r.2)) C
theorem addC_snoc (C : List (List Int)) (R : List Rw) (r : Rw) : addC C (R ++ [r]) = addOne (addC C R) (cellsP r.1 r.2) := by simp [addC, List.foldl_append]
theorem addOne_in {C : List (List Int)} {c : List Int} (h : c ∈ C) : addOne C c = C := by unfold addOne; rw [if_pos (by simpa using h)]
theorem addOne_new {C : List (List Int)} {c : List Int} (h : c ∉ C) : addOne C c = C ++ [c] := by unfold addOne; rw [if_neg (by simpa using h)]
theorem addC_len (C : List (List Int)) (R : List Rw) : C.length ≤ (addC C R).length ∧ (addC C R).length ≤ C.length + R.length := by
  refine snoc_ind (P := fun R => C.length ≤ (addC C R).length ∧ (addC C R).length ≤ C.length + R.length) ⟨Nat.le_refl _, by simp [addC]⟩ (fun R r ih => ?_) R
  rw [addC_snoc]
  unfold addOne
  split
  · simp only [List.length_append, List.length_singleton]; omega
  · simp only [List.length_append, List.length_singleton]; omega
def mayR (ar : List Int) (R : List Rw) : Bool := R.all (fun r => mayP ar r.1 r.2)
end Go.Proofs.Ytcofoddjcgmmkaa
