/- Regions whose order Go leaves open, whose operations only read and whose callees read and make new memory: one walk in the text's order serves every order. 'over W x': the world W with whatever new blocks x has behind W's own. -/
import Derived.WalkKit
import Derived.Deep.QuietTactic
import Derived.BigQuiet
namespace Go.Proofs.YtplldgkdjainlaaDoor
set_option linter.unusedSimpArgs false
set_option linter.unusedVariables false
open Go.RowKit

theorem hide {p : Prop} (h : p) : Hid p := h
theorem unhide {p : Prop} (h : Hid p) : p := h

def over (w x : World) : World := { heap := w.heap ++ x.heap.extract w.heap.size x.heap.size, tape := w.tape, drawn := x.drawn, os := w.os, output := w.output }

theorem over_below (w x : World) : Below w.heap.size w (over w x) :=
  ⟨rfl, rfl, rfl, by simp [over], fun k hk => by simp only [over]; rw [Array.getElem?_append_left hk]⟩

theorem over_size (w x : World) : w.heap.size ≤ (over w x).heap.size := (over_below w x).size

theorem over_eq {w w' : World} (h : Below w.heap.size w w') : w' = over w w' := by
  have hh : w'.heap = w.heap ++ w'.heap.extract w.heap.size w'.heap.size := by
    apply Array.ext_getElem?
    intro i
    have hs := h.size
    by_cases hi : i < w.heap.size
    · rw [Array.getElem?_append_left hi]; exact h.block i hi
    · rw [Array.getElem?_append_right (by omega), Array.getElem?_extract]
      have e : w.heap.size + (i - w.heap.size) = i := by omega
      rw [e]
      by_cases h2 : i < w'.heap.size
      · rw [if_pos (by omega)]
      · rw [if_neg (by omega), Array.getElem?_eq_none (by omega)]
  have e1 := h.os
  have e2 := h.tape
  have e3 := h.output
  cases w'
  simp only [over, World.mk.injEq]
  exact ⟨hh, e2, trivial, e1, e3⟩

theorem lt_of_cell {w : World} {a : Addr} {v : Value} (h : w.cell? a = some v) : a.block < w.heap.size := by
  rcases Nat.lt_or_ge a.block w.heap.size with h1 | h1
  · exact h1
  · simp only [World.cell?, Array.getElem?_eq_none h1] at h
    exact absurd h (by simp)

theorem over_cell {w : World} {a : Addr} {v : Value} (h : w.cell? a = some v) (x : World) : (over w x).cell? a = some v := by
  rw [(over_below w x).cell (lt_of_cell h)]; exact h

theorem below_cell {B : Nat} {w w' : World} {a : Addr} {v : Value} (hb : Below B w w') (h : w.cell? a = some v) (hB : a.block < B) : w'.cell? a = some v := by
  rw [hb.cell hB]; exact h

/-- Everything that w has is kept: below w's own size. -/
theorem kept_cell {w w' : World} {a : Addr} {v : Value} (hb : Below w.heap.size w w') (h : w.cell? a = some v) : w'.cell? a = some v := below_cell hb h (lt_of_cell h)

theorem calls_over {P : Program} {f : FuncId} {args : Array Value} {w x : World} {v : Value}
    (h : Calls P f args (over w x) fun e w' => e = .returned v ∧ Below (over w x).heap.size (over w x) w') : Calls P f args (over w x) fun e w'' => e = .returned v ∧ ∃ y, w'' = over w y :=
  h.mono fun _ w' ⟨he, hb⟩ => ⟨he, w', over_eq ((over_below w x).trans (hb.mono (over_size w x)))⟩

theorem calls_over_same {P : Program} {f : FuncId} {args : Array Value} {w x : World} {v : Value}
    (h : Calls P f args (over w x) fun e w' => e = .returned v ∧ w' = over w x) : Calls P f args (over w x) fun e w'' => e = .returned v ∧ ∃ y, w'' = over w y :=
  h.mono fun _ w' ⟨he, hb⟩ => ⟨he, x, hb⟩

theorem below_drewN (B : Nat) (w : World) (n : Nat) : Below B w (w.drewN n) := ⟨rfl, rfl, rfl, Nat.le_refl _, fun _ _ => rfl⟩

theorem calls_over_draws {P : Program} {f : FuncId} {args : Array Value} {w x : World} {v : Value}
    (h : Calls P f args (over w x) fun e w' => e = .returned v ∧ ∃ n, w' = (over w x).drewN n) : Calls P f args (over w x) fun e w'' => e = .returned v ∧ ∃ y, w'' = over w y :=
  calls_over (h.mono fun _ w' ⟨he, n, hb⟩ => ⟨he, by rw [hb]; exact below_drewN _ _ _⟩)

section
variable {P : Program} {id : Nat} {Q : Exit → Act → World → Prop} {a : Act} {w : World} {l : List Oper}
/-- THE LAW: name what holds of the world (S); the region is walked once, in worlds 'over W x', W a letter. -/
theorem wp_region_over (S : World → Prop) (hm : P.follows .mixedOrders = true) (hB : Region.lexB .any l.toArray = true) (hS : S w)
    (h : ∀ W, S W → wpQuiet P l.toArray (fun w' => ∃ x, w' = over W x) (fun a' => ∀ w', (∃ x, w' = over W x) → Q .normal a' w') l a) : (Code.region id l.toArray true).wp P Q a w :=
  wp_region_quiet (C := fun w' => ∃ x, w' = over w x) hm hB ⟨w.drew, over_eq ((Below.refl _ w).drew)⟩ (by simpa using h w hS)
end
end Go.Proofs.YtplldgkdjainlaaDoor
