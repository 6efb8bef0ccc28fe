/- Shapes, said over lists: which are valid, which rows fit. -/
import Derived.Test.YtgligipgjakecaaDoorForms
namespace Go.Proofs.YtgligipgjakecaaDoor
set_option linter.unusedSimpArgs false
set_option linter.unusedVariables false
open Go.RowKit

/-- The place that a number below 0 speaks of. -/
def at10 (c : Int) : Nat := (-1 - c).toNat
theorem at10_eq {c : Int} (h : c < 0) : ((at10 c : Nat) : Int) = -1 - c := by unfold at10; omega
theorem at10_neg (j : Nat) : at10 (-1 - (j : Int)) = j := by unfold at10; omega
def CellOk (cs : List Int) (i : Nat) (c : Int) : Prop := c < 0 → at10 c ≤ i ∧ cs[at10 c]? = some c
def Vld (q : Int) (cs : List Int) : Prop := 0 ≤ q ∧ ∀ i c, cs[i]? = some c → CellOk cs i c
noncomputable def vldB (q : Int) (cs : List Int) : Bool := @decide (Vld q cs) (Classical.propDecidable _)
theorem vldB_iff {q : Int} {cs : List Int} : vldB q cs = true ↔ Vld q cs := by exact @decide_eq_true_iff _ (Classical.propDecidable _)
theorem vldB_yes {q : Int} {cs : List Int} (h : Vld q cs) : vldB q cs = true := vldB_iff.2 h
theorem vldB_no {q : Int} {cs : List Int} (h : ¬ Vld q cs) : vldB q cs = false := by
  cases hb : vldB q cs with
  | false => rfl
  | true => exact absurd (vldB_iff.1 hb) h

/-- What is asked of place i of a row. -/
def Asks (rs : List Int) (i : Nat) (c : Int) : Prop := rs[i]? = (if c < 0 then rs[at10 c]? else some c)
def FitC (cs rs : List Int) : Prop := rs.length = cs.length ∧ ∀ i c, cs[i]? = some c → Asks rs i c
noncomputable def fitCB (cs rs : List Int) : Bool := @decide (FitC cs rs) (Classical.propDecidable _)
theorem fitCB_iff {cs rs : List Int} : fitCB cs rs = true ↔ FitC cs rs := by exact @decide_eq_true_iff _ (Classical.propDecidable _)
theorem fitCB_yes {cs rs : List Int} (h : FitC cs rs) : fitCB cs rs = true := fitCB_iff.2 h
theorem fitCB_no {cs rs : List Int} (h : ¬ FitC cs rs) : fitCB cs rs = false := by
  cases hb : fitCB cs rs with
  | false => rfl
  | true => exact absurd (fitCB_iff.1 hb) h
noncomputable def fitB (q : Int) (cs : List Int) (p : Int) (rs : List Int) : Bool := vldB q cs && (decide (p = q) && fitCB cs rs)
theorem fitB_iff {q : Int} {cs : List Int} {p : Int} {rs : List Int} : fitB q cs p rs = true ↔ Vld q cs ∧ p = q ∧ FitC cs rs := by
  unfold fitB
  rw [Bool.and_eq_true, Bool.and_eq_true, decide_eq_true_iff, vldB_iff, fitCB_iff]

theorem all_next {α : Type} {l : List α} {p : Nat → α → Prop} {k : Nat} {x : α} (hx : l[k]? = some x) (h : ∀ i y, i < k → l[i]? = some y → p i y) (hp : p k x) : ∀ i y, i < k + 1 → l[i]? = some y → p i y := by
  intro i y hi hy
  rcases Nat.lt_or_ge i k with h1 | h1
  · exact h i y h1 hy
  · obtain rfl : i = k := by omega
    rw [hx] at hy
    cases hy
    exact hp
theorem all_done {α : Type} {l : List α} {p : Nat → α → Prop} (h : ∀ i y, i < l.length → l[i]? = some y → p i y) : ∀ i y, l[i]? = some y → p i y :=
  fun i y hy => h i y (List.getElem?_eq_some_iff.1 hy).1 hy
end Go.Proofs.YtgligipgjakecaaDoor
