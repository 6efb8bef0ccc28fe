/- Is it a level mapping? The document's Holds and strata.Holds. -/
import Derived.Test.YtmbkjgfnnpopgaaEdgeRFit
namespace Go.Proofs.Ytmbkjgfnnpopgaa
set_option linter.unusedSimpArgs false
set_option linter.unusedVariables false
open Go.RowKit

def lv (ls : List Int) (x : Int) : Int := (ls[x.toNat]?).getD 0
def eBad (ls : List Int) (e : Edg) : Bool := decide (lv ls e.t < lv ls e.f) || (e.neg && (lv ls e.t == lv ls e.f))
def neg0 (x : Int) : Bool := decide (x < 0)
def holdsP (n : Int) (es : List Edg) (ls : List Int) : Bool := fitP n es && ((ls.length : Int) == n && (!ls.any neg0 && !es.any (eBad ls)))

theorem fit_in {n : Int} {es : List Edg} (h : fitP n es = true) : (0 ≤ n ∧ n ≤ 128) ∧ ∀ x ∈ es, 0 ≤ x.f ∧ x.f < n ∧ 0 ≤ x.t ∧ x.t < n := by
  unfold fitP at h
  simp only [Bool.and_eq_true, decide_eq_true_eq, Bool.not_eq_true', List.any_eq_false] at h
  refine ⟨⟨h.1, h.2.1⟩, fun x hx => eOut_false ?_⟩
  have := h.2.2 x hx
  simpa using this

end Go.Proofs.Ytmbkjgfnnpopgaa
