/- One edge more: what it changes, said over lists. -/
import Derived.Test.YtmbkjgfnnpopgaaCyclePure
namespace Go.Proofs.Ytmbkjgfnnpopgaa
set_option linter.unusedSimpArgs false
set_option linter.unusedVariables false
open Go.RowKit

theorem lnkT_more {es : List Edg} {m : Edg} {u v : Nat} (h : lnkT es u v = true) : lnkT (es ++ [m]) u v = true := by
  unfold lnkT at h ⊢
  rw [List.any_append, h]; rfl
theorem lnkN_more {es : List Edg} {m : Edg} {u v : Nat} (h : lnkN es u v = true) : lnkN (es ++ [m]) u v = true := by
  unfold lnkN at h ⊢
  rw [List.any_append, h]; rfl
theorem reach_more {n : Nat} {es : List Edg} {m : Edg} {a b : Nat} (h : Reach (Ed n (lnkT es)) a b) : Reach (Ed n (lnkT (es ++ [m]))) a b := by
  induction h with
  | refl => exact .refl _
  | tail _ e ih => exact .tail ih ⟨e.1, e.2.1, lnkT_more e.2.2⟩
theorem bad_more {n : Nat} {es : List Edg} (m : Edg) (h : HasBad n es) : HasBad n (es ++ [m]) := by
  obtain ⟨x, hx, h1, h2⟩ := h
  exact ⟨x, List.mem_append_left _ hx, h1, reach_more h2.1, reach_more h2.2⟩
theorem sol_less {n : Nat} {es : List Edg} {m : Edg} {X : Nat → Int} (h : Sol n (lnkT (es ++ [m])) (lnkN (es ++ [m])) X) : Sol n (lnkT es) (lnkN es) X :=
  ⟨h.nn, fun u v hu hv e => h.le u v hu hv (lnkT_more e), fun u v hu hv e => h.lt u v hu hv (lnkN_more e)⟩
theorem fit_less {n : Int} {es : List Edg} {m : Edg} (h : fitP n (es ++ [m]) = true) : fitP n es = true := by
  unfold fitP at h ⊢
  rw [List.any_append] at h
  simp only [Bool.and_eq_true, decide_eq_true_eq, Bool.not_eq_true', Bool.or_eq_false_iff] at h ⊢
  exact ⟨h.1, h.2.1, h.2.2.1⟩
end Go.Proofs.Ytmbkjgfnnpopgaa
