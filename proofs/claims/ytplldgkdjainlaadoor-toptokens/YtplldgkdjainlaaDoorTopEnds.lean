/- How the tokens of a text end: at its end, or at a place where none can stand. -/
import Derived.Test.YtplldgkdjainlaaDoorProg
import Derived.Test.YtplldgkdjainlaaDoorLexToks
namespace Go.Proofs.YtplldgkdjainlaaDoor
set_option linter.unusedSimpArgs false
set_option linter.unusedVariables false
open Go.RowKit

theorem toks_endsT {s : ByteArray} {o : Nat} {L : List Tok} {c : Int} {f : Nat} (h : Toks s o L c f) :
    (∃ k t, L[k]? = some t ∧ k + 1 = L.length ∧ t.k = 0 ∧ c = 0 ∧ f = 0) ∨ ((∀ k t, L[k]? = some t → k + 1 = L.length → t.k ≠ 0) ∧ nextX s (endOf o L) = .bad c f ∧ endOf o L ≤ s.size) := by
  induction h with
  | bad ho hx => exact .inr ⟨fun k t ht => by simp at ht, hx, ho⟩
  | @last o t ho hx hk => exact .inl ⟨0, t, rfl, rfl, hk, rfl, rfl⟩
  | @more o t r c f ho hx hk hr ih =>
    rcases ih with ⟨k, t', h1, h2, h3, h4, h5⟩ | ⟨h1, h2, h3⟩
    · exact .inl ⟨k + 1, t', by simpa using h1, by simp [h2], h3, h4, h5⟩
    · refine .inr ⟨fun k t' hk' hl => ?_, h2, h3⟩
      cases k with
      | zero => simp at hk'; subst hk'; exact hk
      | succ k => exact h1 k t' (by simpa using hk') (by simpa using hl)
theorem bad_code {s : ByteArray} {o : Nat} {c : Int} {f : Nat} (h : nextX s o = .bad c f) : 10 ≤ c := by
  rcases next_bad h with ⟨-, h, -⟩ | ⟨-, h, -⟩ <;> omega
end Go.Proofs.YtplldgkdjainlaaDoor
