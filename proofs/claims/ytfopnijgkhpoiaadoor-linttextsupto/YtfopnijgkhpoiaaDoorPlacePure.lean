/- Line and column of an offset, by one walk over the bytes ahead: no program in sight. -/
import Derived.Test.YtfopnijgkhpoiaaDoorProg
import Derived.Test.YtfopnijgkhpoiaaDoorOpen
import Derived.WalkSpells
import Derived.WalkLawsBesides
namespace Go.Proofs.YtfopnijgkhpoiaaDoor
set_option linter.unusedSimpArgs false
set_option linter.unusedVariables false
open Go.RowKit

def stepP (p : Nat × Nat) (b : UInt8) : Nat × Nat := if b.toNat = 10 then (p.1 + 1, 1) else (p.1, p.2 + 1)
def placeL (l : List UInt8) : Nat × Nat := l.foldl stepP (1, 1)

theorem placeL_snoc (l : List UInt8) (b : UInt8) : placeL (l ++ [b]) = stepP (placeL l) b := by
  unfold placeL; rw [List.foldl_append]; rfl

theorem takeB_snoc (s : ByteArray) (k : Nat) (h : k < s.size) : s.data.toList.take (k + 1) = s.data.toList.take k ++ [s[k]] := by
  rw [List.take_succ_eq_append_getElem (by simpa using h)]
  rfl

theorem placeL_le (s : ByteArray) : ∀ k : Nat, k ≤ s.size → (placeL (s.data.toList.take k)).1 ≤ k + 1 ∧ (placeL (s.data.toList.take k)).2 ≤ k + 1 ∧ 1 ≤ (placeL (s.data.toList.take k)).1 ∧ 1 ≤ (placeL (s.data.toList.take k)).2
  | 0, _ => ⟨Nat.le_refl _, Nat.le_refl _, Nat.le_refl _, Nat.le_refl _⟩
  | k + 1, h => by
    obtain ⟨a, b, c, d⟩ := placeL_le s k (by omega)
    rw [takeB_snoc s k (by omega), placeL_snoc]
    unfold stepP
    split <;> refine ⟨?_, ?_, ?_, ?_⟩ <;> simp <;> omega

def placeW (s : ByteArray) (off : Int) : Int × Int :=
  if s.size ≤ 65536 ∧ 0 ≤ off ∧ off ≤ s.size then (((placeL (s.data.toList.take off.toNat)).1 : Int), ((placeL (s.data.toList.take off.toNat)).2 : Int)) else (0, 0)

theorem ret_two {a b c d : Int} (h1 : a = c) (h2 : b = d) : Ending.returned (.tuple #[.int .i64 a, .int .i64 b]) = .returned (.tuple #[.int .i64 c, .int .i64 d]) := by rw [h1, h2]

end Go.Proofs.YtfopnijgkhpoiaaDoor
