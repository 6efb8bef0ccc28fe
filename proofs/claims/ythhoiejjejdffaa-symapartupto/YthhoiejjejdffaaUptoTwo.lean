/- What the second form's bound says of two lists together. -/
import Derived.Test.YthhoiejjejdffaaUpto
namespace Go.Proofs.Ythhoiejjejdffaa
set_option linter.unusedSimpArgs false
set_option linter.unusedVariables false
open Go.RowKit Go.Deep Go.Joins

theorem slice_bulk {H : Type} {enc : TypeId × Value → H} {P : Program} {w : World} {base : Nat} {spare : Nat → Bool} {held : Bool} {t e : TypeId} {ao : Option Addr} {len cap : Nat} {d : DataW H} {ps : List MemPlace}
    (ht : P.underlying t = some (.slice e)) (h : DataW.Trod enc P w base spare held t (.slice ao len cap) d ps) : len ≤ Rows.uptoBulk d := by
  have h2 := sliceLen_Trod ht h
  cases d with
  | slice a b =>
    have := bulk_len a
    simp only [sliceLen] at h2
    simp only [Rows.uptoBulk]
    omega
  | _ => simp only [sliceLen] at h2; omega

theorem upto_two {H : Type} {d0 d1 : DataW H} (hk : Rows.uptoSmall H [d0, d1] = true) {n0 n1 : Nat} (h0 : n0 ≤ Rows.uptoBulk d0) (h1 : n1 ≤ Rows.uptoBulk d1) : n0 + n1 ≤ 1048576 := by
  have h2 : Rows.uptoBulkAll [d0, d1] ≤ 1048576 := of_decide_eq_true hk
  simp only [Rows.uptoBulkAll] at h2
  omega
end Go.Proofs.Ythhoiejjejdffaa
