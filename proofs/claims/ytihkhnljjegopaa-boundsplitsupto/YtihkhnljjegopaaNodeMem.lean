/- Nodes of a plan as they lie in memory. -/
import Derived.Test.YtihkhnljjegopaaForms
namespace Go.Proofs.Ytihkhnljjegopaa
set_option linter.unusedSimpArgs false
set_option linter.unusedVariables false
open Go.RowKit

/-- A link: a place, a variable. -/
structure Lnk where
  p : Int
  v : Int
def elLnk : El Lnk where
  cells c := [.int .i64 c.p, .int .i64 c.v]
  size := 2
  pos := by decide
  len _ := rfl
  ok _ _ c := I64 c.p ∧ I64 c.v
  one _ u hu := by simp only [List.mem_cons, List.not_mem_nil, or_false] at hu; rcases hu with rfl | rfl <;> rfl
  move h _ := h
structure Nod where
  k : Int
  p : Int
  a : Int
  lv : Value
  ls : List Lnk
  nv : Value
  ns : List Int
  t : Tes
  w : Int
def elNod : El Nod where
  cells c := [.int .i64 c.k, .int .i64 c.p, .int .i64 c.a, c.lv, c.nv, .int .i64 c.t.op, .bool c.t.l.v, .int .i64 c.t.l.n, .bool c.t.r.v, .int .i64 c.t.r.n, .int .i64 c.w]
  size := 11
  pos := by decide
  len _ := rfl
  ok w F c := I64 c.k ∧ I64 c.p ∧ I64 c.a ∧ Lst elLnk w F c.lv c.ls ∧ Lst elInt w F c.nv c.ns ∧ elTes.ok w F c.t ∧ I64 c.w
  one h u hu := by
    have h1 := h.2.2.2.1.one
    have h2 := h.2.2.2.2.1.one
    simp only [List.mem_cons, List.not_mem_nil, or_false] at hu
    rcases hu with rfl | rfl | rfl | rfl | rfl | rfl | rfl | rfl | rfl | rfl | rfl <;> first | rfl | exact h1 | exact h2
  move h hm := ⟨h.1, h.2.1, h.2.2.1, h.2.2.2.1.move hm, h.2.2.2.2.1.move hm, h.2.2.2.2.2⟩
theorem elNod_ok {w : World} {F : Nat → Prop} {c : Nod} (h : elNod.ok w F c) : I64 c.k ∧ I64 c.p ∧ I64 c.a ∧ Lst elLnk w F c.lv c.ls ∧ Lst elInt w F c.nv c.ns ∧ elTes.ok w F c.t ∧ I64 c.w := h
end Go.Proofs.Ytihkhnljjegopaa
