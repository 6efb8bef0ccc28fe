/- The plain types of the program as they lie in memory: slots, tests, patterns, rules, rows, predicates, constants, terms, atoms, literals, clauses. -/
import Derived.Test.YtnpmdepbfobebaaGreatDoorLists
import Derived.Test.YtnpmdepbfobebaaGreatDoorTreeMem
namespace Go.Proofs.YtnpmdepbfobebaaGreatDoor
set_option linter.unusedSimpArgs false
set_option linter.unusedVariables false
open Go.RowKit

def elInt : El Int where
  cells x := [.int .i64 x]
  size := 1
  pos := by decide
  len _ := rfl
  ok _ _ x := I64 x
  one _ u hu := by simp only [List.mem_singleton] at hu; subst hu; rfl
  move h _ := h
def elStr : El ByteArray where
  cells s := [.string s]
  size := 1
  pos := by decide
  len _ := rfl
  ok _ _ s := s.size ≤ 140737488351232
  one _ u hu := by simp only [List.mem_singleton] at hu; subst hu; rfl
  move h _ := h
def elCon : El Con where
  cells c := [.int .i64 c.k, .int .i64 c.n, .string c.s]
  size := 3
  pos := by decide
  len _ := rfl
  ok _ _ c := c.ok
  one _ u hu := by simp only [List.mem_cons, List.not_mem_nil, or_false] at hu; rcases hu with rfl | rfl | rfl <;> rfl
  move h _ := h
/-- A predicate: name and arity. -/
structure Prd where
  s : ByteArray
  n : Int
def elPrd : El Prd where
  cells c := [.string c.s, .int .i64 c.n]
  size := 2
  pos := by decide
  len _ := rfl
  ok _ _ c := c.s.size ≤ 140737488351232 ∧ I64 c.n
  one _ u hu := by simp only [List.mem_cons, List.not_mem_nil, or_false] at hu; rcases hu with rfl | rfl <;> rfl
  move h _ := h
/-- A slot: a variable's number or a constant's id. -/
structure Slo where
  v : Bool
  n : Int
def elSlo : El Slo where
  cells c := [.bool c.v, .int .i64 c.n]
  size := 2
  pos := by decide
  len _ := rfl
  ok _ _ c := I64 c.n
  one _ u hu := by simp only [List.mem_cons, List.not_mem_nil, or_false] at hu; rcases hu with rfl | rfl <;> rfl
  move h _ := h
structure Tes where
  op : Int
  l : Slo
  r : Slo
def elTes : El Tes where
  cells c := [.int .i64 c.op, .bool c.l.v, .int .i64 c.l.n, .bool c.r.v, .int .i64 c.r.n]
  size := 5
  pos := by decide
  len _ := rfl
  ok _ _ c := I64 c.op ∧ I64 c.l.n ∧ I64 c.r.n
  one _ u hu := by simp only [List.mem_cons, List.not_mem_nil, or_false] at hu; rcases hu with rfl | rfl | rfl | rfl | rfl <;> rfl
  move h _ := h
def elTrm : El Trm where
  cells c := [.int .i64 c.k, .int .i64 c.n, .string c.s, .int .i64 c.off]
  size := 4
  pos := by decide
  len _ := rfl
  ok _ _ c := c.ok
  one _ u hu := by simp only [List.mem_cons, List.not_mem_nil, or_false] at hu; rcases hu with rfl | rfl | rfl | rfl <;> rfl
  move h _ := h

theorem Lst.one {α : Type} {E : El α} {w : World} {F : Nat → Prop} {v : Value} {l : List α} (h : Lst E w F v l) : v.oneCell' = true := by
  obtain ⟨ao, cap, e, _⟩ := h
  rw [e]; rfl

/-- A pattern: a predicate's id, slots. -/
structure Pat where
  q : Int
  v : Value
  ss : List Slo
def elPat : El Pat where
  cells c := [.int .i64 c.q, c.v]
  size := 2
  pos := by decide
  len _ := rfl
  ok w F c := I64 c.q ∧ Lst elSlo w F c.v c.ss
  one h u hu := by
    simp only [List.mem_cons, List.not_mem_nil, or_false] at hu
    rcases hu with rfl | rfl
    · rfl
    · exact h.2.one
  move h hm := ⟨h.1, h.2.move hm⟩
/-- A row: a predicate's id, constants' ids. -/
structure Roe where
  q : Int
  v : Value
  l : List Int
def elRoe : El Roe where
  cells c := [.int .i64 c.q, c.v]
  size := 2
  pos := by decide
  len _ := rfl
  ok w F c := I64 c.q ∧ Lst elInt w F c.v c.l
  one h u hu := by
    simp only [List.mem_cons, List.not_mem_nil, or_false] at hu
    rcases hu with rfl | rfl
    · rfl
    · exact h.2.one
  move h hm := ⟨h.1, h.2.move hm⟩
structure Rul where
  h : Pat
  pv : Value
  ps : List Pat
  tv : Value
  ts : List Tes
  nv : Value
  ns : List Pat
  vv : Value
  vs : List ByteArray
  c : Int
def elRul : El Rul where
  cells c := [.int .i64 c.h.q, c.h.v, c.pv, c.tv, c.nv, c.vv, .int .i64 c.c]
  size := 7
  pos := by decide
  len _ := rfl
  ok w F c := elPat.ok w F c.h ∧ Lst elPat w F c.pv c.ps ∧ Lst elTes w F c.tv c.ts ∧ Lst elPat w F c.nv c.ns ∧ Lst elStr w F c.vv c.vs ∧ I64 c.c
  one h u hu := by
    simp only [List.mem_cons, List.not_mem_nil, or_false] at hu
    rcases hu with rfl | rfl | rfl | rfl | rfl | rfl | rfl
    · rfl
    · exact h.1.2.one
    · exact h.2.1.one
    · exact h.2.2.1.one
    · exact h.2.2.2.1.one
    · exact h.2.2.2.2.1.one
    · rfl
  move h hm := ⟨elPat.move h.1 hm, h.2.1.move hm, h.2.2.1.move hm, h.2.2.2.1.move hm, h.2.2.2.2.1.move hm, h.2.2.2.2.2⟩
/-- An atom: a name, terms, an offset. -/
structure Atx where
  p : ByteArray
  v : Value
  off : Int
  ts : List Trm
def elAtx : El Atx where
  cells c := [.string c.p, c.v, .int .i64 c.off]
  size := 3
  pos := by decide
  len _ := rfl
  ok w F c := c.p.size ≤ 140737488351232 ∧ I64 c.off ∧ Lst elTrm w F c.v c.ts
  one h u hu := by
    simp only [List.mem_cons, List.not_mem_nil, or_false] at hu
    rcases hu with rfl | rfl | rfl
    · rfl
    · exact h.2.2.one
    · rfl
  move h hm := ⟨h.1, h.2.1, h.2.2.move hm⟩
structure Lix where
  k : Int
  a : Atx
  op : Int
  l : Trm
  r : Trm
  off : Int
def elLix : El Lix where
  cells c := [.int .i64 c.k, .string c.a.p, c.a.v, .int .i64 c.a.off, .int .i64 c.op, .int .i64 c.l.k, .int .i64 c.l.n, .string c.l.s, .int .i64 c.l.off, .int .i64 c.r.k, .int .i64 c.r.n, .string c.r.s, .int .i64 c.r.off, .int .i64 c.off]
  size := 14
  pos := by decide
  len _ := rfl
  ok w F c := I64 c.k ∧ elAtx.ok w F c.a ∧ I64 c.op ∧ c.l.ok ∧ c.r.ok ∧ I64 c.off
  one h u hu := by
    simp only [List.mem_cons, List.not_mem_nil, or_false] at hu
    have := h.2.1.2.2.one
    rcases hu with rfl | rfl | rfl | rfl | rfl | rfl | rfl | rfl | rfl | rfl | rfl | rfl | rfl | rfl <;> first | rfl | exact this
  move h hm := ⟨h.1, elAtx.move h.2.1 hm, h.2.2⟩
structure Clx where
  h : Atx
  v : Value
  ls : List Lix
def elClx : El Clx where
  cells c := [.string c.h.p, c.h.v, .int .i64 c.h.off, c.v]
  size := 4
  pos := by decide
  len _ := rfl
  ok w F c := elAtx.ok w F c.h ∧ Lst elLix w F c.v c.ls
  one h u hu := by
    simp only [List.mem_cons, List.not_mem_nil, or_false] at hu
    rcases hu with rfl | rfl | rfl | rfl
    · rfl
    · exact h.1.2.2.one
    · rfl
    · exact h.2.one
  move h hm := ⟨elAtx.move h.1 hm, h.2.move hm⟩
theorem elPat_ok {w : World} {F : Nat → Prop} {p : Pat} (h : elPat.ok w F p) : I64 p.q ∧ Lst elSlo w F p.v p.ss := h
theorem elRoe_ok {w : World} {F : Nat → Prop} {p : Roe} (h : elRoe.ok w F p) : I64 p.q ∧ Lst elInt w F p.v p.l := h
theorem elRul_ok {w : World} {F : Nat → Prop} {c : Rul} (h : elRul.ok w F c) : elPat.ok w F c.h ∧ Lst elPat w F c.pv c.ps ∧ Lst elTes w F c.tv c.ts ∧ Lst elPat w F c.nv c.ns ∧ Lst elStr w F c.vv c.vs ∧ I64 c.c := h
theorem elAtx_ok {w : World} {F : Nat → Prop} {c : Atx} (h : elAtx.ok w F c) : c.p.size ≤ 140737488351232 ∧ I64 c.off ∧ Lst elTrm w F c.v c.ts := h
theorem elLix_ok {w : World} {F : Nat → Prop} {c : Lix} (h : elLix.ok w F c) : I64 c.k ∧ elAtx.ok w F c.a ∧ I64 c.op ∧ c.l.ok ∧ c.r.ok ∧ I64 c.off := h
theorem elClx_ok {w : World} {F : Nat → Prop} {c : Clx} (h : elClx.ok w F c) : elAtx.ok w F c.h ∧ Lst elLix w F c.v c.ls := h
end Go.Proofs.YtnpmdepbfobebaaGreatDoor
