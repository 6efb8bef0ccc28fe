/- A list of findings in memory, and its text. -/
import Derived.Test.YtfopnijgkhpoiaaDoorProg
import Derived.Test.YtfopnijgkhpoiaaDoorFindLine
import Derived.Test.YtfopnijgkhpoiaaDoorLists
namespace Go.Proofs.YtfopnijgkhpoiaaDoor
set_option linter.unusedSimpArgs false
set_option linter.unusedVariables false
open Go.RowKit

structure Fnd where
  k : Int
  c : Int
  o : Int
  f : Int
  nm : ByteArray

def Fnd.ok (x : Fnd) : Prop := I64 x.c ∧ I64 x.o ∧ I64 x.f ∧ x.nm.size ≤ 1048576
def elFnd : El Fnd where
  cells p := [.int .i64 p.k, .int .i64 p.c, .int .i64 p.o, .int .i64 p.f, .string p.nm]
  size := 5
  pos := by decide
  len _ := rfl
  ok _ _ p := p.ok
  one _ u hu := by simp only [List.mem_cons, List.not_mem_nil, or_false] at hu; rcases hu with rfl | rfl | rfl | rfl | rfl <;> rfl
  move h _ := h

def Fnd.msg (x : Fnd) : List UInt8 := msgL x.k x.c x.o x.nm.data.toList
def Fnd.line (src : ByteArray) (x : Fnd) : List UInt8 := if x.msg = [] then [] else lineL src x.f x.msg
def textL (src : ByteArray) (l : List Fnd) : List UInt8 := l.flatMap (Fnd.line src)

theorem Fnd.msg_len {x : Fnd} (h : x.ok) : x.msg.length ≤ 1100000 := by
  have := msgL_len (k := x.k) (nm := x.nm.data.toList) h.1 h.2.1
  have h2 : x.nm.data.toList.length = x.nm.size := rfl
  have := h.2.2.2
  unfold Fnd.msg
  omega
theorem Fnd.line_len {src : ByteArray} {x : Fnd} (hs : src.size ≤ 2000000) (h : x.ok) : (x.line src).length ≤ 1200000 := by
  have h1 := Fnd.msg_len h
  unfold Fnd.line
  split
  · simp
  · have := lineL_len src x.f x.msg hs
    omega
theorem text_len {src : ByteArray} (hs : src.size ≤ 2000000) : ∀ {l : List Fnd}, (∀ x ∈ l, x.ok) → (textL src l).length ≤ 1200000 * l.length
  | [], _ => Nat.le_refl _
  | x :: r, h => by
    have h1 := Fnd.line_len hs (h x (List.mem_cons_self ..))
    have h2 := text_len hs (l := r) (fun y hy => h y (List.mem_cons_of_mem _ hy))
    unfold textL at h2 ⊢
    rw [List.flatMap_cons, List.length_append, List.length_cons]
    omega
theorem text_take (src : ByteArray) (l : List Fnd) {k : Nat} {x : Fnd} (hx : l[k]? = some x) : textL src (l.take (k + 1)) = textL src (l.take k) ++ x.line src := by
  unfold textL
  rw [List.take_add_one, hx, List.flatMap_append]
  simp
theorem take_ok {l : List Fnd} (h : ∀ x ∈ l, x.ok) (k : Nat) : ∀ x ∈ l.take k, x.ok := fun x hx => h x (List.mem_of_mem_take hx)
theorem mt_nil {m : List UInt8} {X : ByteArray} (e : X = ⟨m.toArray⟩) (h : m = []) : X = ⟨#[]⟩ := by rw [e, h]
theorem mt_not {m : List UInt8} {X : ByteArray} (e : X = ⟨m.toArray⟩) (h : m ≠ []) : X.toList.isEmpty = false ∧ (X.toList == []) = false := by
  rw [ByteArray.toList_eq, e]
  cases m with
  | nil => exact absurd rfl h
  | cons => exact ⟨rfl, rfl⟩
end Go.Proofs.YtfopnijgkhpoiaaDoor
