/- parse's grammar over a list of tokens, as plain functions: the tree and what is left, or the fault. -/
import Derived.Test.YtnpmdepbfobebaaGreatDoorLexRow
import Derived.Test.YtnpmdepbfobebaaGreatDoorTreeMem
namespace Go.Proofs.YtnpmdepbfobebaaGreatDoor
set_option linter.unusedSimpArgs false
set_option linter.unusedVariables false
open Go.RowKit

structure PAtom where
  p : ByteArray
  ts : List Trm
  off : Int
structure PLit where
  k : Int
  a : PAtom
  op : Int
  l : Trm
  r : Trm
  off : Int
structure PCls where
  h : PAtom
  b : List PLit

/-- The answer of a rule: a fault, or a thing and the tokens that are left. -/
inductive PR (α : Type) where
  | bad (code off : Int)
  | ok (x : α) (rest : List Tok)

def misK (k : Int) : Int := if k = 0 then 21 else 20
/-- take: e is why no token follows. -/
def takeP (ec eo : Int) (ks : List Int) : List Tok → PR Tok
  | [] => .bad ec eo
  | t :: r => if t.k ∈ ks then .ok t r else .bad (misK t.k) t.off
def kindT (k : Int) : Int := if k = 3 then 1 else if k = 1 then 2 else if k = 4 then 3 else 4
def termP (t : Tok) : Trm := ⟨kindT t.k, t.n, t.t, t.off⟩
def zeroTrm : Trm := ⟨0, 0, ⟨#[]⟩, 0⟩
def zeroAtom : PAtom := ⟨⟨#[]⟩, [], 0⟩

/-- The terms of an atom behind its bracket: those so far, then what follows; ks: the kinds that a term may have. -/
def argsP (ec eo : Int) (ks : List Int) (acc : List Trm) : List Tok → PR (List Trm)
  | [] => .bad ec eo
  | t :: r =>
    if t.k ∈ ks then
      if acc.length = 8 then .bad 22 t.off
      else match r with
        | [] => .bad ec eo
        | s :: r' => if s.k = 7 then argsP ec eo ks (acc ++ [termP t]) r' else if s.k = 6 then .ok (acc ++ [termP t]) r' else .bad (misK s.k) s.off
    else .bad (misK t.k) t.off

def atomP (ec eo : Int) (ks : List Int) (name : Tok) : List Tok → PR PAtom
  | [] => .bad ec eo
  | t :: r => if t.k = 5 then (match argsP ec eo ks [] r with | .bad c o => .bad c o | .ok ts r' => .ok ⟨name.t, ts, name.off⟩ r') else .ok ⟨name.t, [], name.off⟩ (t :: r)

def termKs : List Int := [2, 3, 1, 4]
def valueKs : List Int := [3, 1, 4]

def litP (ec eo : Int) (first : Tok) (r : List Tok) : PR PLit :=
  if first.k = 10 then
    match takeP ec eo [1] r with
    | .bad c o => .bad c o
    | .ok n r' => match atomP ec eo termKs n r' with
      | .bad c o => .bad c o
      | .ok a r'' => .ok ⟨2, a, 0, zeroTrm, zeroTrm, first.off⟩ r''
  else
    let test := match takeP ec eo [11] r with
      | .bad c o => PR.bad c o
      | .ok o1 r' => match takeP ec eo termKs r' with
        | .bad c o => .bad c o
        | .ok t2 r'' => .ok ⟨3, zeroAtom, o1.op, termP first, termP t2, first.off⟩ r''
    if first.k = 1 then
      match r with
      | [] => .bad ec eo
      | t :: _ => if t.k = 11 then test else
        match atomP ec eo termKs first r with
        | .bad c o => .bad c o
        | .ok a r' => .ok ⟨1, a, 0, zeroTrm, zeroTrm, first.off⟩ r'
    else test

def bodyF (ec eo : Int) : Nat → List PLit → List Tok → PR (List PLit)
  | 0, _, _ => .bad ec eo
  | n + 1, acc, R => match takeP ec eo [1, 10, 2, 3, 4] R with
    | .bad c o => .bad c o
    | .ok t r => if acc.length = 16 then .bad 23 t.off else match litP ec eo t r with
      | .bad c o => .bad c o
      | .ok x r' => match takeP ec eo [7, 8] r' with
        | .bad c o => .bad c o
        | .ok s r'' => if s.k = 8 then .ok (acc ++ [x]) r'' else bodyF ec eo n (acc ++ [x]) r''
def bodyP (ec eo : Int) (R : List Tok) : PR (List PLit) := bodyF ec eo (R.length + 1) [] R

def clauseP (ec eo : Int) (name : Tok) (R : List Tok) : PR PCls :=
  match atomP ec eo termKs name R with
  | .bad c o => .bad c o
  | .ok a r => match takeP ec eo [8, 9] r with
    | .bad c o => .bad c o
    | .ok s r' => if s.k = 9 then (match bodyP ec eo r' with | .bad c o => .bad c o | .ok b r'' => .ok ⟨a, b⟩ r'') else .ok ⟨a, []⟩ r'

def progF (ec eo : Int) : Nat → List PCls → List Tok → PR (List PCls)
  | 0, _, _ => .bad ec eo
  | n + 1, acc, R => match takeP ec eo [1, 0] R with
    | .bad c o => .bad c o
    | .ok t r => if t.k = 0 then .ok acc r else if acc.length = 512 then .bad 24 t.off else match clauseP ec eo t r with
      | .bad c o => .bad c o
      | .ok x r' => progF ec eo n (acc ++ [x]) r'
def progP (ec eo : Int) (R : List Tok) : PR (List PCls) := progF ec eo (R.length + 1) [] R

def factsF (ec eo : Int) : Nat → List PAtom → List Tok → PR (List PAtom)
  | 0, _, _ => .bad ec eo
  | n + 1, acc, R => match takeP ec eo [1, 0] R with
    | .bad c o => .bad c o
    | .ok t r => if t.k = 0 then .ok acc r else if acc.length = 4096 then .bad 24 t.off else match atomP ec eo valueKs t r with
      | .bad c o => .bad c o
      | .ok x r' => match takeP ec eo [8] r' with
        | .bad c o => .bad c o
        | .ok _ r'' => factsF ec eo n (acc ++ [x]) r''
def factsP (ec eo : Int) (R : List Tok) : PR (List PAtom) := factsF ec eo (R.length + 1) [] R

def queryP (ec eo : Int) (R : List Tok) : PR (List PLit) :=
  match bodyP ec eo R with
  | .bad c o => .bad c o
  | .ok b r => match takeP ec eo [0] r with
    | .bad c o => .bad c o
    | .ok _ r' => .ok b r'
def factP (ec eo : Int) (R : List Tok) : PR PAtom :=
  match takeP ec eo [1] R with
  | .bad c o => .bad c o
  | .ok t r => match atomP ec eo valueKs t r with
    | .bad c o => .bad c o
    | .ok a r' => match takeP ec eo [0] r' with
      | .bad c o => .bad c o
      | .ok _ r'' => .ok a r''
end Go.Proofs.YtnpmdepbfobebaaGreatDoor
