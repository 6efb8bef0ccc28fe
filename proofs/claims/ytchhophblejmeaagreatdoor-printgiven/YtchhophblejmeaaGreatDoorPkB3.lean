/- Programs in memory: terms, atoms, literals, clauses. parse's grammar over a list of tokens, as plain functions: the tree and what is left, or the fault. parse's reader: look, take, limit, giveUp. parse's reader takes a token. parse's reader takes a term. parse's reader takes a term or a value. -/
import Derived.Test.YtchhophblejmeaaGreatDoorOpen
import Derived.Test.YtchhophblejmeaaGreatDoorLexRow
import Derived.Test.YtchhophblejmeaaGreatDoorProg
import Derived.WalkLawsBesides
import Derived.Deep.RegionWith
import Derived.Deep.RegionHeld3

namespace Go.Proofs.YtchhophblejmeaaGreatDoor
set_option linter.unusedSimpArgs false
set_option linter.unusedVariables false
open Go.RowKit

structure Trm where
  k : Int
  n : Int
  s : ByteArray
  off : Int
def Trm.con (t : Trm) : Con := ⟨t.k, t.n, t.s⟩
def Trm.ok (t : Trm) : Prop := t.con.ok ∧ I64 t.off
def Trm.val (t : Trm) : Value := .agg #[.int .i64 t.k, .int .i64 t.n, .string t.s, .int .i64 t.off]
def trmAt (w : World) (b off : Nat) (t : Trm) : Prop :=
  w.cell? ⟨b, off, none⟩ = some (.int .i64 t.k) ∧ w.cell? ⟨b, off + 1, none⟩ = some (.int .i64 t.n) ∧ w.cell? ⟨b, off + 2, none⟩ = some (.string t.s) ∧ w.cell? ⟨b, off + 3, none⟩ = some (.int .i64 t.off)
def IsTrms (w : World) (ao : Option Addr) (len : Nat) (ts : List Trm) : Prop :=
  ts.length = len ∧ len * 40 ≤ 140737488351232 ∧ (∀ t ∈ ts, t.ok) ∧ (0 < len → ∃ b off, ao = some ⟨b, off, none⟩ ∧ ∀ i t, ts[i]? = some t → trmAt w b (off + i * 4) t)

structure Atm where
  p : ByteArray
  ao : Option Addr
  len : Nat
  cap : Nat
  off : Int
  ts : List Trm
def Atm.at (a : Atm) (w : World) : Prop := a.p.size ≤ 140737488351232 ∧ I64 a.off ∧ IsTrms w a.ao a.len a.ts
def Atm.val (a : Atm) : Value := .agg #[.string a.p, .slice a.ao a.len a.cap, .int .i64 a.off]

structure Ltr where
  k : Int
  a : Atm
  op : Int
  l : Trm
  r : Trm
  off : Int
def Ltr.at (x : Ltr) (w : World) : Prop := I64 x.k ∧ x.a.at w ∧ I64 x.op ∧ x.l.ok ∧ x.r.ok ∧ I64 x.off
def Ltr.val (x : Ltr) : Value := .agg #[.int .i64 x.k, .string x.a.p, .slice x.a.ao x.a.len x.a.cap, .int .i64 x.a.off, .int .i64 x.op, .int .i64 x.l.k, .int .i64 x.l.n, .string x.l.s, .int .i64 x.l.off, .int .i64 x.r.k, .int .i64 x.r.n, .string x.r.s, .int .i64 x.r.off, .int .i64 x.off]
def ltrAt (w : World) (b off : Nat) (x : Ltr) : Prop :=
  w.cell? ⟨b, off, none⟩ = some (.int .i64 x.k) ∧ w.cell? ⟨b, off + 1, none⟩ = some (.string x.a.p) ∧ w.cell? ⟨b, off + 2, none⟩ = some (.slice x.a.ao x.a.len x.a.cap) ∧ w.cell? ⟨b, off + 3, none⟩ = some (.int .i64 x.a.off) ∧ w.cell? ⟨b, off + 4, none⟩ = some (.int .i64 x.op) ∧ trmAt w b (off + 5) x.l ∧ trmAt w b (off + 9) x.r ∧ w.cell? ⟨b, off + 13, none⟩ = some (.int .i64 x.off)
def IsLtrs (w : World) (ao : Option Addr) (len : Nat) (xs : List Ltr) : Prop :=
  xs.length = len ∧ len * 144 ≤ 140737488351232 ∧ (∀ x ∈ xs, x.at w) ∧ (0 < len → ∃ b off, ao = some ⟨b, off, none⟩ ∧ ∀ i x, xs[i]? = some x → ltrAt w b (off + i * 14) x)

structure Cls where
  h : Atm
  ao : Option Addr
  len : Nat
  cap : Nat
  ls : List Ltr
def Cls.at (c : Cls) (w : World) : Prop := c.h.at w ∧ IsLtrs w c.ao c.len c.ls
def Cls.val (c : Cls) : Value := .agg #[.string c.h.p, .slice c.h.ao c.h.len c.h.cap, .int .i64 c.h.off, .slice c.ao c.len c.cap]
def clsAt (w : World) (b off : Nat) (c : Cls) : Prop :=
  w.cell? ⟨b, off, none⟩ = some (.string c.h.p) ∧ w.cell? ⟨b, off + 1, none⟩ = some (.slice c.h.ao c.h.len c.h.cap) ∧ w.cell? ⟨b, off + 2, none⟩ = some (.int .i64 c.h.off) ∧ w.cell? ⟨b, off + 3, none⟩ = some (.slice c.ao c.len c.cap)
def IsClss (w : World) (ao : Option Addr) (len : Nat) (cs : List Cls) : Prop :=
  cs.length = len ∧ len * 64 ≤ 140737488351232 ∧ (∀ c ∈ cs, c.at w) ∧ (0 < len → ∃ b off, ao = some ⟨b, off, none⟩ ∧ ∀ i c, cs[i]? = some c → clsAt w b (off + i * 4) c)

theorem trmAt.kept {w w' : World} {b off : Nat} {t : Trm} (h : trmAt w b off t) (hb : Below w.heap.size w w') : trmAt w' b off t :=
  ⟨kept_cell hb h.1, kept_cell hb h.2.1, kept_cell hb h.2.2.1, kept_cell hb h.2.2.2⟩
theorem IsTrms.kept {w w' : World} {ao : Option Addr} {len : Nat} {ts : List Trm} (h : IsTrms w ao len ts) (hb : Below w.heap.size w w') : IsTrms w' ao len ts :=
  ⟨h.1, h.2.1, h.2.2.1, fun hl => by obtain ⟨b, off, e, hr⟩ := h.2.2.2 hl; exact ⟨b, off, e, fun i t ht => (hr i t ht).kept hb⟩⟩
theorem Atm.at.kept {w w' : World} {a : Atm} (h : a.at w) (hb : Below w.heap.size w w') : a.at w' := ⟨h.1, h.2.1, h.2.2.kept hb⟩
theorem Ltr.at.kept {w w' : World} {x : Ltr} (h : x.at w) (hb : Below w.heap.size w w') : x.at w' := ⟨h.1, h.2.1.kept hb, h.2.2.1, h.2.2.2.1, h.2.2.2.2.1, h.2.2.2.2.2⟩
theorem ltrAt.kept {w w' : World} {b off : Nat} {x : Ltr} (h : ltrAt w b off x) (hb : Below w.heap.size w w') : ltrAt w' b off x :=
  ⟨kept_cell hb h.1, kept_cell hb h.2.1, kept_cell hb h.2.2.1, kept_cell hb h.2.2.2.1, kept_cell hb h.2.2.2.2.1, h.2.2.2.2.2.1.kept hb, h.2.2.2.2.2.2.1.kept hb, kept_cell hb h.2.2.2.2.2.2.2⟩
theorem IsLtrs.kept {w w' : World} {ao : Option Addr} {len : Nat} {xs : List Ltr} (h : IsLtrs w ao len xs) (hb : Below w.heap.size w w') : IsLtrs w' ao len xs :=
  ⟨h.1, h.2.1, fun x hx => (h.2.2.1 x hx).kept hb, fun hl => by obtain ⟨b, off, e, hr⟩ := h.2.2.2 hl; exact ⟨b, off, e, fun i t ht => (hr i t ht).kept hb⟩⟩
theorem Cls.at.kept {w w' : World} {c : Cls} (h : c.at w) (hb : Below w.heap.size w w') : c.at w' := ⟨h.1.kept hb, h.2.kept hb⟩
theorem clsAt.kept {w w' : World} {b off : Nat} {c : Cls} (h : clsAt w b off c) (hb : Below w.heap.size w w') : clsAt w' b off c :=
  ⟨kept_cell hb h.1, kept_cell hb h.2.1, kept_cell hb h.2.2.1, kept_cell hb h.2.2.2⟩
theorem IsClss.kept {w w' : World} {ao : Option Addr} {len : Nat} {cs : List Cls} (h : IsClss w ao len cs) (hb : Below w.heap.size w w') : IsClss w' ao len cs :=
  ⟨h.1, h.2.1, fun x hx => (h.2.2.1 x hx).kept hb, fun hl => by obtain ⟨b, off, e, hr⟩ := h.2.2.2 hl; exact ⟨b, off, e, fun i t ht => (hr i t ht).kept hb⟩⟩
end Go.Proofs.YtchhophblejmeaaGreatDoor

namespace Go.Proofs.YtchhophblejmeaaGreatDoor
set_option linter.unusedSimpArgs false
set_option linter.unusedVariables false
open Go.RowKit

structure PAtom where
  p : ByteArray
  ts : List Trm
  off : Int
structure PLit where
  k : Int
  a : PAtom
  op : Int
  l : Trm
  r : Trm
  off : Int
structure PCls where
  h : PAtom
  b : List PLit

/-- The answer of a rule: a fault, or a thing and the tokens that are left. -/
inductive PR (α : Type) where
  | bad (code off : Int)
  | ok (x : α) (rest : List Tok)

def misK (k : Int) : Int := if k = 0 then 21 else 20
/-- take: e is why no token follows. -/
def takeP (ec eo : Int) (ks : List Int) : List Tok → PR Tok
  | [] => .bad ec eo
  | t :: r => if t.k ∈ ks then .ok t r else .bad (misK t.k) t.off
def kindT (k : Int) : Int := if k = 3 then 1 else if k = 1 then 2 else if k = 4 then 3 else 4
def termP (t : Tok) : Trm := ⟨kindT t.k, t.n, t.t, t.off⟩
def zeroTrm : Trm := ⟨0, 0, ⟨#[]⟩, 0⟩
def zeroAtom : PAtom := ⟨⟨#[]⟩, [], 0⟩

/-- The terms of an atom behind its bracket: those so far, then what follows; ks: the kinds that a term may have. -/
def argsP (ec eo : Int) (ks : List Int) (acc : List Trm) : List Tok → PR (List Trm)
  | [] => .bad ec eo
  | t :: r =>
    if t.k ∈ ks then
      if acc.length = 8 then .bad 22 t.off
      else match r with
        | [] => .bad ec eo
        | s :: r' => if s.k = 7 then argsP ec eo ks (acc ++ [termP t]) r' else if s.k = 6 then .ok (acc ++ [termP t]) r' else .bad (misK s.k) s.off
    else .bad (misK t.k) t.off

def atomP (ec eo : Int) (ks : List Int) (name : Tok) : List Tok → PR PAtom
  | [] => .bad ec eo
  | t :: r => if t.k = 5 then (match argsP ec eo ks [] r with | .bad c o => .bad c o | .ok ts r' => .ok ⟨name.t, ts, name.off⟩ r') else .ok ⟨name.t, [], name.off⟩ (t :: r)

def termKs : List Int := [2, 3, 1, 4]
def valueKs : List Int := [3, 1, 4]

def litP (ec eo : Int) (first : Tok) (r : List Tok) : PR PLit :=
  if first.k = 10 then
    match takeP ec eo [1] r with
    | .bad c o => .bad c o
    | .ok n r' => match atomP ec eo termKs n r' with
      | .bad c o => .bad c o
      | .ok a r'' => .ok ⟨2, a, 0, zeroTrm, zeroTrm, first.off⟩ r''
  else
    let test := match takeP ec eo [11] r with
      | .bad c o => PR.bad c o
      | .ok o1 r' => match takeP ec eo termKs r' with
        | .bad c o => .bad c o
        | .ok t2 r'' => .ok ⟨3, zeroAtom, o1.op, termP first, termP t2, first.off⟩ r''
    if first.k = 1 then
      match r with
      | [] => .bad ec eo
      | t :: _ => if t.k = 11 then test else
        match atomP ec eo termKs first r with
        | .bad c o => .bad c o
        | .ok a r' => .ok ⟨1, a, 0, zeroTrm, zeroTrm, first.off⟩ r'
    else test

def bodyF (ec eo : Int) : Nat → List PLit → List Tok → PR (List PLit)
  | 0, _, _ => .bad ec eo
  | n + 1, acc, R => match takeP ec eo [1, 10, 2, 3, 4] R with
    | .bad c o => .bad c o
    | .ok t r => if acc.length = 16 then .bad 23 t.off else match litP ec eo t r with
      | .bad c o => .bad c o
      | .ok x r' => match takeP ec eo [7, 8] r' with
        | .bad c o => .bad c o
        | .ok s r'' => if s.k = 8 then .ok (acc ++ [x]) r'' else bodyF ec eo n (acc ++ [x]) r''
def bodyP (ec eo : Int) (R : List Tok) : PR (List PLit) := bodyF ec eo (R.length + 1) [] R

def clauseP (ec eo : Int) (name : Tok) (R : List Tok) : PR PCls :=
  match atomP ec eo termKs name R with
  | .bad c o => .bad c o
  | .ok a r => match takeP ec eo [8, 9] r with
    | .bad c o => .bad c o
    | .ok s r' => if s.k = 9 then (match bodyP ec eo r' with | .bad c o => .bad c o | .ok b r'' => .ok ⟨a, b⟩ r'') else .ok ⟨a, []⟩ r'

def progF (ec eo : Int) : Nat → List PCls → List Tok → PR (List PCls)
  | 0, _, _ => .bad ec eo
  | n + 1, acc, R => match takeP ec eo [1, 0] R with
    | .bad c o => .bad c o
    | .ok t r => if t.k = 0 then .ok acc r else if acc.length = 512 then .bad 24 t.off else match clauseP ec eo t r with
      | .bad c o => .bad c o
      | .ok x r' => progF ec eo n (acc ++ [x]) r'
def progP (ec eo : Int) (R : List Tok) : PR (List PCls) := progF ec eo (R.length + 1) [] R

def factsF (ec eo : Int) : Nat → List PAtom → List Tok → PR (List PAtom)
  | 0, _, _ => .bad ec eo
  | n + 1, acc, R => match takeP ec eo [1, 0] R with
    | .bad c o => .bad c o
    | .ok t r => if t.k = 0 then .ok acc r else if acc.length = 4096 then .bad 24 t.off else match atomP ec eo valueKs t r with
      | .bad c o => .bad c o
      | .ok x r' => match takeP ec eo [8] r' with
        | .bad c o => .bad c o
        | .ok _ r'' => factsF ec eo n (acc ++ [x]) r''
def factsP (ec eo : Int) (R : List Tok) : PR (List PAtom) := factsF ec eo (R.length + 1) [] R

def queryP (ec eo : Int) (R : List Tok) : PR (List PLit) :=
  match bodyP ec eo R with
  | .bad c o => .bad c o
  | .ok b r => match takeP ec eo [0] r with
    | .bad c o => .bad c o
    | .ok _ r' => .ok b r'
def factP (ec eo : Int) (R : List Tok) : PR PAtom :=
  match takeP ec eo [1] R with
  | .bad c o => .bad c o
  | .ok t r => match atomP ec eo valueKs t r with
    | .bad c o => .bad c o
    | .ok a r' => match takeP ec eo [0] r' with
      | .bad c o => .bad c o
      | .ok _ r'' => .ok a r''
end Go.Proofs.YtchhophblejmeaaGreatDoor

namespace Go.Proofs.YtchhophblejmeaaGreatDoor
set_option linter.unusedSimpArgs false
set_option linter.unusedVariables false
open Go.RowKit
attribute [local go_sem] over_cellAt over_frozenAt over_setAt

/-- A token whose parts are as small as they are in a text. -/
def Tok.good (t : Tok) : Prop := t.t.size ≤ 65536 ∧ I64 t.k ∧ I64 t.n ∧ I64 t.op ∧ t.off ≤ 65536

/-- The reader at block p: its tokens, why none follows them, where it stands. -/
structure Rdr (w : World) (p : Nat) (ao : Option Addr) (cap : Nat) (L : List Tok) (c f : Int) (i : Nat) : Prop where
  blk : w.heap[p]? = some (.cells #[.slice ao L.length cap, .int .i64 c, .int .i64 0, .int .i64 f, .int .i64 (i : Int)] 113 (0, 0))
  toks : 0 < L.length → ∃ g, ao = some ⟨g, 0, none⟩ ∧ g ≠ p ∧ ∀ j t, L[j]? = some t → TokAt w g (j * 6) t
  le : i ≤ L.length
  small : L.length ≤ 65538
  good : ∀ t ∈ L, t.good

theorem Rdr.lt {w : World} {p : Nat} {ao : Option Addr} {cap : Nat} {L : List Tok} {c f : Int} {i : Nat} (h : Rdr w p ao cap L c f i) : p < w.heap.size := (Array.getElem?_eq_some_iff.1 h.blk).1
theorem Rdr.kept {w w' : World} {p : Nat} {ao : Option Addr} {cap : Nat} {L : List Tok} {c f : Int} {i : Nat} (h : Rdr w p ao cap L c f i) (hb : Below w.heap.size w w') : Rdr w' p ao cap L c f i :=
  ⟨by rw [hb.block _ h.lt]; exact h.blk, fun h0 => by obtain ⟨g, e, hg, hr⟩ := h.toks h0; exact ⟨g, e, hg, fun j t ht => (hr j t ht).kept hb⟩, h.le, h.small, h.good⟩
theorem Rdr.cells {w : World} {p : Nat} {ao : Option Addr} {cap : Nat} {L : List Tok} {c f : Int} {i : Nat} (h : Rdr w p ao cap L c f i) :
    w.cell? ⟨p, 0, none⟩ = some (.slice ao L.length cap) ∧ w.cell? ⟨p, 1, none⟩ = some (.int .i64 c) ∧ w.cell? ⟨p, 2, none⟩ = some (.int .i64 0) ∧ w.cell? ⟨p, 3, none⟩ = some (.int .i64 f) ∧ w.cell? ⟨p, 4, none⟩ = some (.int .i64 (i : Int)) ∧ w.frozen? ⟨p, 4, none⟩ = false := by
  refine ⟨?_, ?_, ?_, ?_, ?_, ?_⟩ <;> simp [World.cell?, World.frozen?, h.blk]

abbrev faultP (c o : Int) : Value := .iface 31 (.agg #[.int .i64 c, .int .i64 0, .int .i64 o])
abbrev PEnd (c o : Int) : Ending := .panicked [{ v := faultP c o, recovered := false }]

theorem giveUp_any (c o : Int) (w : World) : Calls Tryz.prog 71 #[.int .i64 c, .int .i64 o] w fun e w' => e = PEnd c o ∧ w' = w := by
  go_enter Tryz.func71, Tryz.ntmps71
  go_wp2
  exact ⟨rfl, rfl, rfl⟩
  
theorem limit_ok (n m c o : Int) (w : World) (h : n ≠ m) : Calls Tryz.prog 53 #[.int .i64 n, .int .i64 m, .int .i64 c, .int .i64 o] w fun e w' => (∃ v, e = .returned v) ∧ w' = w := by
  have he : (n == m) = false := by simpa using h
  go_enter Tryz.func53, Tryz.ntmps53
  go_wp2
  exact bodyPost_end (v := .tuple #[]) (by simp [results, Tryz.results53, go_sem]) rfl ⟨⟨_, rfl⟩, rfl⟩
theorem limit_bad (n c o : Int) (w : World) : Calls Tryz.prog 53 #[.int .i64 n, .int .i64 n, .int .i64 c, .int .i64 o] w fun e w' => e = PEnd c o ∧ w' = w := by
  have HG := hide (giveUp_any c o)
  go_enter Tryz.func53, Tryz.ntmps53
  go_wp2_with (go_at_call 71; refine (HG.out _).mono ?_; rintro e w' ⟨rfl, hw'⟩; have hw' := hw'.symm; subst hw')
  exact ⟨rfl, rfl, rfl⟩

theorem misplaced_any (k : Int) (w : World) : Calls Tryz.prog 72 #[.int .i64 k] w fun e w' => e = .returned (.int .i64 (misK k)) ∧ w' = w := by
  by_cases h : k = 0
  · subst h
    rw [show misK 0 = 21 from rfl]
    go_enter Tryz.func72, Tryz.ntmps72
    go_wp2
    go_ret
    exact ⟨rfl, rfl⟩
  · have he : (k == 0) = false := by simpa using h
    rw [show misK k = 20 from by unfold misK; rw [if_neg h]]
    clear h
    go_enter Tryz.func72, Tryz.ntmps72
    go_wp2
    go_ret
    exact ⟨rfl, rfl⟩

theorem termKind_any (k : Int) (w : World) : Calls Tryz.prog 98 #[.int .i64 k] w fun e w' => e = .returned (.int .i64 (kindT k)) ∧ w' = w := by
  by_cases h3 : k = 3
  · subst h3
    rw [show kindT 3 = 1 from rfl]
    go_enter Tryz.func98, Tryz.ntmps98
    go_wp2
    go_ret
    exact ⟨rfl, rfl⟩
  · have e3 : (k == 3) = false := by simpa using h3
    by_cases h1 : k = 1
    · subst h1
      rw [show kindT 1 = 2 from rfl]
      go_enter Tryz.func98, Tryz.ntmps98
      go_wp2
      go_ret
      exact ⟨rfl, rfl⟩
    · have e1 : (k == 1) = false := by simpa using h1
      by_cases h4 : k = 4
      · subst h4
        rw [show kindT 4 = 3 from rfl]
        go_enter Tryz.func98, Tryz.ntmps98
        go_wp2
        go_ret
        exact ⟨rfl, rfl⟩
      · have e4 : (k == 4) = false := by simpa using h4
        rw [show kindT k = 4 from by unfold kindT; rw [if_neg h3, if_neg h1, if_neg h4]]
        clear h1 h3 h4
        go_enter Tryz.func98, Tryz.ntmps98
        go_wp2
        go_ret
        exact ⟨rfl, rfl⟩

def tokV (t : Tok) : Value := .agg #[.int .i64 t.k, .string t.t, .int .i64 t.n, .int .i64 t.op, .int .i64 (t.off : Int), .int .i64 (t.en : Int)]

set_option maxHeartbeats 1000000 in
theorem look_ok {p : Nat} {ao : Option Addr} {cap : Nat} {L : List Tok} {c f : Int} {i : Nat} {w : World} {t : Tok} (h : Rdr w p ao cap L c f i) (ht : L[i]? = some t) :
    Calls Tryz.prog 69 #[.pointer (some ⟨p, 0, none⟩)] w fun e w' => e = .returned (tokV t) ∧ Below w.heap.size w w' := by
  have hi := (List.getElem?_eq_some_iff.1 ht).1
  obtain ⟨c0, c1, c2, c3, c4, -⟩ := h.cells
  obtain ⟨g, rfl, hgp, hr⟩ := h.toks (by omega)
  obtain ⟨x0, x1, x2, x3, x4, x5⟩ := hr i t ht
  have hsm := h.small
  have hp := h.lt
  have hg : g < w.heap.size := lt_of_cell x0
  have hne : ((i : Int) == (L.length : Int)) = false := by simp; omega
  have hlt : (i : Int) < (L.length : Int) := by omega
  clear h hr
  unfold tokV
  go_enter Tryz.func69, Tryz.ntmps69
  go_wp2
  go_region
  go_wp2
  go_region
  go_wp2
  exact bodyPost_ret (v := .agg #[.int .i64 t.k, .string t.t, .int .i64 t.n, .int .i64 t.op, .int .i64 (t.off : Int), .int .i64 (t.en : Int)]) (by simp [results, Tryz.results69, go_sem]) rfl ⟨rfl, (((Below.refl _ _).alloc (Nat.le_refl _) _).drew).drew⟩

set_option maxHeartbeats 1000000 in
theorem look_end {p : Nat} {ao : Option Addr} {cap : Nat} {L : List Tok} {c f : Int} {i : Nat} {w : World} (h : Rdr w p ao cap L c f i) (ht : i = L.length) :
    Calls Tryz.prog 69 #[.pointer (some ⟨p, 0, none⟩)] w fun e w' => e = PEnd c f ∧ Below w.heap.size w w' := by
  obtain ⟨c0, c1, c2, c3, c4, -⟩ := h.cells
  have hsm := h.small
  have hp := h.lt
  subst ht
  clear h
  go_enter Tryz.func69, Tryz.ntmps69
  go_wp2
  go_region
  go_wp2
  exact ⟨rfl, rfl, ((Below.refl _ _).alloc (Nat.le_refl _) _).drew⟩
end Go.Proofs.YtchhophblejmeaaGreatDoor

namespace Go.Proofs.YtchhophblejmeaaGreatDoor
set_option linter.unusedSimpArgs false
set_option linter.unusedVariables false
open Go.RowKit
attribute [local go_sem] over_cellAt over_frozenAt over_setAt

def KsAt (w : World) (g : Nat) (ks : List Int) : Prop := ∀ j k, ks[j]? = some k → w.cell? ⟨g, j, none⟩ = some (.int .i64 k)
theorem KsAt.kept {w w' : World} {g : Nat} {ks : List Int} (h : KsAt w g ks) (hb : Below w.heap.size w w') : KsAt w' g ks := fun j k hj => kept_cell hb (h j k hj)
theorem ks_new (w : World) (ks : List Int) : KsAt (w.alloc (.cells (ks.map (Value.int .i64)).toArray 3)) w.heap.size ks := fun j k hj => by
  have h := heap_alloc_new w (.cells (ks.map (Value.int .i64)).toArray 3)
  simp only [World.cell?, h]
  simp [hj]

theorem index_any (g : Nat) (ks : List Int) (v : Int) (w : World) (h : KsAt w g ks) (hk : ks.length ≤ 100) :
    Calls Tryz.prog 83 #[.slice (some ⟨g, 0, none⟩) ks.length ks.length, .int .i64 v] w fun e w' => ∃ r : Int, e = .returned (.int .i64 r) ∧ (decide (0 ≤ r) = decide (v ∈ ks)) ∧ w' = w := by
  have H := hide h
  clear h
  obtain ⟨n, hn⟩ : ∃ n, n = ks.length := ⟨_, rfl⟩
  rw [← hn] at hk ⊢
  have HN := hide hn
  clear hn
  go_enter Tryz.func83, Tryz.ntmps83
  go_wp2
  go_loop [5, 8] (fun _ i => ∃ k : Nat, k ≤ n ∧ i = .int .i64 k ∧ Hid (v ∉ ks.take k)) (fun _ i => n - (intOf i).toNat)
  case atStart => exact ⟨0, Nat.zero_le _, rfl, by show v ∉ _; simp⟩
  case round =>
    obtain ⟨k, hkn, rfl, HA⟩ := hrel
    by_cases hlt : k < n
    · have hi : (k : Int) < (n : Int) := by omega
      obtain ⟨x, hx⟩ : ∃ x, ks[k]? = some x := ⟨_, List.getElem?_eq_getElem (by rw [← HN.out]; exact hlt)⟩
      have c0 := H.out k x hx
      by_cases he : v = x
      · subst he
        have HM : Hid (v ∈ ks) := List.mem_of_getElem? hx
        clear hx
        go_wp2
        go_ret
        exact ⟨(k : Int), rfl, by simp [HM.out], rfl⟩
      · have hq : (v == x) = false := by simpa using he
        have HA2 : Hid (v ∉ ks.take (k + 1)) := by
          show v ∉ _
          rw [List.take_add_one, hx, Option.toList_some, List.mem_append, List.mem_singleton]
          exact fun h => h.elim HA.out he
        clear he hx
        go_wp2
        go_round
        case rel => exact ⟨k + 1, by omega, by go_num, HA2⟩
        case measure => simp [intOf]; omega
    · have hi : ¬ (k : Int) < (n : Int) := by omega
      have HM : Hid (v ∉ ks) := by
        have := HA.out
        rw [List.take_of_length_le (by rw [← HN.out]; omega)] at this
        exact this
      go_wp2
      go_ret
      exact ⟨-1, rfl, by simp [HM.out], rfl⟩

theorem ret_bool2 {a b : Bool} (h : a = b) : Ending.returned (.bool a) = .returned (.bool b) := by rw [h]
theorem contains_any (g : Nat) (ks : List Int) (v : Int) (w : World) (h : KsAt w g ks) (hk : ks.length ≤ 100) :
    Calls Tryz.prog 70 #[.slice (some ⟨g, 0, none⟩) ks.length ks.length, .int .i64 v] w fun e w' => e = .returned (.bool (decide (v ∈ ks))) ∧ w' = w := by
  have H := hide (index_any g ks v w h hk)
  clear h
  go_enter Tryz.func70, Tryz.ntmps70
  go_wp2_with (go_at_call 83; refine H.out.mono ?_; rintro e w' ⟨r, rfl, hr, hw'⟩; have hw' := hw'.symm; subst hw'; have HR := hide hr; clear hr)
  go_ret
  exact ⟨ret_bool2 HR.out, rfl⟩

/-- Behind a call that panics nothing of a drawn region is left: a walk through an empty region stands in its place. -/
theorem panic_ends {P : Program} {w : World} {p : Prop} (hp : p) (_ : wpAny P .any #[] (fun _ _ _ => True) 0 #[] { tmps := #[], defers := [] } w) : p := hp
theorem belowt2 {w w' w'' : World} (h : Below w.heap.size w w') (h2 : Below w'.heap.size w' w'') : Below w.heap.size w w'' := h.trans (h2.mono h.size)
theorem belowA (w : World) (x : Obj) : Below w.heap.size w (w.alloc x) := (Below.refl _ _).alloc (Nat.le_refl _) _

set_option maxHeartbeats 1000000 in
theorem take_end {p : Nat} {ao : Option Addr} {cap : Nat} {L : List Tok} {c f : Int} {i : Nat} {w : World} (g : Nat) (ks : List Int) (h : Rdr w p ao cap L c f i) (ht : i = L.length) :
    Calls Tryz.prog 51 #[.pointer (some ⟨p, 0, none⟩), .slice (some ⟨g, 0, none⟩) ks.length ks.length] w fun e w' => e = PEnd c f ∧ Below w.heap.size w w' := by
  have HL := hide (fun w1 (hb : Below w.heap.size w w1) => look_end (h.kept hb) ht)
  clear h ht
  go_enter Tryz.func51, Tryz.ntmps51
  go_wp2_with (go_at_call 69; refine (HL.out _ (belowA _ _)).mono ?_; rintro e w' ⟨rfl, hb⟩)
  exact ⟨rfl, rfl, belowt2 (belowA _ _) hb⟩

set_option maxHeartbeats 1000000 in
theorem take_bad {p : Nat} {ao : Option Addr} {cap : Nat} {L : List Tok} {c f : Int} {i : Nat} {w : World} {t : Tok} (g : Nat) (ks : List Int) (h : Rdr w p ao cap L c f i) (ht : L[i]? = some t) (hk : KsAt w g ks) (hkl : ks.length ≤ 100) (hn : t.k ∉ ks) :
    Calls Tryz.prog 51 #[.pointer (some ⟨p, 0, none⟩), .slice (some ⟨g, 0, none⟩) ks.length ks.length] w fun e w' => e = PEnd (misK t.k) (t.off : Int) ∧ Below w.heap.size w w' := by
  have HL := hide (fun w1 (hb : Below w.heap.size w w1) => look_ok (h.kept hb) ht)
  have HC : Hid (∀ w1, Below w.heap.size w w1 → Calls Tryz.prog 70 #[.slice (some ⟨g, 0, none⟩) ks.length ks.length, .int .i64 t.k] w1 fun e w' => e = .returned (.bool false) ∧ w' = w1) := fun w1 hb => by
    have := contains_any g ks t.k w1 (hk.kept hb) hkl
    rw [decide_eq_false hn] at this
    exact this
  have HM := hide (misplaced_any t.k)
  have HG := hide (giveUp_any (misK t.k) (t.off : Int))
  unfold tokV at HL
  clear h ht hk hkl hn
  generalize ks.length = n at *
  go_enter Tryz.func51, Tryz.ntmps51
  go_wp2_with (first
    | (go_at_call 69; refine (HL.out _ (belowA _ _)).mono ?_; rintro e w2 ⟨rfl, hb⟩; have HB := hide (belowt2 (belowA _ _) hb); clear hb)
    | (go_at_call 70; refine (HC.out _ (belowt2 HB.out (belowA _ _))).mono ?_; rintro e w' ⟨rfl, hw'⟩; have hw' := hw'.symm; subst hw'))
  clear HL HC
  have HX := hide (belowt2 HB.out (belowA w2 (.cells #[.int .i64 t.k, .string t.t, .int .i64 t.n, .int .i64 t.op, .int .i64 (t.off : Int), .int .i64 (t.en : Int)] 116)))
  go_region_with (first
    | (go_at_call 72; refine (HM.out _).mono ?_; rintro e w' ⟨rfl, hw'⟩; have hw' := hw'.symm; subst hw')
    | (go_at_call 71; refine (HG.out _).mono ?_; rintro e w' ⟨rfl, hw'⟩; have hw' := hw'.symm; subst hw'; refine panic_ends (P := Tryz.prog) (w := w2) ⟨rfl, rfl, by first | exact HX.out.drew | exact HX.out.drew.drew⟩ ?_))
  all_goals trivial

theorem Rdr.only {S : Nat → Prop} {w w' : World} {p : Nat} {ao : Option Addr} {cap : Nat} {L : List Tok} {c f : Int} {i : Nat} (h : Rdr w p ao cap L c f i) (ho : Only S w w') (hp : ¬ S p) (hg : ∀ g, ao = some ⟨g, 0, none⟩ → 0 < L.length → ¬ S g) : Rdr w' p ao cap L c f i :=
  ⟨by rw [ho.block _ h.lt hp]; exact h.blk, fun h0 => by
    obtain ⟨g, e, hgp, hr⟩ := h.toks h0
    have hs := hg g e h0
    exact ⟨g, e, hgp, fun j t ht => ⟨ho.cell (hr j t ht).c0 hs, ho.cell (hr j t ht).c1 hs, ho.cell (hr j t ht).c2 hs, ho.cell (hr j t ht).c3 hs, ho.cell (hr j t ht).c4 hs, ho.cell (hr j t ht).c5 hs⟩⟩, h.le, h.small, h.good⟩

theorem Rdr.next {w : World} {p : Nat} {ao : Option Addr} {cap : Nat} {L : List Tok} {c f : Int} {i : Nat} (h : Rdr w p ao cap L c f i) (hi : i < L.length) : Rdr (w.setCell ⟨p, 4, none⟩ (.int .i64 ((i : Int) + 1))) p ao cap L c f (i + 1) := by
  have ho : Only (fun b => b = p) w (w.setCell ⟨p, 4, none⟩ (.int .i64 ((i : Int) + 1))) := (Only.refl (fun b => b = p) w).setCell (p := ⟨p, 4, none⟩) rfl _
  refine ⟨?_, fun h0 => ?_, hi, h.small, h.good⟩
  · have hb := h.blk
    simp [World.setCell, Array.getElem?_modify, hb]
  · obtain ⟨g, e, hgp, hr⟩ := h.toks h0
    exact ⟨g, e, hgp, fun j t ht => ⟨ho.cell (hr j t ht).c0 hgp, ho.cell (hr j t ht).c1 hgp, ho.cell (hr j t ht).c2 hgp, ho.cell (hr j t ht).c3 hgp, ho.cell (hr j t ht).c4 hgp, ho.cell (hr j t ht).c5 hgp⟩⟩

theorem box_put {V : World} {b : Nat} {a0 a1 a2 a3 a4 a5 : Value} (h : V.heap[b]? = some (.cells #[a0, a1, a2, a3, a4, a5] 116 (0, 0))) (u0 u1 u2 u3 u4 u5 : Value) :
    ((((((V.setCell ⟨b, 0, none⟩ u0).setCell ⟨b, 1, none⟩ u1).setCell ⟨b, 2, none⟩ u2).setCell ⟨b, 3, none⟩ u3).setCell ⟨b, 4, none⟩ u4).setCell ⟨b, 5, none⟩ u5).heap[b]? = some (.cells #[u0, u1, u2, u3, u4, u5] 116 (0, 0)) := by
  simp [World.setCell, Array.getElem?_modify, h]

theorem take_res (W : World) (b : Nat) (u0 u1 u2 u3 u4 u5 : Value) (tmps : Array Value) (ht : tmps[4]? = some (.pointer (some ⟨b, 0, none⟩))) (hb : W.heap[b]? = some (.cells #[u0, u1, u2, u3, u4, u5] 116 (0, 0))) :
    (results Tryz.f51 tmps).run Tryz.prog W = .ok (.agg #[u0, u1, u2, u3, u4, u5]) W := by
  have c : ∀ j v, (#[u0, u1, u2, u3, u4, u5] : Array Value)[j]? = some v → W.cell? ⟨b, j, none⟩ = some v := fun j v hv => by simp [World.cell?, hb, hv]
  have c0 := c 0 u0 rfl
  have c1 := c 1 u1 rfl
  have c2 := c 2 u2 rfl
  have c3 := c 3 u3 rfl
  have c4 := c 4 u4 rfl
  have c5 := c 5 u5 rfl
  simp [results, Tryz.results51, go_sem, ht, c0, c1, c2, c3, c4, c5]

theorem box_tok {w w2 : World} (hb : Below (w.alloc (.cells #[.int .i64 0, .string ⟨#[]⟩, .int .i64 0, .int .i64 0, .int .i64 0, .int .i64 0] 116)).heap.size (w.alloc (.cells #[.int .i64 0, .string ⟨#[]⟩, .int .i64 0, .int .i64 0, .int .i64 0, .int .i64 0] 116)) w2) :
    (w2.cell? ⟨w.heap.size, 0, none⟩ = some (.int .i64 0) ∧ w2.cell? ⟨w.heap.size, 1, none⟩ = some (.string ⟨#[]⟩) ∧ w2.cell? ⟨w.heap.size, 2, none⟩ = some (.int .i64 0) ∧ w2.cell? ⟨w.heap.size, 3, none⟩ = some (.int .i64 0) ∧ w2.cell? ⟨w.heap.size, 4, none⟩ = some (.int .i64 0) ∧ w2.cell? ⟨w.heap.size, 5, none⟩ = some (.int .i64 0)) ∧
    (∀ j, w2.frozen? ⟨w.heap.size, j, none⟩ = false) ∧ w.heap.size < w2.heap.size := by
  have hblk : w2.heap[w.heap.size]? = some (.cells #[.int .i64 0, .string ⟨#[]⟩, .int .i64 0, .int .i64 0, .int .i64 0, .int .i64 0] 116 (0, 0)) := by
    rw [hb.block _ (by simp)]; exact heap_alloc_new w _
  refine ⟨⟨?_, ?_, ?_, ?_, ?_, ?_⟩, fun j => ?_, (Array.getElem?_eq_some_iff.1 hblk).1⟩ <;> simp [World.cell?, World.frozen?, hblk]

set_option maxHeartbeats 2000000 in
theorem take_ok {p : Nat} {ao : Option Addr} {cap : Nat} {L : List Tok} {c f : Int} {i : Nat} {w : World} {t : Tok} (g : Nat) (ks : List Int) (h : Rdr w p ao cap L c f i) (ht : L[i]? = some t) (hk : KsAt w g ks) (hkl : ks.length ≤ 100) (hn : t.k ∈ ks) :
    Calls Tryz.prog 51 #[.pointer (some ⟨p, 0, none⟩), .slice (some ⟨g, 0, none⟩) ks.length ks.length] w fun e w' => e = .returned (tokV t) ∧ Rdr w' p ao cap L c f (i + 1) ∧ Only (fun b => b = p) w w' := by
  have HL := hide (fun w1 (hb : Below w.heap.size w w1) => look_ok (h.kept hb) ht)
  have HC : Hid (∀ w1, Below w.heap.size w w1 → Calls Tryz.prog 70 #[.slice (some ⟨g, 0, none⟩) ks.length ks.length, .int .i64 t.k] w1 fun e w' => e = .returned (.bool true) ∧ w' = w1) := fun w1 hb => by
    have := contains_any g ks t.k w1 (hk.kept hb) hkl
    rw [decide_eq_true hn] at this
    exact this
  have HR := hide h
  have hp := h.lt
  have hil := (List.getElem?_eq_some_iff.1 ht).1
  have hsm := h.small
  unfold tokV at *
  clear h ht hk hkl hn
  generalize ks.length = n at *
  go_enter Tryz.func51, Tryz.ntmps51
  go_wp2_with (first
    | (go_at_call 69; (refine (HL.out _ (belowA _ _)).mono ?_; rintro e w2 ⟨rfl, hb⟩; have HB0 := hide hb; have HB := hide (belowt2 (belowA _ _) hb); clear hb; obtain ⟨c0, c1, c2, c3, c4, z4⟩ := ((HR.out.kept HB.out).kept (belowA w2 (.cells #[.int .i64 t.k, .string t.t, .int .i64 t.n, .int .i64 t.op, .int .i64 (t.off : Int), .int .i64 (t.en : Int)] 116))).cells; obtain ⟨⟨k0, k1, k2, k3, k4, k5⟩, zf, hz2⟩ := box_tok HB0.out; have zf0 := zf 0; have zf1 := zf 1; have zf2 := zf 2; have zf3 := zf 3; have zf4 := zf 4; have zf5 := zf 5; have q1 : ¬ p = w2.heap.size := (by omega); have q2 : ¬ w2.heap.size = p := (by omega); have q3 : ¬ p = w.heap.size := (by omega); have q4 : ¬ w.heap.size = p := (by omega); have q5 : ¬ w.heap.size = w2.heap.size := (by omega); have q6 : ¬ w2.heap.size = w.heap.size := (by omega); clear zf))
    | (go_at_call 70; refine (HC.out _ (belowt2 HB.out (belowA _ _))).mono ?_; rintro e w' ⟨rfl, hw'⟩; have hw' := hw'.symm; subst hw'))
  have hg : ∀ g, ao = some ⟨g, 0, none⟩ → 0 < L.length → ¬ g = w.heap.size := fun g hg h0 => by
    obtain ⟨g', e, _, hr⟩ := HR.out.toks h0
    rw [hg] at e
    obtain rfl : g = g' := by simpa using e
    have := lt_of_cell (hr 0 L[0] (List.getElem?_eq_getElem h0)).c0
    simp only at this
    omega
  have HR2 := ((HR.out.kept HB.out).kept (belowA w2 (.cells #[.int .i64 t.k, .string t.t, .int .i64 t.n, .int .i64 t.op, .int .i64 (t.off : Int), .int .i64 (t.en : Int)] 116))).next hil
  have HR3 := HR2.only ((((((Only.refl (fun b => b = w.heap.size) _).setCell (p := ⟨w.heap.size, 0, none⟩) rfl (.int .i64 t.k)).setCell (p := ⟨w.heap.size, 1, none⟩) rfl (.string t.t)).setCell (p := ⟨w.heap.size, 2, none⟩) rfl (.int .i64 t.n)).setCell (p := ⟨w.heap.size, 3, none⟩) rfl (.int .i64 t.op)).setCell (p := ⟨w.heap.size, 4, none⟩) rfl (.int .i64 (t.off : Int)) |>.setCell (p := ⟨w.heap.size, 5, none⟩) rfl (.int .i64 (t.en : Int))) q3 hg
  have HO := (((((((((Only.of_below HB.out (fun b => b = p ∨ w.heap.size ≤ b)).alloc (.cells #[.int .i64 t.k, .string t.t, .int .i64 t.n, .int .i64 t.op, .int .i64 (t.off : Int), .int .i64 (t.en : Int)] 116)).setCell (p := ⟨p, 4, none⟩) (.inl rfl) (.int .i64 ((i : Int) + 1))).setCell (p := ⟨w.heap.size, 0, none⟩) (.inr (Nat.le_refl _)) (.int .i64 t.k)).setCell (p := ⟨w.heap.size, 1, none⟩) (.inr (Nat.le_refl _)) (.string t.t)).setCell (p := ⟨w.heap.size, 2, none⟩) (.inr (Nat.le_refl _)) (.int .i64 t.n)).setCell (p := ⟨w.heap.size, 3, none⟩) (.inr (Nat.le_refl _)) (.int .i64 t.op)).setCell (p := ⟨w.heap.size, 4, none⟩) (.inr (Nat.le_refl _)) (.int .i64 (t.off : Int))).setCell (p := ⟨w.heap.size, 5, none⟩) (.inr (Nat.le_refl _)) (.int .i64 (t.en : Int))).mono (S' := fun b => b = p) (fun k hk h => h.elim id (fun h => by omega))
  have hbk : ((w2.alloc (.cells #[.int .i64 t.k, .string t.t, .int .i64 t.n, .int .i64 t.op, .int .i64 (t.off : Int), .int .i64 (t.en : Int)] 116)).setCell ⟨p, 4, none⟩ (.int .i64 ((i : Int) + 1))).heap[w.heap.size]? = some (.cells #[.int .i64 0, .string ⟨#[]⟩, .int .i64 0, .int .i64 0, .int .i64 0, .int .i64 0] 116 (0, 0)) := by
    rw [((Only.refl (fun b => b = p) _).setCell (p := ⟨p, 4, none⟩) rfl _).block _ (by simp; omega) q4, (belowA w2 _).block _ hz2, HB0.out.block _ (by simp)]
    exact heap_alloc_new w _
  exact bodyPost_ret (take_res _ w.heap.size _ _ _ _ _ _ _ rfl (box_put hbk _ _ _ _ _ _)) rfl ⟨rfl, HR3, HO⟩
end Go.Proofs.YtchhophblejmeaaGreatDoor

namespace Go.Proofs.YtchhophblejmeaaGreatDoor
set_option linter.unusedSimpArgs false
set_option linter.unusedVariables false
open Go.RowKit
attribute [local go_sem] over_cellAt over_frozenAt over_setAt

/-- The reader stands ahead of the tokens R. -/
def Ahead (w : World) (p : Nat) (ao : Option Addr) (cap : Nat) (L : List Tok) (c f : Int) (R : List Tok) : Prop := ∃ i, Rdr w p ao cap L c f i ∧ L.drop i = R

theorem Ahead.kept {w w' : World} {p : Nat} {ao : Option Addr} {cap : Nat} {L : List Tok} {c f : Int} {R : List Tok} (h : Ahead w p ao cap L c f R) (hb : Below w.heap.size w w') : Ahead w' p ao cap L c f R := by
  obtain ⟨i, h1, h2⟩ := h
  exact ⟨i, h1.kept hb, h2⟩
theorem Ahead.lt {w : World} {p : Nat} {ao : Option Addr} {cap : Nat} {L : List Tok} {c f : Int} {R : List Tok} (h : Ahead w p ao cap L c f R) : p < w.heap.size := by
  obtain ⟨i, h1, _⟩ := h
  exact h1.lt

theorem Ahead.good {w : World} {p : Nat} {ao : Option Addr} {cap : Nat} {L : List Tok} {c f : Int} {R : List Tok} (h : Ahead w p ao cap L c f R) : ∀ t ∈ R, t.good := by
  obtain ⟨i, h1, h2⟩ := h
  exact fun t ht => h1.good t (List.mem_of_mem_drop (by rw [h2]; exact ht))

theorem drop_head {L : List Tok} {i : Nat} {t : Tok} {r : List Tok} (h : L.drop i = t :: r) : L[i]? = some t ∧ L.drop (i + 1) = r := by
  constructor
  · have := congrArg (fun l => l[0]?) h
    simpa using this
  · have := congrArg (List.drop 1) h
    simpa [List.drop_drop] using this

theorem look_good {w : World} {p : Nat} {ao : Option Addr} {cap : Nat} {L : List Tok} {c f : Int} {t : Tok} {r : List Tok} (h : Ahead w p ao cap L c f (t :: r)) :
    Calls Tryz.prog 69 #[.pointer (some ⟨p, 0, none⟩)] w fun e w' => e = .returned (tokV t) ∧ Below w.heap.size w w' := by
  obtain ⟨i, h1, h2⟩ := h
  exact look_ok h1 (drop_head h2).1
theorem look_none {w : World} {p : Nat} {ao : Option Addr} {cap : Nat} {L : List Tok} {c f : Int} (h : Ahead w p ao cap L c f []) :
    Calls Tryz.prog 69 #[.pointer (some ⟨p, 0, none⟩)] w fun e w' => e = PEnd c f ∧ Below w.heap.size w w' := by
  obtain ⟨i, h1, h2⟩ := h
  have := h1.le
  exact look_end h1 (by have := List.drop_eq_nil_iff.1 h2; omega)

theorem take_good {w : World} {p : Nat} {ao : Option Addr} {cap : Nat} {L : List Tok} {c f : Int} {R r : List Tok} {t : Tok} {ks : List Int} (g : Nat) (h : Ahead w p ao cap L c f R) (hk : KsAt w g ks) (hkl : ks.length ≤ 100) (hT : takeP c f ks R = .ok t r) :
    Calls Tryz.prog 51 #[.pointer (some ⟨p, 0, none⟩), .slice (some ⟨g, 0, none⟩) ks.length ks.length] w fun e w' => e = .returned (tokV t) ∧ Ahead w' p ao cap L c f r ∧ Only (fun b => b = p) w w' := by
  obtain ⟨i, h1, h2⟩ := h
  match R, h2, hT with
  | x :: r', h2, hT =>
    simp only [takeP] at hT
    by_cases hm : x.k ∈ ks
    · rw [if_pos hm] at hT
      injection hT with e1 e2
      subst e1 e2
      obtain ⟨d1, d2⟩ := drop_head h2
      exact (take_ok g ks h1 d1 hk hkl hm).mono fun e w' ⟨he, hr, ho⟩ => ⟨he, ⟨i + 1, hr, d2⟩, ho⟩
    · rw [if_neg hm] at hT; cases hT
theorem take_fail {w : World} {p : Nat} {ao : Option Addr} {cap : Nat} {L : List Tok} {c f ec eo : Int} {R : List Tok} {ks : List Int} (g : Nat) (h : Ahead w p ao cap L c f R) (hk : KsAt w g ks) (hkl : ks.length ≤ 100) (hT : takeP c f ks R = .bad ec eo) :
    Calls Tryz.prog 51 #[.pointer (some ⟨p, 0, none⟩), .slice (some ⟨g, 0, none⟩) ks.length ks.length] w fun e w' => e = PEnd ec eo ∧ Below w.heap.size w w' := by
  obtain ⟨i, h1, h2⟩ := h
  match R, h2, hT with
  | [], h2, hT =>
    simp only [takeP] at hT
    injection hT with e1 e2
    subst e1 e2
    have := h1.le
    exact take_end g ks h1 (by have := List.drop_eq_nil_iff.1 h2; omega)
  | x :: r', h2, hT =>
    simp only [takeP] at hT
    by_cases hm : x.k ∈ ks
    · rw [if_pos hm] at hT; cases hT
    · rw [if_neg hm] at hT
      injection hT with e1 e2
      subst e1 e2
      exact take_bad g ks h1 (drop_head h2).1 hk hkl hm

set_option maxHeartbeats 1000000 in
theorem termOf_any (t : Tok) (w : World) :
    Calls Tryz.prog 82 #[tokV t] w fun e w' => e = .returned (termP t).val ∧ Below w.heap.size w w' := by
  have HK := hide (termKind_any t.k)
  unfold tokV termP Trm.val
  go_enter Tryz.func82, Tryz.ntmps82
  go_wp2
  go_region_held3 (fun w' => w'.cell? ⟨w.heap.size, 0, none⟩ = some (.int .i64 t.k) ∧ w'.cell? ⟨w.heap.size, 1, none⟩ = some (.string t.t) ∧ w'.cell? ⟨w.heap.size, 2, none⟩ = some (.int .i64 t.n) ∧ w'.cell? ⟨w.heap.size, 4, none⟩ = some (.int .i64 (t.off : Int)))
    (go_keep)
    (first | (go_at_call 98; refine (HK.out _).mono ?_; rintro e w' ⟨rfl, hw'⟩; have hw' := hw'.symm; subst hw'))
  all_goals (try go_wp2)
  all_goals exact bodyPost_ret (v := .agg #[.int .i64 (kindT t.k), .int .i64 t.n, .string t.t, .int .i64 (t.off : Int)]) (by simp [results, Tryz.results82, go_sem]) rfl ⟨rfl, (((Below.refl _ _).alloc (Nat.le_refl _) _).alloc (by simp) _).drew⟩
end Go.Proofs.YtchhophblejmeaaGreatDoor

namespace Go.Proofs.YtchhophblejmeaaGreatDoor
set_option linter.unusedSimpArgs false
set_option linter.unusedVariables false
open Go.RowKit

theorem below3 {w w' : World} {x y : Obj} (h : Below ((w.alloc x).alloc y).heap.size ((w.alloc x).alloc y) w') : Below w.heap.size w w' := belowt2 (belowt2 (belowA w x) (belowA (w.alloc x) y)) h
theorem only2 {S : Nat → Prop} {w w' : World} {x y : Obj} (h : Only S ((w.alloc x).alloc y) w') : Only S w w' := ((Only.refl S w).alloc x |>.alloc y).trans h
theorem Ahead.box {w w' w'' : World} {p : Nat} {ao : Option Addr} {cap : Nat} {L : List Tok} {c f : Int} {R0 R : List Tok} (h0 : Ahead w p ao cap L c f R0) (h : Ahead w' p ao cap L c f R) (ho : Only (fun b => w.heap.size ≤ b) w' w'') : Ahead w'' p ao cap L c f R := by
  obtain ⟨i0, q0, _⟩ := h0
  obtain ⟨i, h1, h2⟩ := h
  refine ⟨i, h1.only ho (by have := q0.lt; omega) (fun g hg hl => ?_), h2⟩
  obtain ⟨g', e, _, hr⟩ := q0.toks hl
  rw [hg] at e
  obtain rfl : g = g' := by simpa using e
  have := lt_of_cell (hr 0 L[0] (List.getElem?_eq_getElem hl)).c0
  simp only at this
  omega

theorem box4_put {V : World} {b : Nat} {a0 a1 a2 a3 : Value} (h : V.heap[b]? = some (.cells #[a0, a1, a2, a3] 54 (0, 0))) (u0 u1 u2 u3 : Value) :
    ((((V.setCell ⟨b, 0, none⟩ u0).setCell ⟨b, 1, none⟩ u1).setCell ⟨b, 2, none⟩ u2).setCell ⟨b, 3, none⟩ u3).heap[b]? = some (.cells #[u0, u1, u2, u3] 54 (0, 0)) := by
  simp [World.setCell, Array.getElem?_modify, h]

theorem box4_cells {V : World} {b : Nat} {a0 a1 a2 a3 : Value} (h : V.heap[b]? = some (.cells #[a0, a1, a2, a3] 54 (0, 0))) : V.cell? ⟨b, 0, none⟩ = some a0 ∧ V.cell? ⟨b, 1, none⟩ = some a1 ∧ V.cell? ⟨b, 2, none⟩ = some a2 ∧ V.cell? ⟨b, 3, none⟩ = some a3 ∧ V.frozen? ⟨b, 0, none⟩ = false ∧ V.frozen? ⟨b, 1, none⟩ = false ∧ V.frozen? ⟨b, 2, none⟩ = false ∧ V.frozen? ⟨b, 3, none⟩ = false := by
  refine ⟨?_, ?_, ?_, ?_, ?_, ?_, ?_, ?_⟩ <;> simp [World.cell?, World.frozen?, h]

theorem box_after {w w2 w3 : World} {p : Nat} {k : Obj} (hp : p < w.heap.size) (ho : Only (fun b => b = p) ((w.alloc (.cells #[.int .i64 0, .int .i64 0, .string ⟨#[]⟩, .int .i64 0] 54)).alloc k) w2) (hb : Below w2.heap.size w2 w3) :
    w3.heap[w.heap.size]? = some (.cells #[.int .i64 0, .int .i64 0, .string ⟨#[]⟩, .int .i64 0] 54 (0, 0)) := by
  have h1 : w.heap.size < w2.heap.size := Nat.lt_of_lt_of_le (by simp; omega) ho.size
  rw [hb.block _ h1, ho.block _ (by simp; omega) (by omega), (belowA _ k).block _ (by simp)]
  exact heap_alloc_new w _

theorem term_res (W : World) (b : Nat) (u0 u1 u2 u3 : Value) (tmps : Array Value) (ht : tmps[2]? = some (.pointer (some ⟨b, 0, none⟩))) (hb : W.heap[b]? = some (.cells #[u0, u1, u2, u3] 54 (0, 0))) :
    (results Tryz.f84 tmps).run Tryz.prog W = .ok (.agg #[u0, u1, u2, u3]) W := by
  obtain ⟨c0, c1, c2, c3, -⟩ := box4_cells hb
  simp [results, Tryz.results84, go_sem, ht, c0, c1, c2, c3]

set_option maxHeartbeats 1000000 in
set_option maxRecDepth 100000 in
theorem term_fail {w : World} {p : Nat} {ao : Option Addr} {cap : Nat} {L : List Tok} {c f ec eo : Int} {R : List Tok} (h : Ahead w p ao cap L c f R) (hT : takeP c f termKs R = .bad ec eo) :
    Calls Tryz.prog 84 #[.pointer (some ⟨p, 0, none⟩)] w fun e w' => e = PEnd ec eo ∧ Below w.heap.size w w' := by
  have hZ : (w.alloc (.cells #[.int .i64 0, .int .i64 0, .string ⟨#[]⟩, .int .i64 0] 54)).heap.size = w.heap.size + 1 := by simp
  have HT : Hid (Calls Tryz.prog 51 #[.pointer (some ⟨p, 0, none⟩), .slice (some ⟨w.heap.size + 1, 0, none⟩) 4 4] ((w.alloc (.cells #[.int .i64 0, .int .i64 0, .string ⟨#[]⟩, .int .i64 0] 54)).alloc (.cells #[.int .i64 2, .int .i64 3, .int .i64 1, .int .i64 4] 3)) fun e w' => e = PEnd ec eo ∧ Below ((w.alloc (.cells #[.int .i64 0, .int .i64 0, .string ⟨#[]⟩, .int .i64 0] 54)).alloc (.cells #[.int .i64 2, .int .i64 3, .int .i64 1, .int .i64 4] 3)).heap.size ((w.alloc (.cells #[.int .i64 0, .int .i64 0, .string ⟨#[]⟩, .int .i64 0] 54)).alloc (.cells #[.int .i64 2, .int .i64 3, .int .i64 1, .int .i64 4] 3)) w') := by
    have hk := ks_new (w.alloc (.cells #[.int .i64 0, .int .i64 0, .string ⟨#[]⟩, .int .i64 0] 54)) [2, 3, 1, 4]
    rw [hZ] at hk
    exact take_fail (w := (w.alloc (.cells #[.int .i64 0, .int .i64 0, .string ⟨#[]⟩, .int .i64 0] 54)).alloc (.cells #[.int .i64 2, .int .i64 3, .int .i64 1, .int .i64 4] 3)) (w.heap.size + 1) (ks := [2, 3, 1, 4]) ((h.kept (belowA _ _)).kept (belowA _ _)) hk (by decide) hT
  clear h hT hZ
  go_enter Tryz.func84, Tryz.ntmps84
  go_wp2_with (go_at_call 51; refine HT.out.mono ?_; rintro e w2 ⟨rfl, hb⟩)
  exact ⟨rfl, rfl, below3 hb⟩

set_option maxHeartbeats 1000000 in
set_option maxRecDepth 100000 in
theorem term_good {w : World} {p : Nat} {ao : Option Addr} {cap : Nat} {L : List Tok} {c f : Int} {R r : List Tok} {t : Tok} (h : Ahead w p ao cap L c f R) (hT : takeP c f termKs R = .ok t r) :
    Calls Tryz.prog 84 #[.pointer (some ⟨p, 0, none⟩)] w fun e w' => e = .returned (termP t).val ∧ Ahead w' p ao cap L c f r ∧ Only (fun b => b = p) w w' := by
  have hZ : (w.alloc (.cells #[.int .i64 0, .int .i64 0, .string ⟨#[]⟩, .int .i64 0] 54)).heap.size = w.heap.size + 1 := by simp
  have HT : Hid (Calls Tryz.prog 51 #[.pointer (some ⟨p, 0, none⟩), .slice (some ⟨w.heap.size + 1, 0, none⟩) 4 4] ((w.alloc (.cells #[.int .i64 0, .int .i64 0, .string ⟨#[]⟩, .int .i64 0] 54)).alloc (.cells #[.int .i64 2, .int .i64 3, .int .i64 1, .int .i64 4] 3)) fun e w' => e = .returned (tokV t) ∧ Ahead w' p ao cap L c f r ∧ Only (fun b => b = p) ((w.alloc (.cells #[.int .i64 0, .int .i64 0, .string ⟨#[]⟩, .int .i64 0] 54)).alloc (.cells #[.int .i64 2, .int .i64 3, .int .i64 1, .int .i64 4] 3)) w') := by
    have hk := ks_new (w.alloc (.cells #[.int .i64 0, .int .i64 0, .string ⟨#[]⟩, .int .i64 0] 54)) [2, 3, 1, 4]
    rw [hZ] at hk
    exact take_good (w := (w.alloc (.cells #[.int .i64 0, .int .i64 0, .string ⟨#[]⟩, .int .i64 0] 54)).alloc (.cells #[.int .i64 2, .int .i64 3, .int .i64 1, .int .i64 4] 3)) (w.heap.size + 1) (ks := [2, 3, 1, 4]) ((h.kept (belowA _ _)).kept (belowA _ _)) hk (by decide) hT
  have HF := hide (termOf_any t)
  have H0 := hide h
  have hp := h.lt
  clear h hT hZ
  unfold tokV at HT HF
  unfold Trm.val at *
  go_enter Tryz.func84, Tryz.ntmps84
  go_wp2_with (first
    | (go_at_call 51; refine HT.out.mono ?_; rintro e w2 ⟨rfl, ha, ho⟩; have HA := hide ha; have HO := hide ho; clear ha ho)
    | (go_at_call 82; refine (HF.out _).mono ?_; rintro e w3 ⟨rfl, hb⟩; have HB := hide hb; clear hb; have hbk : w3.heap[w.heap.size]? = some (.cells #[.int .i64 0, .int .i64 0, .string ⟨#[]⟩, .int .i64 0] 54 (0, 0)) := (box_after H0.out.lt HO.out HB.out); obtain ⟨c0, c1, c2, c3, z0, z1, z2, z3⟩ := box4_cells hbk))
  have HO2 : Only (fun b => b = p ∨ w.heap.size ≤ b) w w3 := (only2 (HO.out.mono (fun k _ e => .inl e))).trans (Only.of_below HB.out _)
  have HE := ((((HO2.setCell (p := ⟨w.heap.size, 0, none⟩) (.inr (Nat.le_refl _)) (.int .i64 (termP t).k)).setCell (p := ⟨w.heap.size, 1, none⟩) (.inr (Nat.le_refl _)) (.int .i64 (termP t).n)).setCell (p := ⟨w.heap.size, 2, none⟩) (.inr (Nat.le_refl _)) (.string (termP t).s)).setCell (p := ⟨w.heap.size, 3, none⟩) (.inr (Nat.le_refl _)) (.int .i64 (termP t).off)).mono (S' := fun b => b = p) (fun k hk e => e.elim id (fun e => by omega))
  have HA2 := H0.out.box (HA.out.kept HB.out) (((((Only.refl (fun b => w.heap.size ≤ b) w3).setCell (p := ⟨w.heap.size, 0, none⟩) (Nat.le_refl _) (.int .i64 (termP t).k)).setCell (p := ⟨w.heap.size, 1, none⟩) (Nat.le_refl _) (.int .i64 (termP t).n)).setCell (p := ⟨w.heap.size, 2, none⟩) (Nat.le_refl _) (.string (termP t).s)).setCell (p := ⟨w.heap.size, 3, none⟩) (Nat.le_refl _) (.int .i64 (termP t).off))
  exact bodyPost_ret (term_res _ w.heap.size _ _ _ _ _ rfl (box4_put hbk _ _ _ _)) rfl ⟨rfl, HA2, HE⟩

theorem value_res (W : World) (b : Nat) (u0 u1 u2 u3 : Value) (tmps : Array Value) (ht : tmps[2]? = some (.pointer (some ⟨b, 0, none⟩))) (hb : W.heap[b]? = some (.cells #[u0, u1, u2, u3] 54 (0, 0))) :
    (results Tryz.f68 tmps).run Tryz.prog W = .ok (.agg #[u0, u1, u2, u3]) W := by
  obtain ⟨c0, c1, c2, c3, -⟩ := box4_cells hb
  simp [results, Tryz.results68, go_sem, ht, c0, c1, c2, c3]

set_option maxHeartbeats 1000000 in
set_option maxRecDepth 100000 in
theorem value_fail {w : World} {p : Nat} {ao : Option Addr} {cap : Nat} {L : List Tok} {c f ec eo : Int} {R : List Tok} (h : Ahead w p ao cap L c f R) (hT : takeP c f valueKs R = .bad ec eo) :
    Calls Tryz.prog 68 #[.pointer (some ⟨p, 0, none⟩)] w fun e w' => e = PEnd ec eo ∧ Below w.heap.size w w' := by
  have hZ : (w.alloc (.cells #[.int .i64 0, .int .i64 0, .string ⟨#[]⟩, .int .i64 0] 54)).heap.size = w.heap.size + 1 := by simp
  have HT : Hid (Calls Tryz.prog 51 #[.pointer (some ⟨p, 0, none⟩), .slice (some ⟨w.heap.size + 1, 0, none⟩) 3 3] ((w.alloc (.cells #[.int .i64 0, .int .i64 0, .string ⟨#[]⟩, .int .i64 0] 54)).alloc (.cells #[.int .i64 3, .int .i64 1, .int .i64 4] 3)) fun e w' => e = PEnd ec eo ∧ Below ((w.alloc (.cells #[.int .i64 0, .int .i64 0, .string ⟨#[]⟩, .int .i64 0] 54)).alloc (.cells #[.int .i64 3, .int .i64 1, .int .i64 4] 3)).heap.size ((w.alloc (.cells #[.int .i64 0, .int .i64 0, .string ⟨#[]⟩, .int .i64 0] 54)).alloc (.cells #[.int .i64 3, .int .i64 1, .int .i64 4] 3)) w') := by
    have hk := ks_new (w.alloc (.cells #[.int .i64 0, .int .i64 0, .string ⟨#[]⟩, .int .i64 0] 54)) [3, 1, 4]
    rw [hZ] at hk
    exact take_fail (w := (w.alloc (.cells #[.int .i64 0, .int .i64 0, .string ⟨#[]⟩, .int .i64 0] 54)).alloc (.cells #[.int .i64 3, .int .i64 1, .int .i64 4] 3)) (w.heap.size + 1) (ks := [3, 1, 4]) ((h.kept (belowA _ _)).kept (belowA _ _)) hk (by decide) hT
  clear h hT hZ
  go_enter Tryz.func68, Tryz.ntmps68
  go_wp2_with (go_at_call 51; refine HT.out.mono ?_; rintro e w2 ⟨rfl, hb⟩)
  exact ⟨rfl, rfl, below3 hb⟩

set_option maxHeartbeats 1000000 in
set_option maxRecDepth 100000 in
theorem value_good {w : World} {p : Nat} {ao : Option Addr} {cap : Nat} {L : List Tok} {c f : Int} {R r : List Tok} {t : Tok} (h : Ahead w p ao cap L c f R) (hT : takeP c f valueKs R = .ok t r) :
    Calls Tryz.prog 68 #[.pointer (some ⟨p, 0, none⟩)] w fun e w' => e = .returned (termP t).val ∧ Ahead w' p ao cap L c f r ∧ Only (fun b => b = p) w w' := by
  have hZ : (w.alloc (.cells #[.int .i64 0, .int .i64 0, .string ⟨#[]⟩, .int .i64 0] 54)).heap.size = w.heap.size + 1 := by simp
  have HT : Hid (Calls Tryz.prog 51 #[.pointer (some ⟨p, 0, none⟩), .slice (some ⟨w.heap.size + 1, 0, none⟩) 3 3] ((w.alloc (.cells #[.int .i64 0, .int .i64 0, .string ⟨#[]⟩, .int .i64 0] 54)).alloc (.cells #[.int .i64 3, .int .i64 1, .int .i64 4] 3)) fun e w' => e = .returned (tokV t) ∧ Ahead w' p ao cap L c f r ∧ Only (fun b => b = p) ((w.alloc (.cells #[.int .i64 0, .int .i64 0, .string ⟨#[]⟩, .int .i64 0] 54)).alloc (.cells #[.int .i64 3, .int .i64 1, .int .i64 4] 3)) w') := by
    have hk := ks_new (w.alloc (.cells #[.int .i64 0, .int .i64 0, .string ⟨#[]⟩, .int .i64 0] 54)) [3, 1, 4]
    rw [hZ] at hk
    exact take_good (w := (w.alloc (.cells #[.int .i64 0, .int .i64 0, .string ⟨#[]⟩, .int .i64 0] 54)).alloc (.cells #[.int .i64 3, .int .i64 1, .int .i64 4] 3)) (w.heap.size + 1) (ks := [3, 1, 4]) ((h.kept (belowA _ _)).kept (belowA _ _)) hk (by decide) hT
  have HF := hide (termOf_any t)
  have H0 := hide h
  have hp := h.lt
  clear h hT hZ
  unfold tokV at HT HF
  unfold Trm.val at *
  go_enter Tryz.func68, Tryz.ntmps68
  go_wp2_with (first
    | (go_at_call 51; refine HT.out.mono ?_; rintro e w2 ⟨rfl, ha, ho⟩; have HA := hide ha; have HO := hide ho; clear ha ho)
    | (go_at_call 82; refine (HF.out _).mono ?_; rintro e w3 ⟨rfl, hb⟩; have HB := hide hb; clear hb; have hbk : w3.heap[w.heap.size]? = some (.cells #[.int .i64 0, .int .i64 0, .string ⟨#[]⟩, .int .i64 0] 54 (0, 0)) := (box_after H0.out.lt HO.out HB.out); obtain ⟨c0, c1, c2, c3, z0, z1, z2, z3⟩ := box4_cells hbk))
  have HO2 : Only (fun b => b = p ∨ w.heap.size ≤ b) w w3 := (only2 (HO.out.mono (fun k _ e => .inl e))).trans (Only.of_below HB.out _)
  have HE := ((((HO2.setCell (p := ⟨w.heap.size, 0, none⟩) (.inr (Nat.le_refl _)) (.int .i64 (termP t).k)).setCell (p := ⟨w.heap.size, 1, none⟩) (.inr (Nat.le_refl _)) (.int .i64 (termP t).n)).setCell (p := ⟨w.heap.size, 2, none⟩) (.inr (Nat.le_refl _)) (.string (termP t).s)).setCell (p := ⟨w.heap.size, 3, none⟩) (.inr (Nat.le_refl _)) (.int .i64 (termP t).off)).mono (S' := fun b => b = p) (fun k hk e => e.elim id (fun e => by omega))
  have HA2 := H0.out.box (HA.out.kept HB.out) (((((Only.refl (fun b => w.heap.size ≤ b) w3).setCell (p := ⟨w.heap.size, 0, none⟩) (Nat.le_refl _) (.int .i64 (termP t).k)).setCell (p := ⟨w.heap.size, 1, none⟩) (Nat.le_refl _) (.int .i64 (termP t).n)).setCell (p := ⟨w.heap.size, 2, none⟩) (Nat.le_refl _) (.string (termP t).s)).setCell (p := ⟨w.heap.size, 3, none⟩) (Nat.le_refl _) (.int .i64 (termP t).off))
  exact bodyPost_ret (value_res _ w.heap.size _ _ _ _ _ rfl (box4_put hbk _ _ _ _)) rfl ⟨rfl, HA2, HE⟩
end Go.Proofs.YtchhophblejmeaaGreatDoor
