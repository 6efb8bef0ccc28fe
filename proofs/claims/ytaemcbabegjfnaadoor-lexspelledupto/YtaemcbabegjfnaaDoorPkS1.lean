/- What the second form's bound (the bulk of what is read) says of one list. Programs in memory: terms, atoms, literals, clauses. The plain types of the program as they lie in memory: slots, tests, patterns, rules, rows, predicates, constants, terms, atoms, literals, clauses. What an argument that was read holds, a list of whatever elements, by the bulk of what is read. A slice in a cell, opened: nil or empty; or a row, each element with its cells and its own reading. What arguments hold that are lists of parts, by the bulk of what is read. What the program's start-up lays, read off the row's condition: the table of marks and two error values. What the program's start-up lays, for LexSpelled: lex' own and the table by which strconv counts digits. -/
import Derived.Test.YtaemcbabegjfnaaDoorRows
import Derived.Test.YtaemcbabegjfnaaDoorOpen
import Derived.Test.YtaemcbabegjfnaaDoorLists
import Derived.Test.YtaemcbabegjfnaaDoorProg
import Derived.Test.YtaemcbabegjfnaaDoorPartMem
import Derived.Test.YtaemcbabegjfnaaDoorLexInt
import Derived.Lib.LaidU8
import Derived.MakeChecks
import Derived.OpenShut
import Derived.ProofKit
import Derived.LaidMore
import Derived.Stop.Joined
import Derived.Test.YtaemcbabegjfnaaDoorPartInt
import Derived.Lib.LaidTab

namespace Go.Proofs.YtaemcbabegjfnaaDoor
set_option linter.unusedSimpArgs false
set_option linter.unusedVariables false
open Go.RowKit Go.Deep Go.Joins

theorem bulk_pos {H : Type} (d : DataW H) : 1 ≤ Rows.uptoBulk d := by
  cases d with
  | lit l => cases l <;> simp [Rows.uptoBulk]
  | nil => simp [Rows.uptoBulk]
  | ptr d => simp [Rows.uptoBulk]
  | slice a b => simp [Rows.uptoBulk]
  | agg a => simp [Rows.uptoBulk]
  | iface a b => simp [Rows.uptoBulk]
  | map a => simp [Rows.uptoBulk]
  | held a => simp [Rows.uptoBulk]

theorem bulk_len {H : Type} : ∀ l : List (DataW H), l.length ≤ Rows.uptoBulkAll l
  | [] => by simp
  | d :: r => by
    have h1 := bulk_pos d
    have h2 := bulk_len r
    simp only [List.length_cons, Rows.uptoBulkAll]
    omega

theorem bulk_mem {H : Type} : ∀ {l : List (DataW H)} {j : Nat} {d : DataW H}, l[j]? = some d → Rows.uptoBulk d ≤ Rows.uptoBulkAll l
  | [], j, d, h => by simp at h
  | x :: r, 0, d, h => by
    simp only [List.getElem?_cons_zero, Option.some.injEq] at h
    subst h
    simp only [Rows.uptoBulkAll]; omega
  | x :: r, j + 1, d, h => by
    rw [List.getElem?_cons_succ] at h
    have := bulk_mem h
    simp only [Rows.uptoBulkAll]; omega

theorem upto_bulk {H : Type} {ds : List (DataW H)} (hk : Rows.uptoSmall H ds = true) {j : Nat} {d : DataW H} (hd : ds[j]? = some d) : Rows.uptoBulk d ≤ 1048576 := by
  have h1 : Rows.uptoBulkAll ds ≤ 1048576 := of_decide_eq_true hk
  exact Nat.le_trans (bulk_mem hd) h1

theorem upto_len {H : Type} {enc : TypeId × Value → H} {P : Program} {w : World} {base : Nat} {spare : Nat → Bool} {held : Bool} {t e : TypeId} {ao : Option Addr} {len cap : Nat} {d : DataW H} {ps : List MemPlace} {ds : List (DataW H)}
    (ht : P.underlying t = some (.slice e)) (h : DataW.Trod enc P w base spare held t (.slice ao len cap) d ps) (hk : Rows.uptoSmall H ds = true) {j : Nat} (hd : ds[j]? = some d) : len ≤ 1048576 := by
  have h1 := upto_bulk hk hd
  have h2 := sliceLen_Trod ht h
  cases d with
  | slice a b =>
    have := bulk_len a
    simp only [sliceLen] at h2
    simp only [Rows.uptoBulk] at h1
    omega
  | _ => simp only [sliceLen] at h2; omega
end Go.Proofs.YtaemcbabegjfnaaDoor

namespace Go.Proofs.YtaemcbabegjfnaaDoor
set_option linter.unusedSimpArgs false
set_option linter.unusedVariables false
open Go.RowKit

structure Trm where
  k : Int
  n : Int
  s : ByteArray
  off : Int
def Trm.con (t : Trm) : Con := ⟨t.k, t.n, t.s⟩
def Trm.ok (t : Trm) : Prop := t.con.ok ∧ I64 t.off
def Trm.val (t : Trm) : Value := .agg #[.int .i64 t.k, .int .i64 t.n, .string t.s, .int .i64 t.off]
def trmAt (w : World) (b off : Nat) (t : Trm) : Prop :=
  w.cell? ⟨b, off, none⟩ = some (.int .i64 t.k) ∧ w.cell? ⟨b, off + 1, none⟩ = some (.int .i64 t.n) ∧ w.cell? ⟨b, off + 2, none⟩ = some (.string t.s) ∧ w.cell? ⟨b, off + 3, none⟩ = some (.int .i64 t.off)
def IsTrms (w : World) (ao : Option Addr) (len : Nat) (ts : List Trm) : Prop :=
  ts.length = len ∧ len * 40 ≤ 140737488351232 ∧ (∀ t ∈ ts, t.ok) ∧ (0 < len → ∃ b off, ao = some ⟨b, off, none⟩ ∧ ∀ i t, ts[i]? = some t → trmAt w b (off + i * 4) t)

structure Atm where
  p : ByteArray
  ao : Option Addr
  len : Nat
  cap : Nat
  off : Int
  ts : List Trm
def Atm.at (a : Atm) (w : World) : Prop := a.p.size ≤ 140737488351232 ∧ I64 a.off ∧ IsTrms w a.ao a.len a.ts
def Atm.val (a : Atm) : Value := .agg #[.string a.p, .slice a.ao a.len a.cap, .int .i64 a.off]

structure Ltr where
  k : Int
  a : Atm
  op : Int
  l : Trm
  r : Trm
  off : Int
def Ltr.at (x : Ltr) (w : World) : Prop := I64 x.k ∧ x.a.at w ∧ I64 x.op ∧ x.l.ok ∧ x.r.ok ∧ I64 x.off
def Ltr.val (x : Ltr) : Value := .agg #[.int .i64 x.k, .string x.a.p, .slice x.a.ao x.a.len x.a.cap, .int .i64 x.a.off, .int .i64 x.op, .int .i64 x.l.k, .int .i64 x.l.n, .string x.l.s, .int .i64 x.l.off, .int .i64 x.r.k, .int .i64 x.r.n, .string x.r.s, .int .i64 x.r.off, .int .i64 x.off]
def ltrAt (w : World) (b off : Nat) (x : Ltr) : Prop :=
  w.cell? ⟨b, off, none⟩ = some (.int .i64 x.k) ∧ w.cell? ⟨b, off + 1, none⟩ = some (.string x.a.p) ∧ w.cell? ⟨b, off + 2, none⟩ = some (.slice x.a.ao x.a.len x.a.cap) ∧ w.cell? ⟨b, off + 3, none⟩ = some (.int .i64 x.a.off) ∧ w.cell? ⟨b, off + 4, none⟩ = some (.int .i64 x.op) ∧ trmAt w b (off + 5) x.l ∧ trmAt w b (off + 9) x.r ∧ w.cell? ⟨b, off + 13, none⟩ = some (.int .i64 x.off)
def IsLtrs (w : World) (ao : Option Addr) (len : Nat) (xs : List Ltr) : Prop :=
  xs.length = len ∧ len * 144 ≤ 140737488351232 ∧ (∀ x ∈ xs, x.at w) ∧ (0 < len → ∃ b off, ao = some ⟨b, off, none⟩ ∧ ∀ i x, xs[i]? = some x → ltrAt w b (off + i * 14) x)

structure Cls where
  h : Atm
  ao : Option Addr
  len : Nat
  cap : Nat
  ls : List Ltr
def Cls.at (c : Cls) (w : World) : Prop := c.h.at w ∧ IsLtrs w c.ao c.len c.ls
def Cls.val (c : Cls) : Value := .agg #[.string c.h.p, .slice c.h.ao c.h.len c.h.cap, .int .i64 c.h.off, .slice c.ao c.len c.cap]
def clsAt (w : World) (b off : Nat) (c : Cls) : Prop :=
  w.cell? ⟨b, off, none⟩ = some (.string c.h.p) ∧ w.cell? ⟨b, off + 1, none⟩ = some (.slice c.h.ao c.h.len c.h.cap) ∧ w.cell? ⟨b, off + 2, none⟩ = some (.int .i64 c.h.off) ∧ w.cell? ⟨b, off + 3, none⟩ = some (.slice c.ao c.len c.cap)
def IsClss (w : World) (ao : Option Addr) (len : Nat) (cs : List Cls) : Prop :=
  cs.length = len ∧ len * 64 ≤ 140737488351232 ∧ (∀ c ∈ cs, c.at w) ∧ (0 < len → ∃ b off, ao = some ⟨b, off, none⟩ ∧ ∀ i c, cs[i]? = some c → clsAt w b (off + i * 4) c)

theorem trmAt.kept {w w' : World} {b off : Nat} {t : Trm} (h : trmAt w b off t) (hb : Below w.heap.size w w') : trmAt w' b off t :=
  ⟨kept_cell hb h.1, kept_cell hb h.2.1, kept_cell hb h.2.2.1, kept_cell hb h.2.2.2⟩
theorem IsTrms.kept {w w' : World} {ao : Option Addr} {len : Nat} {ts : List Trm} (h : IsTrms w ao len ts) (hb : Below w.heap.size w w') : IsTrms w' ao len ts :=
  ⟨h.1, h.2.1, h.2.2.1, fun hl => by obtain ⟨b, off, e, hr⟩ := h.2.2.2 hl; exact ⟨b, off, e, fun i t ht => (hr i t ht).kept hb⟩⟩
theorem Atm.at.kept {w w' : World} {a : Atm} (h : a.at w) (hb : Below w.heap.size w w') : a.at w' := ⟨h.1, h.2.1, h.2.2.kept hb⟩
theorem Ltr.at.kept {w w' : World} {x : Ltr} (h : x.at w) (hb : Below w.heap.size w w') : x.at w' := ⟨h.1, h.2.1.kept hb, h.2.2.1, h.2.2.2.1, h.2.2.2.2.1, h.2.2.2.2.2⟩
theorem ltrAt.kept {w w' : World} {b off : Nat} {x : Ltr} (h : ltrAt w b off x) (hb : Below w.heap.size w w') : ltrAt w' b off x :=
  ⟨kept_cell hb h.1, kept_cell hb h.2.1, kept_cell hb h.2.2.1, kept_cell hb h.2.2.2.1, kept_cell hb h.2.2.2.2.1, h.2.2.2.2.2.1.kept hb, h.2.2.2.2.2.2.1.kept hb, kept_cell hb h.2.2.2.2.2.2.2⟩
theorem IsLtrs.kept {w w' : World} {ao : Option Addr} {len : Nat} {xs : List Ltr} (h : IsLtrs w ao len xs) (hb : Below w.heap.size w w') : IsLtrs w' ao len xs :=
  ⟨h.1, h.2.1, fun x hx => (h.2.2.1 x hx).kept hb, fun hl => by obtain ⟨b, off, e, hr⟩ := h.2.2.2 hl; exact ⟨b, off, e, fun i t ht => (hr i t ht).kept hb⟩⟩
theorem Cls.at.kept {w w' : World} {c : Cls} (h : c.at w) (hb : Below w.heap.size w w') : c.at w' := ⟨h.1.kept hb, h.2.kept hb⟩
theorem clsAt.kept {w w' : World} {b off : Nat} {c : Cls} (h : clsAt w b off c) (hb : Below w.heap.size w w') : clsAt w' b off c :=
  ⟨kept_cell hb h.1, kept_cell hb h.2.1, kept_cell hb h.2.2.1, kept_cell hb h.2.2.2⟩
theorem IsClss.kept {w w' : World} {ao : Option Addr} {len : Nat} {cs : List Cls} (h : IsClss w ao len cs) (hb : Below w.heap.size w w') : IsClss w' ao len cs :=
  ⟨h.1, h.2.1, fun x hx => (h.2.2.1 x hx).kept hb, fun hl => by obtain ⟨b, off, e, hr⟩ := h.2.2.2 hl; exact ⟨b, off, e, fun i t ht => (hr i t ht).kept hb⟩⟩
end Go.Proofs.YtaemcbabegjfnaaDoor

namespace Go.Proofs.YtaemcbabegjfnaaDoor
set_option linter.unusedSimpArgs false
set_option linter.unusedVariables false
open Go.RowKit

def elInt : El Int where
  cells x := [.int .i64 x]
  size := 1
  pos := by decide
  len _ := rfl
  ok _ _ x := I64 x
  one _ u hu := by simp only [List.mem_singleton] at hu; subst hu; rfl
  move h _ := h
def elStr : El ByteArray where
  cells s := [.string s]
  size := 1
  pos := by decide
  len _ := rfl
  ok _ _ s := s.size ≤ 140737488351232
  one _ u hu := by simp only [List.mem_singleton] at hu; subst hu; rfl
  move h _ := h
def elCon : El Con where
  cells c := [.int .i64 c.k, .int .i64 c.n, .string c.s]
  size := 3
  pos := by decide
  len _ := rfl
  ok _ _ c := c.ok
  one _ u hu := by simp only [List.mem_cons, List.not_mem_nil, or_false] at hu; rcases hu with rfl | rfl | rfl <;> rfl
  move h _ := h
/-- A predicate: name and arity. -/
structure Prd where
  s : ByteArray
  n : Int
def elPrd : El Prd where
  cells c := [.string c.s, .int .i64 c.n]
  size := 2
  pos := by decide
  len _ := rfl
  ok _ _ c := c.s.size ≤ 140737488351232 ∧ I64 c.n
  one _ u hu := by simp only [List.mem_cons, List.not_mem_nil, or_false] at hu; rcases hu with rfl | rfl <;> rfl
  move h _ := h
/-- A slot: a variable's number or a constant's id. -/
structure Slo where
  v : Bool
  n : Int
def elSlo : El Slo where
  cells c := [.bool c.v, .int .i64 c.n]
  size := 2
  pos := by decide
  len _ := rfl
  ok _ _ c := I64 c.n
  one _ u hu := by simp only [List.mem_cons, List.not_mem_nil, or_false] at hu; rcases hu with rfl | rfl <;> rfl
  move h _ := h
structure Tes where
  op : Int
  l : Slo
  r : Slo
def elTes : El Tes where
  cells c := [.int .i64 c.op, .bool c.l.v, .int .i64 c.l.n, .bool c.r.v, .int .i64 c.r.n]
  size := 5
  pos := by decide
  len _ := rfl
  ok _ _ c := I64 c.op ∧ I64 c.l.n ∧ I64 c.r.n
  one _ u hu := by simp only [List.mem_cons, List.not_mem_nil, or_false] at hu; rcases hu with rfl | rfl | rfl | rfl | rfl <;> rfl
  move h _ := h
def elTrm : El Trm where
  cells c := [.int .i64 c.k, .int .i64 c.n, .string c.s, .int .i64 c.off]
  size := 4
  pos := by decide
  len _ := rfl
  ok _ _ c := c.ok
  one _ u hu := by simp only [List.mem_cons, List.not_mem_nil, or_false] at hu; rcases hu with rfl | rfl | rfl | rfl <;> rfl
  move h _ := h

theorem Lst.one {α : Type} {E : El α} {w : World} {F : Nat → Prop} {v : Value} {l : List α} (h : Lst E w F v l) : v.oneCell' = true := by
  obtain ⟨ao, cap, e, _⟩ := h
  rw [e]; rfl

/-- A pattern: a predicate's id, slots. -/
structure Pat where
  q : Int
  v : Value
  ss : List Slo
def elPat : El Pat where
  cells c := [.int .i64 c.q, c.v]
  size := 2
  pos := by decide
  len _ := rfl
  ok w F c := I64 c.q ∧ Lst elSlo w F c.v c.ss
  one h u hu := by
    simp only [List.mem_cons, List.not_mem_nil, or_false] at hu
    rcases hu with rfl | rfl
    · rfl
    · exact h.2.one
  move h hm := ⟨h.1, h.2.move hm⟩
/-- A row: a predicate's id, constants' ids. -/
structure Roe where
  q : Int
  v : Value
  l : List Int
def elRoe : El Roe where
  cells c := [.int .i64 c.q, c.v]
  size := 2
  pos := by decide
  len _ := rfl
  ok w F c := I64 c.q ∧ Lst elInt w F c.v c.l
  one h u hu := by
    simp only [List.mem_cons, List.not_mem_nil, or_false] at hu
    rcases hu with rfl | rfl
    · rfl
    · exact h.2.one
  move h hm := ⟨h.1, h.2.move hm⟩
structure Rul where
  h : Pat
  pv : Value
  ps : List Pat
  tv : Value
  ts : List Tes
  nv : Value
  ns : List Pat
  vv : Value
  vs : List ByteArray
  c : Int
def elRul : El Rul where
  cells c := [.int .i64 c.h.q, c.h.v, c.pv, c.tv, c.nv, c.vv, .int .i64 c.c]
  size := 7
  pos := by decide
  len _ := rfl
  ok w F c := elPat.ok w F c.h ∧ Lst elPat w F c.pv c.ps ∧ Lst elTes w F c.tv c.ts ∧ Lst elPat w F c.nv c.ns ∧ Lst elStr w F c.vv c.vs ∧ I64 c.c
  one h u hu := by
    simp only [List.mem_cons, List.not_mem_nil, or_false] at hu
    rcases hu with rfl | rfl | rfl | rfl | rfl | rfl | rfl
    · rfl
    · exact h.1.2.one
    · exact h.2.1.one
    · exact h.2.2.1.one
    · exact h.2.2.2.1.one
    · exact h.2.2.2.2.1.one
    · rfl
  move h hm := ⟨elPat.move h.1 hm, h.2.1.move hm, h.2.2.1.move hm, h.2.2.2.1.move hm, h.2.2.2.2.1.move hm, h.2.2.2.2.2⟩
/-- An atom: a name, terms, an offset. -/
structure Atx where
  p : ByteArray
  v : Value
  off : Int
  ts : List Trm
def elAtx : El Atx where
  cells c := [.string c.p, c.v, .int .i64 c.off]
  size := 3
  pos := by decide
  len _ := rfl
  ok w F c := c.p.size ≤ 140737488351232 ∧ I64 c.off ∧ Lst elTrm w F c.v c.ts
  one h u hu := by
    simp only [List.mem_cons, List.not_mem_nil, or_false] at hu
    rcases hu with rfl | rfl | rfl
    · rfl
    · exact h.2.2.one
    · rfl
  move h hm := ⟨h.1, h.2.1, h.2.2.move hm⟩
structure Lix where
  k : Int
  a : Atx
  op : Int
  l : Trm
  r : Trm
  off : Int
def elLix : El Lix where
  cells c := [.int .i64 c.k, .string c.a.p, c.a.v, .int .i64 c.a.off, .int .i64 c.op, .int .i64 c.l.k, .int .i64 c.l.n, .string c.l.s, .int .i64 c.l.off, .int .i64 c.r.k, .int .i64 c.r.n, .string c.r.s, .int .i64 c.r.off, .int .i64 c.off]
  size := 14
  pos := by decide
  len _ := rfl
  ok w F c := I64 c.k ∧ elAtx.ok w F c.a ∧ I64 c.op ∧ c.l.ok ∧ c.r.ok ∧ I64 c.off
  one h u hu := by
    simp only [List.mem_cons, List.not_mem_nil, or_false] at hu
    have := h.2.1.2.2.one
    rcases hu with rfl | rfl | rfl | rfl | rfl | rfl | rfl | rfl | rfl | rfl | rfl | rfl | rfl | rfl <;> first | rfl | exact this
  move h hm := ⟨h.1, elAtx.move h.2.1 hm, h.2.2⟩
structure Clx where
  h : Atx
  v : Value
  ls : List Lix
def elClx : El Clx where
  cells c := [.string c.h.p, c.h.v, .int .i64 c.h.off, c.v]
  size := 4
  pos := by decide
  len _ := rfl
  ok w F c := elAtx.ok w F c.h ∧ Lst elLix w F c.v c.ls
  one h u hu := by
    simp only [List.mem_cons, List.not_mem_nil, or_false] at hu
    rcases hu with rfl | rfl | rfl | rfl
    · rfl
    · exact h.1.2.2.one
    · rfl
    · exact h.2.one
  move h hm := ⟨elAtx.move h.1 hm, h.2.move hm⟩
theorem elPat_ok {w : World} {F : Nat → Prop} {p : Pat} (h : elPat.ok w F p) : I64 p.q ∧ Lst elSlo w F p.v p.ss := h
theorem elRoe_ok {w : World} {F : Nat → Prop} {p : Roe} (h : elRoe.ok w F p) : I64 p.q ∧ Lst elInt w F p.v p.l := h
theorem elRul_ok {w : World} {F : Nat → Prop} {c : Rul} (h : elRul.ok w F c) : elPat.ok w F c.h ∧ Lst elPat w F c.pv c.ps ∧ Lst elTes w F c.tv c.ts ∧ Lst elPat w F c.nv c.ns ∧ Lst elStr w F c.vv c.vs ∧ I64 c.c := h
theorem elAtx_ok {w : World} {F : Nat → Prop} {c : Atx} (h : elAtx.ok w F c) : c.p.size ≤ 140737488351232 ∧ I64 c.off ∧ Lst elTrm w F c.v c.ts := h
theorem elLix_ok {w : World} {F : Nat → Prop} {c : Lix} (h : elLix.ok w F c) : I64 c.k ∧ elAtx.ok w F c.a ∧ I64 c.op ∧ c.l.ok ∧ c.r.ok ∧ I64 c.off := h
theorem elClx_ok {w : World} {F : Nat → Prop} {c : Clx} (h : elClx.ok w F c) : elAtx.ok w F c.h ∧ Lst elLix w F c.v c.ls := h
end Go.Proofs.YtaemcbabegjfnaaDoor

namespace Go.Proofs.YtaemcbabegjfnaaDoor
set_option linter.unusedSimpArgs false
set_option linter.unusedVariables false
open Go.RowKit Go.Deep Go.ChangeShapes Go.WideShapes Go.ChangeAt Go.Joins

section
variable {H : Type} {enc : TypeId × Value → H} {P : Program} {w : World}

theorem bulkAt {D : Nat → DataW H} {len i : Nat} (hi : i < len) : Rows.uptoBulk (D i) ≤ Rows.uptoBulkAll ((List.range len).map D) :=
  bulk_mem (j := i) (by rw [List.getElem?_map, List.getElem?_range hi]; rfl)
theorem bulkRange (D : Nat → DataW H) (len : Nat) : len ≤ Rows.uptoBulkAll ((List.range len).map D) := by
  have := bulk_len ((List.range len).map D)
  simpa using this

theorem lst_val {α : Type} (E : El α) {t e : TypeId} {v : Value} {x : DataW H × List MemPlace} {fuel : Nat}
    (ht : P.underlying t = some (.slice e)) (ce : P.cellsOf e = E.size)
    (hf : DataW.trod enc P w 0 (fun _ => true) true fuel t [v] = some x) (hk : Rows.uptoBulk x.1 ≤ 1048576)
    (hel : ∀ cs fuel y, DataW.trod enc P w 0 (fun _ => true) true fuel e cs = some y → Rows.uptoBulk y.1 ≤ 1048576 → cs.length = E.size → ∃ z : α, cs = E.cells z ∧ E.ok w (fun _ => True) z) :
    ∃ l, Has E w v l ∧ l.length ≤ Rows.uptoBulk x.1 := by
  rcases open_slice ht hf with ⟨h1, _⟩ | ⟨a, len, cap, m, n, D, Pl, h1, hb, hl, hm, hmm, hx, hrow⟩
  · simp only [List.cons.injEq, and_true] at h1
    exact ⟨[], by rw [h1]; exact Lst.nil _ _ _, Nat.zero_le _⟩
  · simp only [List.cons.injEq, and_true] at h1
    simp only [if_true] at hmm
    subst hmm
    obtain ⟨b, off, spot⟩ := a
    have hbk : Rows.uptoBulkAll ((List.range len).map D) ≤ Rows.uptoBulk x.1 := by
      rw [hx]
      simp only [Rows.uptoBulk]
      omega
    have hlb := bulkRange D len
    by_cases hlen : 0 < len
    · have hspot : spot = none := by
        obtain ⟨cs', g1, _⟩ := hrow 0 (by omega)
        rw [ce] at g1
        obtain ⟨_, hl3, g2⟩ := World.cells?_some g1
        have g3 := g2 0 E.pos
        have g4 : w.cell? ⟨b, off, spot⟩ = some (cs'[0]'(by rw [hl3]; exact E.pos)) := by
          simp only [Nat.zero_mul, Addr.add, if_true] at g3
          rw [g3]; exact List.getElem?_eq_getElem _
        exact World.cell?_spot g4
      subst hspot
      obtain ⟨l, h2, h3⟩ := list_of_each (R := fun i (z : α) => E.ok w (fun _ => True) z ∧ ∀ j u, (E.cells z)[j]? = some u → w.cell? ⟨b, off + i * E.size + j, none⟩ = some u) len (fun i hi => by
        obtain ⟨cs, g1, g2⟩ := hrow i (by omega)
        rw [addr_add, ce] at g1
        obtain ⟨_, hl3, hc⟩ := World.cells?_some g1
        have hbi := bulkAt (D := D) hi
        obtain ⟨z, rfl, hz⟩ := hel cs _ _ g2 (by dsimp only; omega) hl3
        refine ⟨z, hz, fun j u hu => ?_⟩
        have hj : j < E.size := by have := (List.getElem?_eq_some_iff.1 hu).1; rw [E.len] at this; exact this
        have := hc j hj
        rw [addr_add] at this
        rw [this]; exact hu)
      subst h2
      have hlt : b < w.heap.size := by
        obtain ⟨z, hz⟩ : ∃ z, l[0]? = some z := ⟨_, List.getElem?_eq_getElem hlen⟩
        obtain ⟨u, hu⟩ : ∃ u, (E.cells z)[0]? = some u := ⟨_, List.getElem?_eq_getElem (by rw [E.len]; exact E.pos)⟩
        exact lt_of_cell ((h3 0 z hz).2 0 u hu)
      refine ⟨l, ⟨_, _, h1, hl, (fun h => by cases h), by omega, fun z hz => ?_, fun _ => ⟨b, off, rfl, hlt, trivial, fun i z hz => (h3 i z hz).2⟩⟩, by omega⟩
      obtain ⟨i, hi⟩ := List.mem_iff_getElem?.1 hz
      exact (h3 i z hi).1
    · obtain rfl : len = 0 := by omega
      exact ⟨[], ⟨_, _, h1, hl, (fun h => by cases h), by simp, by simp, fun h => by simp at h⟩, Nat.zero_le _⟩
end
end Go.Proofs.YtaemcbabegjfnaaDoor

namespace Go.Proofs.YtaemcbabegjfnaaDoor
set_option linter.unusedSimpArgs false
set_option linter.unusedVariables false
open Go.RowKit Go.Deep Go.ChangeShapes Go.WideShapes Go.ChangeAt Go.Joins

section
variable {H : Type} {enc : TypeId × Value → H} {P : Program} {w : World}

/-- A slice in a cell: nil or empty; or a row, each element with its cells and its own reading, within the reach. -/
theorem rows_in {t e : TypeId} {v : Value} {x : DataW H × List MemPlace} {fuel size : Nat}
    (ht : P.underlying t = some (.slice e)) (ce : P.cellsOf e = size) (hsize : 0 < size)
    (hf : DataW.trod enc P w 0 (fun _ => true) true fuel t [v] = some x) (hw : ∀ n ∈ x.1.weights P t, n ≤ 140737488351232) :
    ∃ ao len cap, v = .slice ao len cap ∧ len * P.bytesOf e ≤ 140737488351232 ∧ (0 < len → ∃ b off, ao = some ⟨b, off, none⟩ ∧ ∀ i, i < len → ∃ cs fuel y, w.cells? 0 ⟨b, off + i * size, none⟩ size = some cs ∧ DataW.trod enc P w 0 (fun _ => true) true fuel e cs = some y ∧ ∀ n ∈ y.1.weights P e, n ≤ 140737488351232) := by
  rcases open_slice ht hf with ⟨h1, _⟩ | ⟨a, len, cap, m, n, D, Pl, h1, hb, hl, hm, hmm, hx, hel⟩
  · simp only [List.cons.injEq, and_true] at h1
    exact ⟨none, 0, 0, h1, by omega, fun h => absurd h (by omega)⟩
  · simp only [List.cons.injEq, and_true] at h1
    simp only [if_true] at hmm
    subst hmm
    rw [hx] at hw
    simp only [DataW.weights, ht] at hw
    have hreach := hw _ (List.mem_cons_self ..)
    simp only [List.length_map, List.length_range] at hreach
    have hlr : len * P.bytesOf e ≤ 140737488351232 := Nat.le_trans (Nat.mul_le_mul_right _ (by omega)) hreach
    obtain ⟨b, off, spot⟩ := a
    refine ⟨_, len, _, h1, hlr, fun hlen => ?_⟩
    have hspot : spot = none := by
      obtain ⟨cs', g1, _⟩ := hel 0 (by omega)
      rw [ce] at g1
      obtain ⟨_, hl3, g2⟩ := World.cells?_some g1
      have g3 := g2 0 hsize
      have g4 : w.cell? ⟨b, off, spot⟩ = some (cs'[0]'(by omega)) := by
        simp only [Nat.zero_mul, Addr.add, if_true] at g3
        rw [g3]; exact List.getElem?_eq_getElem _
      exact World.cell?_spot g4
    subst hspot
    refine ⟨b, off, rfl, fun i hi => ?_⟩
    obtain ⟨cs', g1, g2⟩ := hel i (by omega)
    rw [addr_add, ce] at g1
    refine ⟨cs', n, (D i, Pl i), g1, g2, fun k hk => ?_⟩
    exact hw k (List.mem_cons_of_mem _ (List.mem_append_left _ (weights_all (List.mem_map.2 ⟨i, List.mem_range.2 hi, rfl⟩) k hk)))

theorem trod_struct6 {t : TypeId} {f0 f1 f2 f3 f4 f5 : Field} {fuel : Nat} {cs : List Value} {x : DataW H × List MemPlace} (ht : P.underlying t = some (.struct #[f0, f1, f2, f3, f4, f5])) (h : DataW.trod enc P w 0 (fun _ => true) true fuel t cs = some x) :
    ∃ y0 y1 y2 y3 y4 y5 n, x.1 = .agg [y0.1, y1.1, y2.1, y3.1, y4.1, y5.1] ∧ cs.length = P.cellsOf t ∧ DataW.trod enc P w 0 (fun _ => true) true n f0.type ((cs.drop f0.offset).take (P.cellsOf f0.type)) = some y0 ∧
      DataW.trod enc P w 0 (fun _ => true) true n f1.type ((cs.drop f1.offset).take (P.cellsOf f1.type)) = some y1 ∧ DataW.trod enc P w 0 (fun _ => true) true n f2.type ((cs.drop f2.offset).take (P.cellsOf f2.type)) = some y2 ∧
      DataW.trod enc P w 0 (fun _ => true) true n f3.type ((cs.drop f3.offset).take (P.cellsOf f3.type)) = some y3 ∧ DataW.trod enc P w 0 (fun _ => true) true n f4.type ((cs.drop f4.offset).take (P.cellsOf f4.type)) = some y4 ∧
      DataW.trod enc P w 0 (fun _ => true) true n f5.type ((cs.drop f5.offset).take (P.cellsOf f5.type)) = some y5 := by
  obtain ⟨xs, n, _, rfl, hl, hlen, hf⟩ := DataW.trod_struct ht h
  match xs, hlen with
  | [y0, y1, y2, y3, y4, y5], _ => exact ⟨y0, y1, y2, y3, y4, y5, n, by simp, hl, by simpa using hf 0 f0 rfl, by simpa using hf 1 f1 rfl, by simpa using hf 2 f2 rfl, by simpa using hf 3 f3 rfl, by simpa using hf 4 f4 rfl, by simpa using hf 5 f5 rfl⟩
end

theorem cellsInt : Tryd.prog.cellsOf 3 = 1 := by kernel_rfl
end Go.Proofs.YtaemcbabegjfnaaDoor

namespace Go.Proofs.YtaemcbabegjfnaaDoor
set_option linter.unusedSimpArgs false
set_option linter.unusedVariables false
open Go.RowKit Go.Deep Go.ChangeShapes Go.WideShapes Go.ChangeAt Go.Joins

section
variable {H : Type} {enc : TypeId × Value → H} {w : World}
theorem cInt : Tryd.prog.cellsOf 3 = 1 := by kernel_rfl
theorem cInt64 : Tryd.prog.cellsOf 2 = 1 := by kernel_rfl
theorem cStr : Tryd.prog.cellsOf 9 = 1 := by kernel_rfl
theorem cPart : Tryd.prog.cellsOf 29 = 6 := by kernel_rfl

set_option maxRecDepth 100000
theorem part_el (cs : List Value) (fuel : Nat) (y : DataW H × List MemPlace) (hd : DataW.trod enc Tryd.prog w 0 (fun _ => true) true fuel 29 cs = some y) (hk : Rows.uptoBulk y.1 ≤ 1048576) (hl : cs.length = 6) : ∃ z, cs = elPrt.cells z ∧ elPrt.ok w (fun _ => True) z := by
  obtain ⟨y0, y1, y2, y3, y4, y5, n, hx, _, t0, t1, t2, t3, t4, t5⟩ := trod_struct6 Tryd.underlying29 hd
  rw [hx] at hk
  simp only [Rows.uptoBulk, Rows.uptoBulkAll] at hk
  match cs, hl with
  | [v0, v1, v2, v3, v4, v5], _ =>
    simp only [cInt, cInt64, cStr, List.drop_zero, List.drop_succ_cons, List.take_succ_cons, List.take_zero] at t0 t1 t2 t3 t4 t5
    obtain ⟨a0, e0, _, _⟩ := DataW.trod_int Tryd.underlying3 t0
    obtain ⟨s, e1, f1, _⟩ := DataW.trod_string Tryd.underlying9 t1
    obtain ⟨a2, e2, _, b2⟩ := DataW.trod_int Tryd.underlying2 t2
    obtain ⟨a3, e3, _, _⟩ := DataW.trod_int Tryd.underlying3 t3
    obtain ⟨a4, e4, _, _⟩ := DataW.trod_int Tryd.underlying3 t4
    obtain ⟨a5, e5, _, _⟩ := DataW.trod_int Tryd.underlying3 t5
    simp only [List.cons.injEq, and_true] at e0 e1 e2 e3 e4 e5
    subst e0 e1 e2 e3 e4 e5
    rw [f1] at hk
    simp only [Rows.uptoBulk] at hk
    have hh : s.data.toList.length = s.size := rfl
    have h3 : s.data.size = s.size := rfl
    have h4 : s.toList.length = s.size := by rw [ByteArray.toList_eq]; rfl
    exact ⟨⟨a0, s, a2, a3, a4, a5⟩, rfl, bounds_i64 b2, by show s.size ≤ 10000000; omega⟩

theorem open_prts {r : Reach} {b0 : Nat} {v : Value} {d : DataW H} {ps : List MemPlace}
    (hv : Value.okWide Tryd.prog w r b0 22 v) (h : DataW.Trod enc Tryd.prog w 0 (fun _ => true) true 22 v d ps) (hk : Rows.uptoBulk d ≤ 1048576) :
    ∃ l, Has elPrt w v l ∧ l.length ≤ 1048576 := by
  obtain ⟨ao, len, cap, rfl⟩ := okWide_slice Tryd.underlying22 hv
  obtain ⟨fuel, hf⟩ := h
  obtain ⟨l, hl, hn⟩ := lst_val elPrt Tryd.underlying22 cPart (x := (d, ps)) hf hk part_el
  exact ⟨l, hl, Nat.le_trans hn hk⟩
end
end Go.Proofs.YtaemcbabegjfnaaDoor

namespace Go.Proofs.YtaemcbabegjfnaaDoor
set_option linter.unusedSimpArgs false
set_option linter.unusedVariables false
open Go.RowKit

def lexLaid : List (String × DataW Unit) := [("math/bits.deBruijn32tab", Rows.laid_math_bits_deBruijn32tab), ("math/bits.deBruijn64tab", Rows.laid_math_bits_deBruijn64tab), ("internal/strconv.uint64pow10", Rows.laid_internal_strconv_uint64pow10), ("strconv.ErrRange", Rows.laid_strconv_ErrRange), ("strconv.ErrSyntax", Rows.laid_strconv_ErrSyntax), ("edict/lex.marks", Rows.laid_edict_lex_marks)]

theorem gMarks : Tryd.prog.globalNamed "edict/lex.marks" = some 0 := by kernel_rfl
theorem gSyn : Tryd.prog.globalNamed "strconv.ErrSyntax" = some 4 := by kernel_rfl
theorem gRng : Tryd.prog.globalNamed "strconv.ErrRange" = some 5 := by kernel_rfl
theorem tMarks : (Tryd.prog.globals[0]?).map (·.type) = some 70 := by kernel_rfl
theorem tSyn : (Tryd.prog.globals[4]?).map (·.type) = some 63 := by kernel_rfl
theorem tRng : (Tryd.prog.globals[5]?).map (·.type) = some 63 := by kernel_rfl

set_option maxRecDepth 100000 in
theorem iface_cells {fuel : Nat} {W : World} {cs : List Value} {n : String} {d : DataW Unit} {p : List MemPlace} {sp : Nat → Bool} {base : Nat}
    (h : DataW.trod (fun _ => ()) Tryd.prog W base sp false fuel 63 cs = some (.iface n d, p)) : ∃ t y, cs = [.iface t y] := by
  cases fuel with
  | zero => simp [DataW.trod] at h
  | succ m =>
    unfold DataW.trod at h
    rw [Tryd.underlying63] at h
    split at h <;> first | exact ⟨_, _, rfl⟩ | simp_all

set_option maxRecDepth 100000 in
theorem struct_cells {fuel : Nat} {W : World} {cs : List Value} {bs : List UInt8} {k op : Int} {p : List MemPlace} {sp : Nat → Bool} {base : Nat}
    (h : DataW.trod (fun _ => ()) Tryd.prog W base sp false fuel 69 cs = some ((.agg [.lit (.string bs), .lit (.int .i64 k), .lit (.int .i64 op)] : DataW Unit), p)) : cs = [.string ⟨bs.toArray⟩, .int .i64 k, .int .i64 op] := by
  obtain ⟨xs, m, rfl, hx, hlen, hn, hel⟩ := DataW.trod_struct Tryd.underlying69 h
  have hc : Tryd.prog.cellsOf 69 = 3 := by kernel_rfl
  have c9 : Tryd.prog.cellsOf 9 = 1 := by kernel_rfl
  have c3 : Tryd.prog.cellsOf 3 = 1 := by kernel_rfl
  rw [hc] at hlen
  have e0 : DataW.trod (fun _ => ()) Tryd.prog W base sp false m 9 ((cs.drop 0).take (Tryd.prog.cellsOf 9)) = xs[0]? := hel 0 _ rfl
  have e1 : DataW.trod (fun _ => ()) Tryd.prog W base sp false m 3 ((cs.drop 1).take (Tryd.prog.cellsOf 3)) = xs[1]? := hel 1 _ rfl
  have e2 : DataW.trod (fun _ => ()) Tryd.prog W base sp false m 3 ((cs.drop 2).take (Tryd.prog.cellsOf 3)) = xs[2]? := hel 2 _ rfl
  rw [c9] at e0
  rw [c3] at e1 e2
  match xs, hn, hx, e0, e1, e2 with
  | [x0, x1, x2], _, hx, e0, e1, e2 =>
    obtain ⟨s, a0, b0, _⟩ := DataW.trod_string Tryd.underlying9 (show _ = some x0 from e0)
    obtain ⟨n1, a1, b1, _⟩ := DataW.trod_int Tryd.underlying3 (show _ = some x1 from e1)
    obtain ⟨n2, a2, b2, _⟩ := DataW.trod_int Tryd.underlying3 (show _ = some x2 from e2)
    simp only [Prod.mk.injEq, DataW.agg.injEq, List.map_cons, List.map_nil, List.cons.injEq, and_true] at hx
    rw [b0, b1, b2] at hx
    simp only [DataW.lit.injEq, Lit.string.injEq, Lit.int.injEq, true_and] at hx
    obtain ⟨⟨h0, h1, h2⟩, _⟩ := hx
    match cs, hlen, a0, a1, a2 with
    | [c0, c1, c2], _, a0, a1, a2 =>
      simp at a0 a1 a2
      rw [a0, a1, a2, h0, ← h1, ← h2]

/-- The data of the table's rows. -/
def markD (m : List UInt8 × Int × Int) : DataW Unit := .agg [.lit (.string m.1), .lit (.int .i64 m.2.1), .lit (.int .i64 m.2.2)]
def marksM : List (List UInt8 × Int × Int) :=
  [([58, 45], 9, 0), ([33, 61], 11, 2), ([60, 61], 11, 4), ([62, 61], 11, 6), ([60], 11, 3), ([62], 11, 5), ([61], 11, 1), ([40], 5, 0), ([41], 6, 0), ([44], 7, 0), ([46], 8, 0)]
theorem marks_data : (Rows.laid_edict_lex_marks : DataW Unit) = .agg (marksM.map markD) := rfl
def mark3 (m : List UInt8 × Int × Int) : List Value := [.string ⟨m.1.toArray⟩, .int .i64 m.2.1, .int .i64 m.2.2]
theorem marksL_eq : marksL = marksM.flatMap mark3 := rfl

theorem flat3_at (ms : List (List UInt8 × Int × Int)) (cs : List Value) (hl : cs.length = ms.length * 3) (h : ∀ i m, ms[i]? = some m → (cs.drop (i * 3)).take 3 = mark3 m) : cs = ms.flatMap mark3 := by
  induction ms generalizing cs with
  | nil => exact List.length_eq_zero_iff.1 (by simpa using hl)
  | cons m r ih =>
    rw [List.flatMap_cons]
    have h0 := h 0 m rfl
    simp only [Nat.zero_mul, List.drop_zero] at h0
    have h1 := ih (cs.drop 3) (by simp [hl]; omega) (fun i m' hm => by
      have := h (i + 1) m' hm
      rw [List.drop_drop]
      rw [show (i + 1) * 3 = 3 + i * 3 by omega] at this
      exact this)
    rw [← h0, ← h1, List.take_append_drop]

theorem laid_lex {W : World} (h : laidMetH Tryd.prog lexLaid W) : LexLaid W := by
  rw [MakeChecks.laidMetH_plain _ _ _ (by kernel_rfl)] at h
  have r1 := Lib.laidMet.reads h (show ("strconv.ErrRange", Rows.laid_strconv_ErrRange) ∈ lexLaid from .tail _ (.tail _ (.tail _ (.head _))))
  have r2 := Lib.laidMet.reads h (show ("strconv.ErrSyntax", Rows.laid_strconv_ErrSyntax) ∈ lexLaid from .tail _ (.tail _ (.tail _ (.tail _ (.head _)))))
  have r3 := Lib.laidMet.reads h (show ("edict/lex.marks", Rows.laid_edict_lex_marks) ∈ lexLaid from .tail _ (.tail _ (.tail _ (.tail _ (.tail _ (.head _))))))
  refine ⟨?_, ?_, ?_⟩
  · obtain ⟨g, t, cs, fuel, p, hg, ht, hv, hd⟩ := r2
    obtain rfl := Option.some.inj (gSyn.symm.trans hg)
    obtain rfl := Option.some.inj (tSyn.symm.trans ht)
    obtain ⟨t, y, hcs⟩ := iface_cells hd
    refine ⟨t, y, ?_⟩
    have := World.var?_cell hg hv 0
    rw [Array.eq_one_of_toList hcs] at this
    simpa using this
  · obtain ⟨g, t, cs, fuel, p, hg, ht, hv, hd⟩ := r1
    obtain rfl := Option.some.inj (gRng.symm.trans hg)
    obtain rfl := Option.some.inj (tRng.symm.trans ht)
    obtain ⟨t, y, hcs⟩ := iface_cells hd
    refine ⟨t, y, ?_⟩
    have := World.var?_cell hg hv 0
    rw [Array.eq_one_of_toList hcs] at this
    simpa using this
  · obtain ⟨g, t, cs, fuel, p, hg, ht, hv, hd⟩ := r3
    obtain rfl := Option.some.inj (gMarks.symm.trans hg)
    obtain rfl := Option.some.inj (tMarks.symm.trans ht)
    obtain ⟨xs, m, rfl, hx, hlen, hn, hel⟩ := DataW.trod_array Tryd.underlying70 hd
    have c61 : Tryd.prog.cellsOf 70 = 33 := by kernel_rfl
    have c60 : Tryd.prog.cellsOf 69 = 3 := by kernel_rfl
    rw [c61] at hlen
    rw [marks_data] at hx
    simp only [Prod.mk.injEq, DataW.agg.injEq] at hx
    have hcs : cs.toList = marksL := by
      rw [marksL_eq]
      refine flat3_at marksM cs.toList (by rw [hlen]; rfl) (fun i mm hm => ?_)
      have hi : i < 11 := (List.getElem?_eq_some_iff.1 hm).1
      have he := hel i hi
      rw [c60] at he
      have hxi : (xs.map (·.1))[i]? = some (markD mm) := by rw [← hx.1, List.getElem?_map, hm]; rfl
      rw [List.getElem?_map] at hxi
      obtain ⟨x, hx1, hx2⟩ := Option.map_eq_some_iff.1 hxi
      rw [hx1] at he
      obtain ⟨d, ps⟩ := x
      simp only at hx2
      subst hx2
      exact struct_cells he
    intro i v hv'
    have := World.var?_cell hg hv i
    rw [← hcs] at hv'
    rw [this]
    simpa using hv'

end Go.Proofs.YtaemcbabegjfnaaDoor

namespace Go.Proofs.YtaemcbabegjfnaaDoor
set_option linter.unusedSimpArgs false
set_option linter.unusedVariables false
open Go.RowKit

theorem gPow : Tryd.prog.globalNamed "internal/strconv.uint64pow10" = some 1 := by kernel_rfl
theorem tPow : (Tryd.prog.globals[1]?).map (·.type) = some 73 := by kernel_rfl
theorem laid_sp {W : World} (h : laidMetH Tryd.prog lexLaid W) : TabLaidL W ∧ LexLaid W := by
  refine ⟨?_, laid_lex h⟩
  rw [MakeChecks.laidMetH_plain _ _ _ (by kernel_rfl)] at h
  obtain ⟨g, t, cs, fuel, p, hg, ht, hv, hd⟩ := Lib.laidMet.reads h (show ("internal/strconv.uint64pow10", Rows.laid_internal_strconv_uint64pow10) ∈ lexLaid from .tail _ (.tail _ (.head _)))
  obtain rfl := Option.some.inj (gPow.symm.trans hg)
  obtain rfl := Option.some.inj (tPow.symm.trans ht)
  have hcs := Lib.cells_of_tab (k := .u64) (zs := Lib.pow10Tab) Tryd.underlying73 Tryd.underlying55 (by kernel_rfl) (by kernel_rfl) hd
  unfold TabLaidL Lib.TabIs
  rw [hv, ← hcs]
end Go.Proofs.YtaemcbabegjfnaaDoor
