/- Programs in memory: terms, atoms, literals, clauses. -/
import Derived.Test.YtnpmdepbfobebaaGreatDoorOpen
namespace Go.Proofs.YtnpmdepbfobebaaGreatDoor
set_option linter.unusedSimpArgs false
set_option linter.unusedVariables false
open Go.RowKit

structure Trm where
  k : Int
  n : Int
  s : ByteArray
  off : Int
def Trm.con (t : Trm) : Con := ⟨t.k, t.n, t.s⟩
def Trm.ok (t : Trm) : Prop := t.con.ok ∧ I64 t.off
def Trm.val (t : Trm) : Value := .agg #[.int .i64 t.k, .int .i64 t.n, .string t.s, .int .i64 t.off]
def trmAt (w : World) (b off : Nat) (t : Trm) : Prop :=
  w.cell? ⟨b, off, none⟩ = some (.int .i64 t.k) ∧ w.cell? ⟨b, off + 1, none⟩ = some (.int .i64 t.n) ∧ w.cell? ⟨b, off + 2, none⟩ = some (.string t.s) ∧ w.cell? ⟨b, off + 3, none⟩ = some (.int .i64 t.off)
def IsTrms (w : World) (ao : Option Addr) (len : Nat) (ts : List Trm) : Prop :=
  ts.length = len ∧ len * 40 ≤ 140737488351232 ∧ (∀ t ∈ ts, t.ok) ∧ (0 < len → ∃ b off, ao = some ⟨b, off, none⟩ ∧ ∀ i t, ts[i]? = some t → trmAt w b (off + i * 4) t)

structure Atm where
  p : ByteArray
  ao : Option Addr
  len : Nat
  cap : Nat
  off : Int
  ts : List Trm
def Atm.at (a : Atm) (w : World) : Prop := a.p.size ≤ 140737488351232 ∧ I64 a.off ∧ IsTrms w a.ao a.len a.ts
def Atm.val (a : Atm) : Value := .agg #[.string a.p, .slice a.ao a.len a.cap, .int .i64 a.off]

structure Ltr where
  k : Int
  a : Atm
  op : Int
  l : Trm
  r : Trm
  off : Int
def Ltr.at (x : Ltr) (w : World) : Prop := I64 x.k ∧ x.a.at w ∧ I64 x.op ∧ x.l.ok ∧ x.r.ok ∧ I64 x.off
def Ltr.val (x : Ltr) : Value := .agg #[.int .i64 x.k, .string x.a.p, .slice x.a.ao x.a.len x.a.cap, .int .i64 x.a.off, .int .i64 x.op, .int .i64 x.l.k, .int .i64 x.l.n, .string x.l.s, .int .i64 x.l.off, .int .i64 x.r.k, .int .i64 x.r.n, .string x.r.s, .int .i64 x.r.off, .int .i64 x.off]
def ltrAt (w : World) (b off : Nat) (x : Ltr) : Prop :=
  w.cell? ⟨b, off, none⟩ = some (.int .i64 x.k) ∧ w.cell? ⟨b, off + 1, none⟩ = some (.string x.a.p) ∧ w.cell? ⟨b, off + 2, none⟩ = some (.slice x.a.ao x.a.len x.a.cap) ∧ w.cell? ⟨b, off + 3, none⟩ = some (.int .i64 x.a.off) ∧ w.cell? ⟨b, off + 4, none⟩ = some (.int .i64 x.op) ∧ trmAt w b (off + 5) x.l ∧ trmAt w b (off + 9) x.r ∧ w.cell? ⟨b, off + 13, none⟩ = some (.int .i64 x.off)
def IsLtrs (w : World) (ao : Option Addr) (len : Nat) (xs : List Ltr) : Prop :=
  xs.length = len ∧ len * 144 ≤ 140737488351232 ∧ (∀ x ∈ xs, x.at w) ∧ (0 < len → ∃ b off, ao = some ⟨b, off, none⟩ ∧ ∀ i x, xs[i]? = some x → ltrAt w b (off + i * 14) x)

structure Cls where
  h : Atm
  ao : Option Addr
  len : Nat
  cap : Nat
  ls : List Ltr
def Cls.at (c : Cls) (w : World) : Prop := c.h.at w ∧ IsLtrs w c.ao c.len c.ls
def Cls.val (c : Cls) : Value := .agg #[.string c.h.p, .slice c.h.ao c.h.len c.h.cap, .int .i64 c.h.off, .slice c.ao c.len c.cap]
def clsAt (w : World) (b off : Nat) (c : Cls) : Prop :=
  w.cell? ⟨b, off, none⟩ = some (.string c.h.p) ∧ w.cell? ⟨b, off + 1, none⟩ = some (.slice c.h.ao c.h.len c.h.cap) ∧ w.cell? ⟨b, off + 2, none⟩ = some (.int .i64 c.h.off) ∧ w.cell? ⟨b, off + 3, none⟩ = some (.slice c.ao c.len c.cap)
def IsClss (w : World) (ao : Option Addr) (len : Nat) (cs : List Cls) : Prop :=
  cs.length = len ∧ len * 64 ≤ 140737488351232 ∧ (∀ c ∈ cs, c.at w) ∧ (0 < len → ∃ b off, ao = some ⟨b, off, none⟩ ∧ ∀ i c, cs[i]? = some c → clsAt w b (off + i * 4) c)

theorem trmAt.kept {w w' : World} {b off : Nat} {t : Trm} (h : trmAt w b off t) (hb : Below w.heap.size w w') : trmAt w' b off t :=
  ⟨kept_cell hb h.1, kept_cell hb h.2.1, kept_cell hb h.2.2.1, kept_cell hb h.2.2.2⟩
theorem IsTrms.kept {w w' : World} {ao : Option Addr} {len : Nat} {ts : List Trm} (h : IsTrms w ao len ts) (hb : Below w.heap.size w w') : IsTrms w' ao len ts :=
  ⟨h.1, h.2.1, h.2.2.1, fun hl => by obtain ⟨b, off, e, hr⟩ := h.2.2.2 hl; exact ⟨b, off, e, fun i t ht => (hr i t ht).kept hb⟩⟩
theorem Atm.at.kept {w w' : World} {a : Atm} (h : a.at w) (hb : Below w.heap.size w w') : a.at w' := ⟨h.1, h.2.1, h.2.2.kept hb⟩
theorem Ltr.at.kept {w w' : World} {x : Ltr} (h : x.at w) (hb : Below w.heap.size w w') : x.at w' := ⟨h.1, h.2.1.kept hb, h.2.2.1, h.2.2.2.1, h.2.2.2.2.1, h.2.2.2.2.2⟩
theorem ltrAt.kept {w w' : World} {b off : Nat} {x : Ltr} (h : ltrAt w b off x) (hb : Below w.heap.size w w') : ltrAt w' b off x :=
  ⟨kept_cell hb h.1, kept_cell hb h.2.1, kept_cell hb h.2.2.1, kept_cell hb h.2.2.2.1, kept_cell hb h.2.2.2.2.1, h.2.2.2.2.2.1.kept hb, h.2.2.2.2.2.2.1.kept hb, kept_cell hb h.2.2.2.2.2.2.2⟩
theorem IsLtrs.kept {w w' : World} {ao : Option Addr} {len : Nat} {xs : List Ltr} (h : IsLtrs w ao len xs) (hb : Below w.heap.size w w') : IsLtrs w' ao len xs :=
  ⟨h.1, h.2.1, fun x hx => (h.2.2.1 x hx).kept hb, fun hl => by obtain ⟨b, off, e, hr⟩ := h.2.2.2 hl; exact ⟨b, off, e, fun i t ht => (hr i t ht).kept hb⟩⟩
theorem Cls.at.kept {w w' : World} {c : Cls} (h : c.at w) (hb : Below w.heap.size w w') : c.at w' := ⟨h.1.kept hb, h.2.kept hb⟩
theorem clsAt.kept {w w' : World} {b off : Nat} {c : Cls} (h : clsAt w b off c) (hb : Below w.heap.size w w') : clsAt w' b off c :=
  ⟨kept_cell hb h.1, kept_cell hb h.2.1, kept_cell hb h.2.2.1, kept_cell hb h.2.2.2⟩
theorem IsClss.kept {w w' : World} {ao : Option Addr} {len : Nat} {cs : List Cls} (h : IsClss w ao len cs) (hb : Below w.heap.size w w') : IsClss w' ao len cs :=
  ⟨h.1, h.2.1, fun x hx => (h.2.2.1 x hx).kept hb, fun hl => by obtain ⟨b, off, e, hr⟩ := h.2.2.2 hl; exact ⟨b, off, e, fun i t ht => (hr i t ht).kept hb⟩⟩
end Go.Proofs.YtnpmdepbfobebaaGreatDoor
