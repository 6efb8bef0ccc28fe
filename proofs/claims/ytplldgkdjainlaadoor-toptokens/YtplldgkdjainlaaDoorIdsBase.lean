/- A map from keys to numbers and a list of keys beside it, as an Ids has them, said of memory; what each operation does to it. Nothing of the program's own text. -/
import Derived.Test.YtplldgkdjainlaaDoorOver
import Derived.Maps.Own
import Derived.Maps.OwnOps
import Derived.Maps.OwnSet
import Derived.Maps.Views
import Derived.Laws.AppendOwn
import Derived.Lib.SliceRun
namespace Go.Proofs.YtplldgkdjainlaaDoor
set_option linter.unusedSimpArgs false
set_option linter.unusedVariables false
open Go.RowKit Go.Maps

/-- w' is w but for the blocks of S and for new ones. -/
structure Only (S : Nat → Prop) (w w' : World) : Prop where
  os : w'.os = w.os
  tape : w'.tape = w.tape
  output : w'.output = w.output
  size : w.heap.size ≤ w'.heap.size
  block : ∀ k, k < w.heap.size → ¬ S k → w'.heap[k]? = w.heap[k]?

theorem Only.refl (S : Nat → Prop) (w : World) : Only S w w := ⟨rfl, rfl, rfl, Nat.le_refl _, fun _ _ _ => rfl⟩
theorem Only.trans {S : Nat → Prop} {a b c : World} (h : Only S a b) (k : Only S b c) : Only S a c :=
  ⟨k.os.trans h.os, k.tape.trans h.tape, k.output.trans h.output, Nat.le_trans h.size k.size, fun i hi hs => (k.block i (Nat.lt_of_lt_of_le hi h.size) hs).trans (h.block i hi hs)⟩
theorem Only.mono {S S' : Nat → Prop} {w w' : World} (h : Only S w w') (hs : ∀ k, k < w.heap.size → S k → S' k) : Only S' w w' :=
  ⟨h.os, h.tape, h.output, h.size, fun i hi hn => h.block i hi (fun h' => hn (hs i hi h'))⟩
theorem Only.below {S : Nat → Prop} {w w' : World} {B : Nat} (h : Only S w w') (hB : B ≤ w.heap.size) (hs : ∀ k, k < B → ¬ S k) : Below B w w' :=
  ⟨h.os, h.tape, h.output, h.size, fun k hk => h.block k (Nat.lt_of_lt_of_le hk hB) (hs k hk)⟩
theorem Only.of_below {w w' : World} (h : Below w.heap.size w w') (S : Nat → Prop) : Only S w w' := ⟨h.os, h.tape, h.output, h.size, fun k hk _ => h.block k hk⟩
theorem Only.alloc {S : Nat → Prop} {a w : World} (h : Only S a w) (o : Obj) : Only S a (w.alloc o) :=
  h.trans (Only.of_below ((Below.refl _ _).alloc (Nat.le_refl _) _) S)
theorem Only.drew {S : Nat → Prop} {a w : World} (h : Only S a w) : Only S a w.drew := ⟨h.os, h.tape, h.output, h.size, h.block⟩
theorem Only.setCell {S : Nat → Prop} {a w : World} (h : Only S a w) {p : Addr} (hp : S p.block) (u : Value) : Only S a (w.setCell p u) :=
  h.trans ⟨rfl, rfl, rfl, by simp [World.setCell], fun k _ hn => Below.heap_setCell _ _ _ _ (fun e => hn (e ▸ hp))⟩
theorem Only.grown {S : Nat → Prop} {a w w' : World} {row : Option Nat} (h : Only S a w) (hg : w.grownBy w' row) (hr : ∀ k, row = some k → k < a.heap.size → S k) : Only S a w' :=
  ⟨hg.os.trans h.os, hg.tape.trans h.tape, hg.output.trans h.output, Nat.le_trans h.size hg.size, fun k hk hn =>
    (hg.block k (Nat.lt_of_lt_of_le hk h.size) (fun e => hn (hr k e.symm hk))).trans (h.block k hk hn)⟩
theorem Only.cell {S : Nat → Prop} {w w' : World} {a : Addr} {v : Value} (h : Only S w w') (hc : w.cell? a = some v) (hs : ¬ S a.block) : w'.cell? a = some v := by
  rw [World.cell?_of_block (w := w) (h.block a.block (lt_of_cell hc) hs)]; exact hc

section
variable {P : Program} {tk te t : TypeId} {w w' : World} {m n : Nat} {R : Lit → Nat → Prop}

/-- Block m is a map of at most n entries: the key l has the number i just where R says so. -/
def MapIs (P : Program) (tk te : TypeId) (w : World) (m n : Nat) (R : Lit → Nat → Prop) : Prop :=
  ∃ D : DataW Unit, w.ownsMap P tk (plainElem P te) m n D ∧ (∀ l i, R l i → Maps.has D l = true ∧ D.atKey l (.lit (.int .i64 0)) = .lit (.int .i64 i)) ∧ (∀ l, (∀ i, ¬ R l i) → Maps.has D l = false)

theorem MapIs.made (P : Program) (tk te : TypeId) (w : World) (R : Lit → Nat → Prop) (hR : ∀ l i, ¬ R l i) : MapIs P tk te (w.alloc (.map #[] 0)) w.heap.size 0 R :=
  ⟨.map [], World.ownsMap_made w P tk _, fun l i h => absurd h (hR l i), fun l _ => rfl⟩

theorem MapIs.mono {n' : Nat} (h : MapIs P tk te w m n R) (hn : n ≤ n') : MapIs P tk te w m n' R := by
  obtain ⟨D, h1, h2, h3⟩ := h
  exact ⟨D, h1.mono hn, h2, h3⟩

theorem MapIs.congr {R' : Lit → Nat → Prop} (h : MapIs P tk te w m n R) (hR : ∀ l i, R l i ↔ R' l i) : MapIs P tk te w m n R' := by
  have : R = R' := by funext l i; exact propext (hR l i)
  rw [← this]; exact h

theorem MapIs.block (h : MapIs P tk te w m n R) : ∃ es clock, w.heap[m]? = some (.map es clock) := by
  obtain ⟨D, ⟨es, clock, h1, _⟩, _⟩ := h
  exact ⟨es, clock, h1⟩

theorem MapIs.lt (h : MapIs P tk te w m n R) : m < w.heap.size := by
  obtain ⟨D, h1, _⟩ := h
  exact h1.lt

theorem MapIs.same (h : MapIs P tk te w m n R) (hb : w'.heap[m]? = w.heap[m]?) : MapIs P tk te w' m n R := by
  obtain ⟨D, ⟨es, clock, h1, h4⟩, h2, h3⟩ := h
  exact ⟨D, ⟨es, clock, by rw [hb]; exact h1, h4⟩, h2, h3⟩

theorem MapIs.only {S : Nat → Prop} (h : MapIs P tk te w m n R) (ho : Only S w w') (hs : ¬ S m) : MapIs P tk te w' m n R := h.same (ho.block m h.lt hs)
theorem MapIs.setCell (h : MapIs P tk te w m n R) {a : Addr} (ha : m ≠ a.block) (u : Value) : MapIs P tk te (w.setCell a u) m n R := h.same (Below.heap_setCell _ _ _ _ ha)

theorem MapIs.look_some (h : MapIs P tk te w m n R) (K : Keyed P tk) (ht : P.underlying t = some (.map tk te)) (he : P.underlying te = some (.int .i64)) (hz : (zeroValue te).run P w = .ok (.int .i64 0) w)
    {key : Value} {l : Lit} (hkey : keyOf P tk key = some l) {i : Nat} (hr : R l i) : (Instr.lookup t (.map (some m)) key true).run P w = .ok (.tuple #[.int .i64 i, .bool true]) w := by
  obtain ⟨D, h1, h2, _⟩ := h
  obtain ⟨v, ps, hrun, hv⟩ := h1.look_ok K ht hz (plainElem_int he (by decide)) hkey
  obtain ⟨g1, g2⟩ := h2 l i hr
  rw [g1] at hrun
  rw [g2] at hv
  obtain ⟨a, rfl, hx, _⟩ := plainElem_int_inv he hv
  simp only [Prod.mk.injEq, DataW.lit.injEq, Lit.int.injEq, true_and] at hx
  rw [hrun, ← hx.1]

theorem MapIs.look_none (h : MapIs P tk te w m n R) (K : Keyed P tk) (ht : P.underlying t = some (.map tk te)) (he : P.underlying te = some (.int .i64)) (hz : (zeroValue te).run P w = .ok (.int .i64 0) w)
    {key : Value} {l : Lit} (hkey : keyOf P tk key = some l) (hr : ∀ i, ¬ R l i) : (Instr.lookup t (.map (some m)) key true).run P w = .ok (.tuple #[.int .i64 0, .bool false]) w := by
  obtain ⟨D, h1, _, h3⟩ := h
  obtain ⟨v, ps, hrun, hv⟩ := h1.look_ok K ht hz (plainElem_int he (by decide)) hkey
  have g1 := h3 l hr
  rw [g1] at hrun
  rw [Maps.atKey_of_not_has g1] at hv
  obtain ⟨a, rfl, hx, _⟩ := plainElem_int_inv he hv
  simp only [Prod.mk.injEq, DataW.lit.injEq, Lit.int.injEq, true_and] at hx
  rw [hrun, ← hx.1]

theorem MapIs.store (h : MapIs P tk te w m n R) (K : Keyed P tk) (ht : P.underlying t = some (.map tk te)) (he : P.underlying te = some (.int .i64)) (hn : n < maxLen)
    {key : Value} {l : Lit} (hkey : keyOf P tk key = some l) {i : Nat} (hi : (Lit.int .i64 i).wf = true) (R' : Lit → Nat → Prop) (h1 : ∀ j, R' l j ↔ j = i) (h2 : ∀ l', l' ≠ l → ∀ j, R' l' j ↔ R l' j) :
    ∃ w', (Instr.mapUpdate t (.map (some m)) key (.int .i64 i)).run P w = .ok () w' ∧ MapIs P tk te w' m (n + 1) R' ∧ Only (fun k => k = m) w w' := by
  obtain ⟨D, g1, g2, g3⟩ := h
  obtain ⟨w', hrun, hown, hturn⟩ := g1.store K ht hn hkey (plainElem_int he hi)
  have hg := hturn.grown
  refine ⟨w', hrun, ⟨_, hown, ?_, ?_⟩, hg.os, hg.tape, hg.output, hg.size, fun k hk hne => hg.block k hk (by simpa using hne)⟩
  · intro l' j hj
    by_cases e : l' = l
    · subst e
      have := (h1 j).1 hj
      subst this
      exact ⟨has_put_same g1.isMap (K.key hkey) _, atKey_put_same g1.isMap (K.key hkey) _ _⟩
    · obtain ⟨a1, a2⟩ := g2 l' j ((h2 l' e j).1 hj)
      exact ⟨by rw [has_put_other e]; exact a1, by rw [atKey_put_other e]; exact a2⟩
  · intro l' hl'
    by_cases e : l' = l
    · subst e; exact absurd ((h1 i).2 rfl) (hl' i)
    · rw [has_put_other e]; exact g3 l' (fun j hj => hl' j ((h2 l' e j).2 hj))

theorem MapIs.drop (h : MapIs P tk te w m n R) (K : Keyed P tk) (ht : P.underlying t = some (.map tk te)) {key : Value} {l : Lit} (hkey : keyOf P tk key = some l) (ty : TypeId)
    (R' : Lit → Nat → Prop) (h1 : ∀ j, ¬ R' l j) (h2 : ∀ l', l' ≠ l → ∀ j, R' l' j ↔ R l' j) :
    ∃ w', (Builtin.delete_ #[t, tk] ty #[.map (some m), key]).run P w = .ok (.tuple #[]) w' ∧ MapIs P tk te w' m n R' ∧ Only (fun k => k = m) w w' := by
  obtain ⟨D, g1, g2, g3⟩ := h
  obtain ⟨w', hrun, hown, hturn⟩ := g1.drop K ht hkey ty
  have hg := hturn.grown
  refine ⟨w', hrun, ⟨_, hown, ?_, ?_⟩, hg.os, hg.tape, hg.output, hg.size, fun k hk hne => hg.block k hk (by simpa using hne)⟩
  · intro l' j hj
    by_cases e : l' = l
    · subst e; exact absurd hj (h1 j)
    · obtain ⟨a1, a2⟩ := g2 l' j ((h2 l' e j).1 hj)
      exact ⟨by rw [has_del_other e]; exact a1, by rw [atKey_del_other e]; exact a2⟩
  · intro l' hl'
    by_cases e : l' = l
    · subst e; exact has_del_same
    · rw [has_del_other e]; exact g3 l' (fun j hj => hl' j ((h2 l' e j).2 hj))
end

section
variable {α : Type}
/-- The place of a key in the list. -/
def keyAt (lit : α → Lit) (ks : List α) (l : Lit) (i : Nat) : Prop := ∃ k, ks[i]? = some k ∧ lit k = l

/-- An Ids: at block p its two fields, a list of the keys ks and the map m of their places. -/
structure IdsAt (P : Program) (tk te ts : TypeId) (size : Nat) (cells : α → List Value) (lit : α → Lit) (base : Nat) (w : World) (p m n : Nat) (ao : Option Addr) (cap : Nat) (ks : List α) : Prop where
  fields : w.heap[p]? = some (.cells #[.slice ao ks.length cap, .map (some m)] ts (0, 0))
  hp : base ≤ p
  hm : base ≤ m
  row : w.ownsRow base tk size (.slice ao ks.length cap) ks.length (ks.flatMap cells)
  map : MapIs P tk te w m n (keyAt lit ks)

variable {P : Program} {tk te ts : TypeId} {size : Nat} {cells : α → List Value} {lit : α → Lit} {base : Nat} {w w' : World} {p m n : Nat} {ao : Option Addr} {cap : Nat} {ks : List α}

/-- The blocks of an Ids. -/
def foot (p m : Nat) (ao : Option Addr) (k : Nat) : Prop := k = p ∨ k = m ∨ ∃ a, ao = some a ∧ k = a.block

theorem IdsAt.c0 (h : IdsAt P tk te ts size cells lit base w p m n ao cap ks) : w.cell? ⟨p, 0, none⟩ = some (.slice ao ks.length cap) := by simp [World.cell?, h.fields]
theorem IdsAt.c1 (h : IdsAt P tk te ts size cells lit base w p m n ao cap ks) : w.cell? ⟨p, 1, none⟩ = some (.map (some m)) := by simp [World.cell?, h.fields]
theorem IdsAt.f0 (h : IdsAt P tk te ts size cells lit base w p m n ao cap ks) : w.frozen? ⟨p, 0, none⟩ = false := by simp [World.frozen?, h.fields]
theorem IdsAt.plt (h : IdsAt P tk te ts size cells lit base w p m n ao cap ks) : p < w.heap.size := lt_of_cell h.c0

theorem IdsAt.pm (h : IdsAt P tk te ts size cells lit base w p m n ao cap ks) : m ≠ p := by
  obtain ⟨es, clock, hb⟩ := h.map.block
  intro e
  rw [e, h.fields] at hb
  exact absurd hb (by simp)

theorem IdsAt.rp (h : IdsAt P tk te ts size cells lit base w p m n ao cap ks) (ht : tk ≠ ts) : ∀ a, ao = some a → a.block ≠ p ∧ a.block ≠ m ∧ base ≤ a.block ∧ a.block < w.heap.size := by
  intro a ha
  subst ha
  rcases h.row.2 with ⟨e, _⟩ | ⟨g, cap', cur, e, hb, hh, _⟩
  · exact absurd e (by simp)
  · simp only [Value.slice.injEq, Option.some.injEq] at e
    obtain ⟨rfl, _, _⟩ := e
    refine ⟨fun e => ?_, fun e => ?_, hb, (Array.getElem?_eq_some_iff.1 hh).1⟩
    · simp only at e
      rw [e, h.fields] at hh
      simp only [Option.some.injEq, Obj.cells.injEq] at hh
      exact ht hh.2.1.symm
    · obtain ⟨es, clock, hb⟩ := h.map.block
      simp only at e
      rw [e, hb] at hh
      exact absurd hh (by simp)

theorem IdsAt.only {S : Nat → Prop} (h : IdsAt P tk te ts size cells lit base w p m n ao cap ks) (ho : Only S w w') (h1 : ¬ S p) (h2 : ¬ S m) (h3 : ∀ a, ao = some a → ¬ S a.block) : IdsAt P tk te ts size cells lit base w' p m n ao cap ks where
  fields := by rw [ho.block p h.plt h1]; exact h.fields
  hp := h.hp
  hm := h.hm
  row := by
    refine ⟨h.row.1, ?_⟩
    rcases h.row.2 with hn | ⟨g, cap', cur, e, hb, hh, rest⟩
    · exact .inl hn
    · refine .inr ⟨g, cap', cur, e, hb, ?_, rest⟩
      simp only [Value.slice.injEq] at e
      rw [ho.block g (Array.getElem?_eq_some_iff.1 hh).1 (h3 _ e.1)]
      exact hh
  map := h.map.only ho h2

theorem IdsAt.mono {n' : Nat} (h : IdsAt P tk te ts size cells lit base w p m n ao cap ks) (hn : n ≤ n') : IdsAt P tk te ts size cells lit base w p m n' ao cap ks := { h with map := h.map.mono hn }

theorem keyAt_snoc_same {k : α} (inj : ∀ k', k' ∈ ks → lit k' ≠ lit k) (j : Nat) : keyAt lit (ks ++ [k]) (lit k) j ↔ j = ks.length := by
  constructor
  · rintro ⟨k', h1, h2⟩
    rcases Nat.lt_or_ge j ks.length with hj | hj
    · rw [List.getElem?_append_left hj] at h1
      exact absurd h2 (inj k' (List.mem_of_getElem? h1))
    · rcases Nat.lt_or_ge ks.length j with h | h
      · rw [List.getElem?_eq_none (by simp; omega)] at h1; exact absurd h1 (by simp)
      · omega
  · rintro rfl
    exact ⟨k, by simp, rfl⟩

theorem keyAt_snoc_other {k : α} {l : Lit} (hl : l ≠ lit k) (j : Nat) : keyAt lit (ks ++ [k]) l j ↔ keyAt lit ks l j := by
  constructor
  · rintro ⟨k', h1, h2⟩
    rcases Nat.lt_or_ge j ks.length with hj | hj
    · rw [List.getElem?_append_left hj] at h1; exact ⟨k', h1, h2⟩
    · rcases Nat.lt_or_ge ks.length j with h | h
      · rw [List.getElem?_eq_none (by simp; omega)] at h1; exact absurd h1 (by simp)
      · obtain rfl : j = ks.length := by omega
        simp only [List.getElem?_concat_length, Option.some.injEq] at h1
        subst h1
        exact absurd h2.symm hl
  · rintro ⟨k', h1, h2⟩
    have hj : j < ks.length := (List.getElem?_eq_some_iff.1 h1).1
    exact ⟨k', by rw [List.getElem?_append_left hj]; exact h1, h2⟩

/-- BEHIND THE APPEND OF A NEW KEY AND THE STORE OF THE NEW LIST: the map does not know the key yet. -/
structure IdsMid (P : Program) (tk te ts : TypeId) (size : Nat) (cells : α → List Value) (lit : α → Lit) (base : Nat) (w wx : World) (p m n : Nat) (ao : Option Addr) (g cap' : Nat) (ks : List α) (k : α) : Prop where
  fields : wx.heap[p]? = some (.cells #[.slice (some ⟨g, 0, none⟩) (ks.length + 1) cap', .map (some m)] ts (0, 0))
  hp : base ≤ p
  hm : base ≤ m
  gp : g ≠ p
  gm : g ≠ m
  pm : m ≠ p
  row : wx.ownsRow base tk size (.slice (some ⟨g, 0, none⟩) (ks.length + 1) cap') (ks.length + 1) (ks.flatMap cells ++ cells k)
  map : MapIs P tk te wx m n (keyAt lit ks)
  only : Only (foot p m ao) w wx
  new : ∀ a, some (⟨g, 0, none⟩ : Addr) = some a → ao = some a ∨ w.heap.size ≤ a.block

theorem IdsMid.same {wx wy : World} {g cap' : Nat} {k : α} (h : IdsMid P tk te ts size cells lit base w wx p m n ao g cap' ks k) (ho : Below wx.heap.size wx wy) : IdsMid P tk te ts size cells lit base w wy p m n ao g cap' ks k where
  fields := by
    rw [ho.block p (lt_of_cell (a := ⟨p, 0, none⟩) (v := .slice (some ⟨g, 0, none⟩) (ks.length + 1) cap') (by simp [World.cell?, h.fields]))]; exact h.fields
  hp := h.hp
  hm := h.hm
  gp := h.gp
  gm := h.gm
  pm := h.pm
  row := h.row.kept (row := none) ⟨ho.os, ho.tape, ho.output, ho.size, fun k hk _ => ho.block k hk⟩ (.inr (by simp [Value.ownBlock]))
  map := h.map.same (ho.block m h.map.lt)
  only := h.only.trans (Only.of_below ho _)
  new := h.new

theorem IdsMid.c1 {wx : World} {g cap' : Nat} {k : α} (h : IdsMid P tk te ts size cells lit base w wx p m n ao g cap' ks k) : wx.cell? ⟨p, 1, none⟩ = some (.map (some m)) := by simp [World.cell?, h.fields]

theorem IdsMid.finish {wx : World} {g cap' : Nat} {k : α} (h : IdsMid P tk te ts size cells lit base w wx p m n ao g cap' ks k) (K : Keyed P tk) {t : TypeId} (ht : P.underlying t = some (.map tk te)) (he : P.underlying te = some (.int .i64)) (hn : n < maxLen)
    {len : Nat} (hlen : len = ks.length) (hl : len < 9223372036854775807) {key : Value} (hkey : keyOf P tk key = some (lit k)) (inj : ∀ k', k' ∈ ks → lit k' ≠ lit k) :
    ∃ w2, (Instr.mapUpdate t (.map (some m)) key (.int .i64 len)).run P wx = .ok () w2 ∧
      IdsAt P tk te ts size cells lit base w2 p m (n + 1) (some ⟨g, 0, none⟩) cap' (ks ++ [k]) ∧ Only (foot p m ao) w w2 ∧ (∀ a, some (⟨g, 0, none⟩ : Addr) = some a → ao = some a ∨ w.heap.size ≤ a.block) := by
  subst hlen
  obtain ⟨w2, hup, hM2, hO2⟩ := h.map.store (t := t) K ht he hn hkey (i := ks.length) (WalkArith.wf_i64 (by omega)) (keyAt lit (ks ++ [k])) (keyAt_snoc_same inj) (fun l' hl' j => keyAt_snoc_other hl' j)
  have hplt : p < wx.heap.size := lt_of_cell (a := ⟨p, 1, none⟩) h.c1
  refine ⟨w2, hup, ⟨?_, h.hp, h.hm, ?_, hM2⟩, h.only.trans (hO2.mono (fun k' _ e => .inr (.inl e))), h.new⟩
  · rw [hO2.block p hplt (fun e => h.pm e.symm), h.fields]; simp
  · refine ⟨by rw [List.flatMap_append, List.flatMap_singleton, List.length_append]; have := h.row.1; simpa using this, ?_⟩
    rcases h.row.2 with ⟨e, _⟩ | ⟨g', cap'', cur, e, hb, hh, r1, r2, r3, r4⟩
    · exact absurd e (by simp)
    · simp only [Value.slice.injEq, Option.some.injEq, Addr.mk.injEq] at e
      obtain ⟨⟨rfl, _, _⟩, _, rfl⟩ := e
      refine .inr ⟨g, cap', cur, by simp, hb, ?_, by simpa using r1, r2, r3, ?_⟩
      · rw [hO2.block g (Array.getElem?_eq_some_iff.1 hh).1 h.gm]; exact hh
      · rw [List.flatMap_append, List.flatMap_singleton]; simpa using r4

/-- BEHIND THE APPEND: what the store of the new list reads, and what it leaves. -/
theorem IdsAt.pushed (h : IdsAt P tk te ts size cells lit base w p m n ao cap ks) (htt : tk ≠ ts)
    {len : Nat} (hlen : len = ks.length) {k : α}
    {w0 w1 : World} {g cap' : Nat} (h0 : Below w.heap.size w w0) (hown1 : w1.ownsRow base tk size (.slice (some ⟨g, 0, none⟩) (len + 1) cap') (len + 1) (ks.flatMap cells ++ cells k))
    (hgrow : w0.grownBy w1 (Value.slice ao len cap).ownBlock) (hat : (Value.slice ao len cap).ownBlock = some g ∨ w.heap.size ≤ g) :
    w1.frozen? ⟨p, 0, none⟩ = false ∧ w1.cell? ⟨p, 0, none⟩ = some (.slice ao len cap) ∧ w1.cell? ⟨p, 1, none⟩ = some (.map (some m)) ∧ p < w.heap.size ∧ p < w1.heap.size ∧
    IdsMid P tk te ts size cells lit base w (w1.setCell ⟨p, 0, none⟩ (.slice (some ⟨g, 0, none⟩) (len + 1) cap')) p m n ao g cap' ks k := by
  subst hlen
  have hplt := h.plt
  have hmlt := h.map.lt
  have hne : some p ≠ (Value.slice ao ks.length cap).ownBlock := by
    cases ao with
    | none => simp [Value.ownBlock]
    | some a => simp only [Value.ownBlock, ne_eq, Option.some.injEq]; exact fun e => (h.rp htt a rfl).1 e.symm
  have hnem : some m ≠ (Value.slice ao ks.length cap).ownBlock := by
    cases ao with
    | none => simp [Value.ownBlock]
    | some a => simp only [Value.ownBlock, ne_eq, Option.some.injEq]; exact fun e => (h.rp htt a rfl).2.1 e.symm
  have hs0 := h0.size
  have hb1 : w1.heap[p]? = some (.cells #[.slice ao ks.length cap, .map (some m)] ts (0, 0)) := by
    rw [hgrow.block p (by omega) hne, h0.block p hplt, h.fields]
  have hbm : w1.heap[m]? = w.heap[m]? := by
    rw [hgrow.block m (by omega) hnem, h0.block m hmlt]
  have hM1 : MapIs P tk te (w1.setCell ⟨p, 0, none⟩ (.slice (some ⟨g, 0, none⟩) (ks.length + 1) cap')) m n (keyAt lit ks) := (h.map.same hbm).setCell h.pm _
  have hs1 := hgrow.size
  have hgp : g ≠ p := by
    rcases hat with e | e
    · intro e'; exact hne (by rw [e, e'])
    · omega
  have hgm : g ≠ m := by
    rcases hat with e | e
    · intro e'; exact hnem (by rw [e, e'])
    · omega
  refine ⟨by simp [World.frozen?, hb1], by simp [World.cell?, hb1], by simp [World.cell?, hb1], hplt, by omega, ⟨?_, h.hp, h.hm, hgp, hgm, h.pm, ?_, hM1, ?_, ?_⟩⟩
  · simp [World.setCell, Array.getElem?_modify, hb1]
  · refine ⟨hown1.1, ?_⟩
    rcases hown1.2 with ⟨e, _⟩ | ⟨g', cap'', cur, e, hb, hh, r1, r2, r3, r4⟩
    · exact absurd e (by simp)
    · simp only [Value.slice.injEq, Option.some.injEq, Addr.mk.injEq] at e
      obtain ⟨⟨rfl, _, _⟩, _, rfl⟩ := e
      exact .inr ⟨g, cap', cur, rfl, hb, by rw [Below.heap_setCell _ _ _ _ hgp]; exact hh, r1, r2, r3, r4⟩
  · have o1 : Only (foot p m ao) w w1 := (Only.of_below h0 _).grown hgrow (fun q hq _ => by
      cases ao with
      | none => simp [Value.ownBlock] at hq
      | some a => simp only [Value.ownBlock, Option.some.injEq] at hq; exact .inr (.inr ⟨a, rfl, hq.symm⟩))
    exact o1.setCell (p := ⟨p, 0, none⟩) (.inl rfl) (.slice (some ⟨g, 0, none⟩) (ks.length + 1) cap')
  · intro a ha
    simp only [Option.some.injEq] at ha
    subst ha
    rcases hat with e | e
    · cases ao with
      | none => simp [Value.ownBlock] at e
      | some a =>
        have hz : a = ⟨g, 0, none⟩ := by
          rcases h.row.2 with ⟨e2, _⟩ | ⟨g2, _, _, e2, _⟩
          · exact absurd e2 (by simp)
          · simp only [Value.slice.injEq, Option.some.injEq] at e2
            simp only [Value.ownBlock, Option.some.injEq] at e
            rw [e2.1] at e ⊢
            simp only at e
            rw [e]
        exact .inl (by rw [hz])
    · exact .inr e

theorem IdsAt.made (P : Program) (tk te ts : TypeId) (size : Nat) (cells : α → List Value) (lit : α → Lit) (base : Nat) (w : World) (hb : base ≤ w.heap.size) :
    IdsAt P tk te ts size cells lit base ((w.alloc (.map #[] 0)).alloc (.cells #[.slice none 0 0, .map (some w.heap.size)] ts)) (w.heap.size + 1) w.heap.size 0 none 0 [] where
  fields := by
    have := heap_alloc_new (w.alloc (.map #[] 0)) (.cells #[.slice none 0 0, .map (some w.heap.size)] ts)
    simpa using this
  hp := by omega
  hm := hb
  row := World.ownsRow_nil _ _ _ _
  map := (MapIs.made P tk te w (keyAt lit []) (fun l i ⟨k, h, _⟩ => by simp at h)).same (Below.heap_alloc _ _ _ (by simp))

theorem IdsAt.kind (h : IdsAt P tk te ts size cells lit base w p m n ao cap ks) {k : Nat} (hk : foot p m ao k) :
    (∃ c, w.heap[k]? = some (.cells c ts (0, 0))) ∨ k = m ∨ (∃ c, w.heap[k]? = some (.cells c tk (0, 0))) := by
  rcases hk with rfl | rfl | ⟨a, e, rfl⟩
  · exact .inl ⟨_, h.fields⟩
  · exact .inr (.inl rfl)
  · subst e
    rcases h.row.2 with ⟨e, _⟩ | ⟨g, cap', cur, e, hb, hh, _⟩
    · exact absurd e (by simp)
    · simp only [Value.slice.injEq, Option.some.injEq] at e
      obtain ⟨rfl, _, _⟩ := e
      exact .inr (.inr ⟨_, hh⟩)

theorem IdsAt.apart {β : Type} {tk' te' ts' : TypeId} {size' : Nat} {cells' : β → List Value} {lit' : β → Lit} {base' : Nat} {p' m' n' : Nat} {ao' : Option Addr} {cap' : Nat} {ks' : List β}
    (h : IdsAt P tk te ts size cells lit base w p m n ao cap ks) (h' : IdsAt P tk' te' ts' size' cells' lit' base' w p' m' n' ao' cap' ks') (h1 : tk ≠ tk') (h2 : ts ≠ ts') (h3 : tk ≠ ts') (h4 : ts ≠ tk') (hm : m ≠ m') (k : Nat) (hk : foot p m ao k) : ¬ foot p' m' ao' k := by
  intro hk'
  have a := h.kind hk
  have b := h'.kind hk'
  obtain ⟨es, cl, hb⟩ := h.map.block
  obtain ⟨es', cl', hb'⟩ := h'.map.block
  rcases a with ⟨c, a⟩ | rfl | ⟨c, a⟩ <;> rcases b with ⟨c', b⟩ | rfl | ⟨c', b⟩
  all_goals first | (rw [a] at b; simp only [Option.some.injEq, Obj.cells.injEq] at b; first | exact h2 b.2.1 | exact h4 b.2.1 | exact h3 b.2.1 | exact h1 b.2.1) | (rw [a] at hb'; exact absurd hb' (by simp)) | (rw [b] at hb; exact absurd hb (by simp)) | exact hm rfl

theorem IdsAt.keep {β : Type} {tk' te' ts' : TypeId} {size' : Nat} {cells' : β → List Value} {lit' : β → Lit} {base' : Nat} {p' m' n' : Nat} {ao' : Option Addr} {cap' : Nat} {ks' : List β}
    (h : IdsAt P tk te ts size cells lit base w p m n ao cap ks) (h' : IdsAt P tk' te' ts' size' cells' lit' base' w p' m' n' ao' cap' ks') (h1 : tk ≠ tk') (h2 : ts ≠ ts') (h3 : tk ≠ ts') (h4 : ts ≠ tk') (hm : m ≠ m')
    (ho : Only (foot p m ao) w w') : IdsAt P tk' te' ts' size' cells' lit' base' w' p' m' n' ao' cap' ks' :=
  h'.only ho (fun hf => h.apart h' h1 h2 h3 h4 hm _ hf (.inl rfl)) (fun hf => h.apart h' h1 h2 h3 h4 hm _ hf (.inr (.inl rfl))) (fun a ha hf => h.apart h' h1 h2 h3 h4 hm _ hf (.inr (.inr ⟨a, ha, rfl⟩)))

theorem IdsAt.foot_lt (h : IdsAt P tk te ts size cells lit base w p m n ao cap ks) (htt : tk ≠ ts) {k : Nat} (hk : foot p m ao k) : k < w.heap.size ∧ base ≤ k := by
  rcases hk with rfl | rfl | ⟨a, e, rfl⟩
  · exact ⟨h.plt, h.hp⟩
  · exact ⟨h.map.lt, h.hm⟩
  · exact ⟨(h.rp htt a e).2.2.2, (h.rp htt a e).2.2.1⟩

theorem IdsAt.grow (h : IdsAt P tk te ts size cells lit base w p m n ao cap ks) (hb : Below w.heap.size w w') : IdsAt P tk te ts size cells lit base w' p m n ao cap ks :=
  h.only (Only.of_below hb (fun _ => False)) id id (fun _ _ => id)
end
end Go.Proofs.YtplldgkdjainlaaDoor
