/- 'append(v, x...)' where v is a row of one's own and x is whatever slice: nil, empty, or a row: one law for all. Lists in memory, whatever their elements: what holds of one as memory turns elsewhere; a list of one's own that grows by append; a row that is filled place by place. The plain types of the program as they lie in memory: slots, tests, patterns, rules, rows, predicates, constants, terms, atoms, literals, clauses. One element more behind a list of one's own that grows by append. What the loop of an atom's terms keeps in memory. What a rule of parse's grammar leaves is no longer than what it began with. The tokens of a text: how many there are, and that their parts are small. Where parse's grammar gives up, the fault has a code. A program of facts without variables, and a facts text: the same over the same tokens. Tokens of a text that stands behind another: the same tokens, each as much further on; and the grammar over them. A query against a program of one clause with that body. Tokens that spell a tree of the grammar are read as that tree. -/
import Derived.Test.YtchhophblejmeaaGreatDoorOver
import Derived.Laws.AppendOwnNone
import Derived.Deep.AppendLies
import Derived.WalkKit
import Derived.Test.YtchhophblejmeaaGreatDoorPkB3
import Derived.Test.YtchhophblejmeaaGreatDoorOpen
import Derived.Test.YtchhophblejmeaaGreatDoorProg
import Derived.Test.YtchhophblejmeaaGreatDoorPkB2

namespace Go.Proofs.YtchhophblejmeaaGreatDoor
set_option linter.unusedSimpArgs false
set_option linter.unusedVariables false
open Go.RowKit

section
variable {P : Program} {w : World} {o : Oper} {a : Act} {Q : Exit → Act → World → Prop}

theorem wp_append_any {K : Act → World → Prop} (s x : Operand) (t : TypeId)
    (ho : o.op = .call { callee := .builtin .append, args := #[s, x], argTypes := #[t, t] })
    (base : Nat) (e : TypeId) (i : TypeInfo) (z : Value) (size bytes : Nat) (ht : P.underlying t = some (.slice e)) (hi : P.info? e = some i) (hz : i.zero = some z)
    (hsize : i.size = size) (hby : i.bytes = bytes) (hzs : z.cells.size = size) (hsz : 0 < size)
    (v : Value) (n : Nat) (xs : List Value) (hs : a.eval s = v) (hown : w.ownsRow base e size v n xs)
    (ao : Option Addr) (m c : Nat) (news : List Value) (hx : a.eval x = .slice ao m c) (hnone : ao = none → m = 0 ∧ c = 0) (hl : news.length = m * size)
    (hnews : ∀ ad, ao = some ad → ∀ j u, news[j]? = some u → w.cell? (ad.add j) = some u) (h1 : ∀ u ∈ news, u.oneCell' = true)
    (h63 : n + m ≤ maxLen) (hbytes : (n + m) * bytes ≤ 140737488355328) (hbase : base ≤ w.heap.size)
    (h : ∀ v' w', w'.ownsRow base e size v' (n + m) (xs ++ news) → w.grownBy w' v.ownBlock → K (a.put o.dst v') w') : o.wp P a w K Q := by
  cases ao with
  | some ad =>
    obtain ⟨v', w', hr, h2, h3, h4⟩ := run_append_own (P := P) w base t o.type e i z size bytes ht hi hz hsize hby hzs hsz v n xs hown ad m c news hl (hnews ad rfl) h1 h63 hbytes hbase
    unfold Oper.wp execOp
    simp only [ho, resolve, invoke, builtin, Sem.run_bind, Sem.run_pure, Result.andThen_ok, List.map_toArray, List.map_cons, List.map_nil, hs, hx, hr]
    exact h v' w' h2 h3
  | none =>
    obtain ⟨rfl, rfl⟩ := hnone rfl
    obtain rfl : news = [] := List.eq_nil_of_length_eq_zero (by simpa using hl)
    have hrun := run_append_owned_none (P := P) (w := w) base t o.type e i size ht hi v n xs hown
    unfold Oper.wp execOp
    simp only [ho, resolve, invoke, builtin, Sem.run_bind, Sem.run_pure, Result.andThen_ok, List.map_toArray, List.map_cons, List.map_nil, hs, hx, hrun]
    exact h v w (by simpa using hown) ⟨rfl, rfl, rfl, Nat.le_refl _, fun _ _ _ => rfl⟩

theorem wpList_append_any {ops : Array Oper} {rest : List Oper} (hgd : o.guard = none) (s x : Operand) (t : TypeId)
    (ho : o.op = .call { callee := .builtin .append, args := #[s, x], argTypes := #[t, t] })
    (base : Nat) (e : TypeId) (i : TypeInfo) (z : Value) (size bytes : Nat) (ht : P.underlying t = some (.slice e)) (hi : P.info? e = some i) (hz : i.zero = some z)
    (hsize : i.size = size) (hby : i.bytes = bytes) (hzs : z.cells.size = size) (hsz : 0 < size)
    (v : Value) (n : Nat) (xs : List Value) (hs : a.eval s = v) (hown : w.ownsRow base e size v n xs)
    (ao : Option Addr) (m c : Nat) (news : List Value) (hx : a.eval x = .slice ao m c) (hnone : ao = none → m = 0 ∧ c = 0) (hl : news.length = m * size)
    (hnews : ∀ ad, ao = some ad → ∀ j u, news[j]? = some u → w.cell? (ad.add j) = some u) (h1 : ∀ u ∈ news, u.oneCell' = true)
    (h63 : n + m ≤ maxLen) (hbytes : (n + m) * bytes ≤ 140737488355328) (hbase : base ≤ w.heap.size)
    (h : ∀ v' w', w'.ownsRow base e size v' (n + m) (xs ++ news) → w.grownBy w' v.ownBlock → wpList P ops Q rest (a.put o.dst v') w') : wpList P ops Q (o :: rest) a w :=
  wpList_plain hgd fun _ hK => wp_append_any s x t ho base e i z size bytes ht hi hz hsize hby hzs hsz v n xs hs hown ao m c news hx hnone hl hnews h1 h63 hbytes hbase fun v' w' h2 h3 => hK _ _ (h v' w' h2 h3)

theorem step_append_any {ops : Array Oper} {K : Act → World → Prop} {E : Prop} (hgd : o.guard = none) (s x : Operand) (t : TypeId)
    (ho : o.op = .call { callee := .builtin .append, args := #[s, x], argTypes := #[t, t] })
    (base : Nat) (e : TypeId) (i : TypeInfo) (z : Value) (size bytes : Nat) (ht : P.underlying t = some (.slice e)) (hi : P.info? e = some i) (hz : i.zero = some z)
    (hsize : i.size = size) (hby : i.bytes = bytes) (hzs : z.cells.size = size) (hsz : 0 < size)
    (v : Value) (n : Nat) (xs : List Value) (hs : a.eval s = v) (hown : w.ownsRow base e size v n xs)
    (ao : Option Addr) (m c : Nat) (news : List Value) (hx : a.eval x = .slice ao m c) (hnone : ao = none → m = 0 ∧ c = 0) (hl : news.length = m * size)
    (hnews : ∀ ad, ao = some ad → ∀ j u, news[j]? = some u → w.cell? (ad.add j) = some u) (h1 : ∀ u ∈ news, u.oneCell' = true)
    (h63 : n + m ≤ maxLen) (hbytes : (n + m) * bytes ≤ 140737488355328) (hbase : base ≤ w.heap.size)
    (h : ∀ v' w', w'.ownsRow base e size v' (n + m) (xs ++ news) → w.grownBy w' v.ownBlock → K (a.put o.dst v') w') :
    if Region.wanted o (yielded ops a.tmps) = true then Oper.wp P o a w K Q else E := by
  have hw : Region.wanted o (yielded ops a.tmps) = true := by simp [Region.wanted, hgd]
  rw [if_pos hw]
  exact wp_append_any s x t ho base e i z size bytes ht hi hz hsize hby hzs hsz v n xs hs hown ao m c news hx hnone hl hnews h1 h63 hbytes hbase h
end

theorem own_at {w : World} {base size n g cap m : Nat} {e : TypeId} {xs : List Value} (h : w.ownsRow base e size (.slice (some ⟨g, 0, none⟩) m cap) n xs) {j : Nat} {u : Value} (hj : xs[j]? = some u) : w.cell? ⟨g, j, none⟩ = some u := by
  rcases h.2 with ⟨e, _⟩ | ⟨g', cap', cur, e, hb, hh, r1, r2, r3, r4⟩
  · cases e
  · cases e
    have hlt : j < n * size := by
      have := (List.getElem?_eq_some_iff.1 hj).1
      rw [h.1] at this; exact this
    have e2 : cur.toList[j]? = (cur.toList.take (n * size))[j]? := (List.getElem?_take_of_lt hlt).symm
    have e3 : cur[j]? = some u := by rw [← Array.getElem?_toList, e2, r4, hj]
    simp [World.cell?, hh, e3]

theorem own_shape6 {w : World} {base size n : Nat} {e : TypeId} {v : Value} {xs : List Value} (h : w.ownsRow base e size v n xs) : ∃ ao cap, v = .slice ao n cap ∧ n ≤ cap ∧ (ao = none → n = 0 ∧ cap = 0) ∧ ∀ ad, ao = some ad → ∃ g, ad = ⟨g, 0, none⟩ ∧ base ≤ g := by
  rcases h.2 with ⟨h1, h2⟩ | ⟨g, cap, cur, h1, h2, _, h3, _⟩
  · exact ⟨none, 0, by rw [h1, h2], by omega, fun _ => ⟨h2, rfl⟩, fun _ h => by cases h⟩
  · exact ⟨_, cap, h1, h3, fun h => by (cases h), fun ad h => by cases h; exact ⟨g, rfl, h2⟩⟩

theorem own_new {w : World} {base size n : Nat} {e : TypeId} {v : Value} {xs : List Value} (h : w.ownsRow base e size v n xs) (j : Nat) (hj : v.ownBlock = some j) : base ≤ j := by
  obtain ⟨ao, cap, rfl, _, _, hg⟩ := own_shape6 h
  cases ao with
  | none => cases hj
  | some ad =>
    obtain ⟨g, rfl, hb⟩ := hg ad rfl
    simp only [Value.ownBlock, Option.some.injEq] at hj
    omega

theorem own_kept6 {w w' : World} {base size n : Nat} {e : TypeId} {v : Value} {xs : List Value} (h : w.ownsRow base e size v n xs) (hb : Below w.heap.size w w') : w'.ownsRow base e size v n xs := by
  refine ⟨h.1, ?_⟩
  rcases h.2 with h0 | ⟨g, cap, cur, hv, hbase, hblk, rest⟩
  · exact .inl h0
  · exact .inr ⟨g, cap, cur, hv, hbase, by rw [hb.block g (Array.getElem?_eq_some_iff.1 hblk).1]; exact hblk, rest⟩

theorem own_mono6 {w : World} {b b' size n : Nat} {e : TypeId} {v : Value} {xs : List Value} (hb : b' ≤ b) (h : w.ownsRow b e size v n xs) : w.ownsRow b' e size v n xs := by
  refine ⟨h.1, ?_⟩
  rcases h.2 with h | ⟨g, cap, cur, e, hg, r⟩
  · exact .inl h
  · exact .inr ⟨g, cap, cur, e, by omega, r⟩

theorem own_lt6 {w : World} {base size n : Nat} {e : TypeId} {v : Value} {xs : List Value} (h : w.ownsRow base e size v n xs) (j : Nat) (hj : v.ownBlock = some j) : j < w.heap.size := by
  rcases h.2 with ⟨rfl, _⟩ | ⟨g, cap, cur, rfl, _, hh, _⟩
  · cases hj
  · simp only [Value.ownBlock, Option.some.injEq] at hj
    subst hj
    exact (Array.getElem?_eq_some_iff.1 hh).1

/-- What an append to a row of one's own leaves: all that was there. -/
theorem below_grown {w W w' : World} {base size n : Nat} {e : TypeId} {v : Value} {xs : List Value} (hb : Below base w W) (h : W.ownsRow base e size v n xs) (hg : W.grownBy w' v.ownBlock) (hB : base ≤ W.heap.size) : Below base w w' :=
  hb.grown hg hB (fun j hj => by have := own_new h j hj; omega)
end Go.Proofs.YtchhophblejmeaaGreatDoor

namespace Go.Proofs.YtchhophblejmeaaGreatDoor
set_option linter.unusedSimpArgs false
set_option linter.unusedVariables false
open Go.RowKit

/-- How elements lie in memory: their cells, and what must hold of what these lead to, in the blocks of F alone. -/
structure El (α : Type) where
  cells : α → List Value
  size : Nat
  pos : 0 < size
  len : ∀ x, (cells x).length = size
  ok : World → (Nat → Prop) → α → Prop
  one : ∀ {w : World} {F : Nat → Prop} {x : α}, ok w F x → ∀ u ∈ cells x, u.oneCell' = true
  move : ∀ {w w' : World} {F G : Nat → Prop} {x : α}, ok w F x → (∀ b, b < w.heap.size → F b → G b ∧ w'.heap[b]? = w.heap[b]?) → ok w' G x

/-- The slice v leads to the list l, all in blocks of F. -/
def Lst {α : Type} (E : El α) (w : World) (F : Nat → Prop) (v : Value) (l : List α) : Prop :=
  ∃ ao cap, v = .slice ao l.length cap ∧ l.length ≤ cap ∧ (ao = none → l.length = 0 ∧ cap = 0) ∧ l.length < 1073741824 ∧ (∀ x ∈ l, E.ok w F x) ∧
    (0 < l.length → ∃ b off, ao = some ⟨b, off, none⟩ ∧ b < w.heap.size ∧ F b ∧ ∀ i x, l[i]? = some x → ∀ j u, (E.cells x)[j]? = some u → w.cell? ⟨b, off + i * E.size + j, none⟩ = some u)

theorem lt_same {w w' : World} {b : Nat} (hb : b < w.heap.size) (h : w'.heap[b]? = w.heap[b]?) : b < w'.heap.size := by
  rcases Nat.lt_or_ge b w'.heap.size with h1 | h1
  · exact h1
  · rw [Array.getElem?_eq_none h1, Array.getElem?_eq_getElem hb] at h; cases h

theorem Lst.move {α : Type} {E : El α} {w w' : World} {F G : Nat → Prop} {v : Value} {l : List α} (h : Lst E w F v l) (hm : ∀ b, b < w.heap.size → F b → G b ∧ w'.heap[b]? = w.heap[b]?) : Lst E w' G v l := by
  obtain ⟨ao, cap, e, h1, h2, h3, h4, h5⟩ := h
  refine ⟨ao, cap, e, h1, h2, h3, fun x hx => E.move (h4 x hx) hm, fun hp => ?_⟩
  obtain ⟨b, off, e2, hb, hF, hc⟩ := h5 hp
  obtain ⟨hG, hs⟩ := hm b hb hF
  exact ⟨b, off, e2, lt_same hb hs, hG, fun i x hx j u hu => by rw [World.cell?_of_block (w := w) hs]; exact hc i x hx j u hu⟩

/-- The slice v leads to the list l. -/
abbrev Has {α : Type} (E : El α) (w : World) (v : Value) (l : List α) : Prop := Lst E w (fun _ => True) v l

theorem Has.kept {α : Type} {E : El α} {w w' : World} {v : Value} {l : List α} (h : Has E w v l) (hb : Below w.heap.size w w') : Has E w' v l :=
  h.move fun b hlt _ => ⟨trivial, hb.block b hlt⟩
theorem Lst.kept {α : Type} {E : El α} {w w' : World} {v : Value} {l : List α} (h : Lst E w (fun _ => True) v l) (hb : Below w.heap.size w w') : Lst E w' (fun _ => True) v l := Has.kept h hb
theorem El.kept {α : Type} (E : El α) {w w' : World} {x : α} (h : E.ok w (fun _ => True) x) (hb : Below w.heap.size w w') : E.ok w' (fun _ => True) x :=
  E.move h fun b hlt _ => ⟨trivial, hb.block b hlt⟩
theorem El.all {α : Type} (E : El α) {w : World} {F : Nat → Prop} {x : α} (h : E.ok w F x) : E.ok w (fun _ => True) x :=
  E.move h fun b hlt _ => ⟨trivial, rfl⟩
theorem Lst.all {α : Type} {E : El α} {w : World} {F : Nat → Prop} {v : Value} {l : List α} (h : Lst E w F v l) : Has E w v l :=
  h.move fun b hlt _ => ⟨trivial, rfl⟩

theorem Lst.shape {α : Type} {E : El α} {w : World} {F : Nat → Prop} {v : Value} {l : List α} (h : Lst E w F v l) : ∃ ao cap, v = .slice ao l.length cap ∧ l.length ≤ cap ∧ (ao = none → l.length = 0 ∧ cap = 0) ∧ l.length < 1073741824 := by
  obtain ⟨ao, cap, e, h1, h2, h3, _⟩ := h
  exact ⟨ao, cap, e, h1, h2, h3⟩
theorem Lst.ok {α : Type} {E : El α} {w : World} {F : Nat → Prop} {v : Value} {l : List α} (h : Lst E w F v l) {x : α} (hx : x ∈ l) : E.ok w F x := by
  obtain ⟨ao, cap, e, h1, h2, h3, h4, h5⟩ := h
  exact h4 x hx
theorem Lst.nil {α : Type} (E : El α) (w : World) (F : Nat → Prop) : Lst E w F (.slice none 0 0) [] :=
  ⟨none, 0, rfl, Nat.le_refl _, fun _ => ⟨rfl, rfl⟩, by simp, by simp, fun h => by simp at h⟩
/-- Where its elements lie. -/
theorem Lst.row {α : Type} {E : El α} {w : World} {F : Nat → Prop} {ao : Option Addr} {n cap : Nat} {l : List α} (h : Lst E w F (.slice ao n cap) l) (hp : 0 < l.length) :
    ∃ b off, ao = some ⟨b, off, none⟩ ∧ b < w.heap.size ∧ F b ∧ ∀ i x, l[i]? = some x → ∀ j u, (E.cells x)[j]? = some u → w.cell? ⟨b, off + i * E.size + j, none⟩ = some u := by
  obtain ⟨ao', cap', e, h1, h2, h3, h4, h5⟩ := h
  cases e
  exact h5 hp

/-- A list of one's own, in a block at base or behind: what its elements lead to lies there too, elsewhere. -/
def Grow {α : Type} (E : El α) (e : TypeId) (base : Nat) (w : World) (v : Value) (l : List α) : Prop :=
  w.ownsRow base e E.size v l.length (l.flatMap E.cells) ∧ ∀ x ∈ l, E.ok w (fun b => base ≤ b ∧ v.ownBlock ≠ some b) x

theorem Grow.nil {α : Type} (E : El α) (e : TypeId) (base : Nat) (w : World) : Grow E e base w (.slice none 0 0) [] :=
  ⟨World.ownsRow_nil _ _ _ _, by simp⟩
theorem Grow.above {α : Type} {E : El α} {e : TypeId} {base : Nat} {w w' : World} {v : Value} {l : List α} (h : Grow E e base w v l) (hs : ∀ b, base ≤ b → b < w.heap.size → w'.heap[b]? = w.heap[b]?) : Grow E e base w' v l := by
  refine ⟨⟨h.1.1, ?_⟩, fun x hx => E.move (h.2 x hx) fun b hlt hF => ⟨hF, hs b hF.1 hlt⟩⟩
  rcases h.1.2 with h0 | ⟨g, cap, cur, hv, hbase, hblk, rest⟩
  · exact .inl h0
  · exact .inr ⟨g, cap, cur, hv, hbase, by rw [hs g hbase (Array.getElem?_eq_some_iff.1 hblk).1]; exact hblk, rest⟩
theorem Grow.kept {α : Type} {E : El α} {e : TypeId} {base : Nat} {w w' : World} {v : Value} {l : List α} (h : Grow E e base w v l) (hb : Below w.heap.size w w') : Grow E e base w' v l :=
  h.above fun b _ hlt => hb.block b hlt
theorem Grow.mono {α : Type} {E : El α} {e : TypeId} {base base' : Nat} {w : World} {v : Value} {l : List α} (h : Grow E e base w v l) (hb : base' ≤ base) : Grow E e base' w v l :=
  ⟨own_mono6 hb h.1, fun x hx => E.move (h.2 x hx) fun b _ hF => ⟨⟨Nat.le_trans hb hF.1, hF.2⟩, rfl⟩⟩
theorem Grow.shape {α : Type} {E : El α} {e : TypeId} {base : Nat} {w : World} {v : Value} {l : List α} (h : Grow E e base w v l) : ∃ ao cap, v = .slice ao l.length cap ∧ l.length ≤ cap ∧ (ao = none → l.length = 0 ∧ cap = 0) := by
  obtain ⟨ao, cap, e, h1, h2, _⟩ := own_shape6 h.1
  exact ⟨ao, cap, e, h1, h2⟩

/-- What was made behind all that was there when the list lay in its block lies elsewhere. -/
theorem Grow.behind {α : Type} {E : El α} {e : TypeId} {base : Nat} {w w' : World} {v : Value} {l : List α} (h : Grow E e base w v l) (hb : base ≤ w.heap.size) {β : Type} (D : El β) {x : β} (hx : D.ok w' (fun b => w.heap.size ≤ b) x) : D.ok w' (fun b => base ≤ b ∧ v.ownBlock ≠ some b) x :=
  D.move hx fun b _ hF => ⟨⟨Nat.le_trans hb hF, fun e => by have := own_lt6 h.1 b e; omega⟩, rfl⟩

theorem Grow.push {α : Type} {E : El α} {e : TypeId} {base : Nat} {w w' : World} {v : Value} {l : List α} (h : Grow E e base w v l) {x : α} (hx : E.ok w (fun b => base ≤ b ∧ v.ownBlock ≠ some b) x) {g cap n H : Nat} (hn : l.length = n) (hH : w.heap.size = H)
    (ho : w'.ownsRow base e E.size (.slice (some ⟨g, 0, none⟩) (n + 1) cap) (n + 1) (l.flatMap E.cells ++ E.cells x)) (hgr : w.grownBy w' v.ownBlock) (hat : v.ownBlock = some g ∨ g = H) :
    Grow E e base w' (.slice (some ⟨g, 0, none⟩) (n + 1) cap) (l ++ [x]) := by
  subst hn
  have keep : ∀ y, E.ok w (fun b => base ≤ b ∧ v.ownBlock ≠ some b) y → E.ok w' (fun b => base ≤ b ∧ (Value.slice (some ⟨g, 0, none⟩) (l.length + 1) cap).ownBlock ≠ some b) y := fun y hy =>
    E.move hy fun b hlt hF => ⟨⟨hF.1, fun e => by
      simp only [Value.ownBlock, Option.some.injEq] at e
      rcases hat with h1 | h1
      · rw [h1, e] at hF; exact hF.2 rfl
      · omega⟩, hgr.block b hlt fun e => hF.2 e.symm⟩
  refine ⟨?_, fun y hy => ?_⟩
  · rw [List.length_append, List.flatMap_append]
    simpa using ho
  · rcases List.mem_append.1 hy with h1 | h1
    · exact keep y (h.2 y h1)
    · simp only [List.mem_singleton] at h1; subst h1; exact keep _ hx
/-- A block below base is as it was behind an append to the list. -/
theorem Grow.low {α : Type} {E : El α} {e : TypeId} {base : Nat} {w w' : World} {v : Value} {l : List α} (h : Grow E e base w v l) (hgr : w.grownBy w' v.ownBlock) {b : Nat} (hb : b < base) (hlt : b < w.heap.size) : w'.heap[b]? = w.heap[b]? :=
  hgr.block b hlt fun e => by have := own_new h.1 b e.symm; omega

theorem flatE_len {α : Type} (E : El α) (l : List α) : (l.flatMap E.cells).length = l.length * E.size := by
  induction l with
  | nil => simp
  | cons a r ih => rw [List.flatMap_cons, List.length_append, ih, E.len, List.length_cons, Nat.add_mul]; omega
theorem flatE_at {α : Type} (E : El α) : ∀ (l : List α) (i j : Nat) (x : α), l[i]? = some x → j < E.size → (l.flatMap E.cells)[i * E.size + j]? = (E.cells x)[j]?
  | [], i, j, x, h, _ => by simp at h
  | a :: r, 0, j, x, h, hj => by
    simp only [List.getElem?_cons_zero, Option.some.injEq] at h
    subst h
    rw [List.flatMap_cons, Nat.zero_mul, Nat.zero_add, List.getElem?_append_left (by rw [E.len]; exact hj)]
  | a :: r, i + 1, j, x, h, hj => by
    rw [List.getElem?_cons_succ] at h
    rw [List.flatMap_cons, List.getElem?_append_right (by rw [E.len, Nat.add_mul]; omega), E.len, ← flatE_at E r i j x h hj]
    congr 1
    rw [Nat.add_mul]; omega

theorem Grow.list {α : Type} {E : El α} {e : TypeId} {base : Nat} {w : World} {v : Value} {l : List α} (h : Grow E e base w v l) (hl : l.length < 1073741824) : Has E w v l := by
  obtain ⟨ao, cap, rfl, h1, h2, hg⟩ := own_shape6 h.1
  refine ⟨ao, cap, rfl, h1, h2, hl, fun x hx => E.all (h.2 x hx), fun hp => ?_⟩
  cases ao with
  | none => exact absurd (h2 rfl).1 (by omega)
  | some ad =>
    obtain ⟨g, rfl, hb⟩ := hg ad rfl
    refine ⟨g, 0, rfl, own_lt6 h.1 g rfl, trivial, fun i x hx j u hu => ?_⟩
    rw [Nat.zero_add]
    refine own_at h.1 ?_
    have hj : j < E.size := by have := (List.getElem?_eq_some_iff.1 hu).1; rw [E.len] at this; exact this
    rw [flatE_at E l i j x hx hj]; exact hu

/-- All of the list lies at base or behind. -/
theorem Grow.new {α : Type} {E : El α} {e : TypeId} {base : Nat} {w : World} {v : Value} {l : List α} (h : Grow E e base w v l) (hl : l.length < 1073741824) : Lst E w (fun b => base ≤ b) v l := by
  obtain ⟨ao, cap, e1, h1, h2, h3, h4, h5⟩ := h.list hl
  refine ⟨ao, cap, e1, h1, h2, h3, fun x hx => E.move (h.2 x hx) fun b _ hF => ⟨hF.1, rfl⟩, fun hp => ?_⟩
  obtain ⟨b, off, e2, hb, _, hc⟩ := h5 hp
  refine ⟨b, off, e2, hb, ?_, hc⟩
  subst e2
  exact own_new h.1 b (by rw [e1]; rfl)

/-- A row of n places in block g, the first of which hold the list l. -/
def Fill {α : Type} (E : El α) (e : TypeId) (w : World) (g n : Nat) (l : List α) : Prop :=
  ∃ cur : Array Value, w.heap[g]? = some (.cells cur e (0, 0)) ∧ cur.size = n * E.size ∧ l.length ≤ n ∧ ∀ i x, l[i]? = some x → ∀ j u, (E.cells x)[j]? = some u → cur[i * E.size + j]? = some u

theorem Fill.lt {α : Type} {E : El α} {e : TypeId} {w : World} {g n : Nat} {l : List α} (h : Fill E e w g n l) : g < w.heap.size := by
  obtain ⟨cur, h1, _⟩ := h
  exact (Array.getElem?_eq_some_iff.1 h1).1
theorem Fill.kept {α : Type} {E : El α} {e : TypeId} {w w' : World} {g n : Nat} {l : List α} (h : Fill E e w g n l) (hb : Below w.heap.size w w') : Fill E e w' g n l := by
  have hlt := h.lt
  obtain ⟨cur, h1, h2⟩ := h
  exact ⟨cur, by rw [hb.block g hlt]; exact h1, h2⟩
theorem Fill.same {α : Type} {E : El α} {e : TypeId} {w w' : World} {g n : Nat} {l : List α} (h : Fill E e w g n l) (hb : w'.heap[g]? = w.heap[g]?) : Fill E e w' g n l := by
  obtain ⟨cur, h1, h2⟩ := h
  exact ⟨cur, by rw [hb]; exact h1, h2⟩
/-- Each of its cells can be read and written. -/
theorem Fill.cell {α : Type} {E : El α} {e : TypeId} {w : World} {g n : Nat} {l : List α} (h : Fill E e w g n l) {k j : Nat} (hk : k < n) (hj : j < E.size) : (∃ y, w.cell? ⟨g, k * E.size + j, none⟩ = some y) ∧ w.frozen? ⟨g, k * E.size + j, none⟩ = false := by
  obtain ⟨cur, h1, h2, h3⟩ := h
  have hlt : k * E.size + j < cur.size := by
    rw [h2]
    calc k * E.size + j < k * E.size + E.size := by omega
      _ = (k + 1) * E.size := by rw [Nat.add_mul, Nat.one_mul]
      _ ≤ n * E.size := Nat.mul_le_mul_right _ hk
  exact ⟨⟨cur[k * E.size + j], by simp [World.cell?, h1, Array.getElem?_eq_getElem hlt]⟩, by simp [World.frozen?, h1]⟩
/-- Block g's cells from place at on, written one by one. -/
def setAll (w : World) (g at' : Nat) : List Value → World
  | [] => w
  | v :: r => setAll (w.setCell ⟨g, at', none⟩ v) g (at' + 1) r
def setArr (cur : Array Value) (at' : Nat) : List Value → Array Value
  | [] => cur
  | v :: r => setArr (cur.set! at' v) (at' + 1) r
theorem setAll_block : ∀ (vs : List Value) (w : World) (g at' : Nat) (cur : Array Value) (e : TypeId), w.heap[g]? = some (.cells cur e (0, 0)) → (setAll w g at' vs).heap[g]? = some (.cells (setArr cur at' vs) e (0, 0))
  | [], w, g, at', cur, e, h => h
  | v :: r, w, g, at', cur, e, h => by
    refine setAll_block r _ g (at' + 1) _ e ?_
    simp [World.setCell, Array.getElem?_modify, h]
theorem setArr_size : ∀ (vs : List Value) (cur : Array Value) (at' : Nat), (setArr cur at' vs).size = cur.size
  | [], cur, at' => rfl
  | v :: r, cur, at' => by unfold setArr; rw [setArr_size r]; simp
theorem setArr_out : ∀ (vs : List Value) (cur : Array Value) (at' i : Nat), i < at' ∨ at' + vs.length ≤ i → (setArr cur at' vs)[i]? = cur[i]?
  | [], cur, at', i, _ => rfl
  | v :: r, cur, at', i, h => by
    unfold setArr
    rw [setArr_out r _ _ _ (by simp only [List.length_cons] at h; omega), Array.set!_eq_setIfInBounds, Array.getElem?_setIfInBounds_ne (by simp only [List.length_cons] at h; omega)]
theorem setArr_in : ∀ (vs : List Value) (cur : Array Value) (at' j : Nat) (u : Value), at' + vs.length ≤ cur.size → vs[j]? = some u → (setArr cur at' vs)[at' + j]? = some u
  | [], cur, at', j, u, _, h => by simp at h
  | v :: r, cur, at', 0, u, hs, h => by
    simp only [List.getElem?_cons_zero, Option.some.injEq] at h
    subst h
    unfold setArr
    rw [Nat.add_zero, setArr_out r _ _ _ (.inl (by omega))]
    simp only [List.length_cons] at hs
    simp [show at' < cur.size by omega]
  | v :: r, cur, at', j + 1, u, hs, h => by
    rw [List.getElem?_cons_succ] at h
    unfold setArr
    rw [show at' + (j + 1) = at' + 1 + j by omega]
    exact setArr_in r _ _ j u (by simp only [List.length_cons] at hs; simp; omega) h
theorem Fill.set {α : Type} {E : El α} {e : TypeId} {w : World} {g n : Nat} {l : List α} (h : Fill E e w g n l) {k : Nat} (hk : l.length = k) (hn : k < n) (x : α) : Fill E e (setAll w g (k * E.size) (E.cells x)) g n (l ++ [x]) := by
  obtain ⟨cur, h1, h2, h3, h4⟩ := h
  have hmul : k * E.size + E.size ≤ n * E.size := by
    have : (k + 1) * E.size ≤ n * E.size := Nat.mul_le_mul_right _ hn
    rw [Nat.add_mul, Nat.one_mul] at this; exact this
  refine ⟨_, setAll_block _ _ _ _ _ _ h1, by rw [setArr_size, h2], by simp; omega, fun i y hi j u hu => ?_⟩
  have hj : j < E.size := by have := (List.getElem?_eq_some_iff.1 hu).1; rw [E.len] at this; exact this
  rcases Nat.lt_or_ge i l.length with hl | hl
  · rw [List.getElem?_append_left hl] at hi
    have : i * E.size + E.size ≤ k * E.size := by
      have : (i + 1) * E.size ≤ k * E.size := Nat.mul_le_mul_right _ (by omega)
      rw [Nat.add_mul, Nat.one_mul] at this; exact this
    rw [setArr_out _ _ _ _ (.inl (by omega))]
    exact h4 i y hi j u hu
  · have hik : i = k := by
      have := (List.getElem?_eq_some_iff.1 hi).1
      simp at this
      omega
    subst hik
    rw [← hk, List.getElem?_append_right (Nat.le_refl _)] at hi
    simp at hi
    subst hi
    exact setArr_in _ _ _ _ _ (by rw [E.len, h2]; exact hmul) hu
theorem Fill.list {α : Type} {E : El α} {e : TypeId} {w : World} {g n : Nat} {l : List α} {F : Nat → Prop} (h : Fill E e w g n l) (hl : l.length = n) (hok : ∀ x ∈ l, E.ok w F x) (hF : F g) (hz : n < 1073741824) : Lst E w F (.slice (some ⟨g, 0, none⟩) n n) l := by
  have hlt := h.lt
  obtain ⟨cur, h1, h2, h3, h4⟩ := h
  subst hl
  refine ⟨_, _, rfl, Nat.le_refl _, fun h => (by cases h), hz, hok, fun _ => ⟨g, 0, rfl, hlt, hF, fun i x hx j u hu => ?_⟩⟩
  simp [World.cell?, h1, h4 i x hx j u hu]

/-- A list in a new block of its own (a literal, the arguments of a variadic call). -/
theorem has_new {α : Type} (E : El α) (w : World) (t : TypeId) (l : List α) (arr : Array Value) (harr : arr.toList = l.flatMap E.cells) {F : Nat → Prop} (hF : F w.heap.size) (hok : ∀ x ∈ l, E.ok (w.alloc (.cells arr t)) F x) (hl : l.length < 1073741824) :
    Lst E (w.alloc (.cells arr t)) F (.slice (some ⟨w.heap.size, 0, none⟩) l.length l.length) l := by
  refine ⟨_, _, rfl, Nat.le_refl _, fun h => (by cases h), hl, hok, fun _ => ⟨w.heap.size, 0, rfl, by simp, hF, fun i x hx j u hu => ?_⟩⟩
  have hj : j < E.size := by have := (List.getElem?_eq_some_iff.1 hu).1; rw [E.len] at this; exact this
  have h := flatE_at E l i j x hx hj
  rw [hu, ← harr, Array.getElem?_toList] at h
  have hh : (w.alloc (.cells arr t)).heap[w.heap.size]? = some (.cells arr t) := heap_alloc_new w _
  rw [Nat.zero_add]
  unfold World.cell?
  rw [hh]
  simpa using h
end Go.Proofs.YtchhophblejmeaaGreatDoor

namespace Go.Proofs.YtchhophblejmeaaGreatDoor
set_option linter.unusedSimpArgs false
set_option linter.unusedVariables false
open Go.RowKit

def elInt : El Int where
  cells x := [.int .i64 x]
  size := 1
  pos := by decide
  len _ := rfl
  ok _ _ x := I64 x
  one _ u hu := by simp only [List.mem_singleton] at hu; subst hu; rfl
  move h _ := h
def elStr : El ByteArray where
  cells s := [.string s]
  size := 1
  pos := by decide
  len _ := rfl
  ok _ _ s := s.size ≤ 140737488351232
  one _ u hu := by simp only [List.mem_singleton] at hu; subst hu; rfl
  move h _ := h
def elCon : El Con where
  cells c := [.int .i64 c.k, .int .i64 c.n, .string c.s]
  size := 3
  pos := by decide
  len _ := rfl
  ok _ _ c := c.ok
  one _ u hu := by simp only [List.mem_cons, List.not_mem_nil, or_false] at hu; rcases hu with rfl | rfl | rfl <;> rfl
  move h _ := h
/-- A predicate: name and arity. -/
structure Prd where
  s : ByteArray
  n : Int
def elPrd : El Prd where
  cells c := [.string c.s, .int .i64 c.n]
  size := 2
  pos := by decide
  len _ := rfl
  ok _ _ c := c.s.size ≤ 140737488351232 ∧ I64 c.n
  one _ u hu := by simp only [List.mem_cons, List.not_mem_nil, or_false] at hu; rcases hu with rfl | rfl <;> rfl
  move h _ := h
/-- A slot: a variable's number or a constant's id. -/
structure Slo where
  v : Bool
  n : Int
def elSlo : El Slo where
  cells c := [.bool c.v, .int .i64 c.n]
  size := 2
  pos := by decide
  len _ := rfl
  ok _ _ c := I64 c.n
  one _ u hu := by simp only [List.mem_cons, List.not_mem_nil, or_false] at hu; rcases hu with rfl | rfl <;> rfl
  move h _ := h
structure Tes where
  op : Int
  l : Slo
  r : Slo
def elTes : El Tes where
  cells c := [.int .i64 c.op, .bool c.l.v, .int .i64 c.l.n, .bool c.r.v, .int .i64 c.r.n]
  size := 5
  pos := by decide
  len _ := rfl
  ok _ _ c := I64 c.op ∧ I64 c.l.n ∧ I64 c.r.n
  one _ u hu := by simp only [List.mem_cons, List.not_mem_nil, or_false] at hu; rcases hu with rfl | rfl | rfl | rfl | rfl <;> rfl
  move h _ := h
def elTrm : El Trm where
  cells c := [.int .i64 c.k, .int .i64 c.n, .string c.s, .int .i64 c.off]
  size := 4
  pos := by decide
  len _ := rfl
  ok _ _ c := c.ok
  one _ u hu := by simp only [List.mem_cons, List.not_mem_nil, or_false] at hu; rcases hu with rfl | rfl | rfl | rfl <;> rfl
  move h _ := h

theorem Lst.one {α : Type} {E : El α} {w : World} {F : Nat → Prop} {v : Value} {l : List α} (h : Lst E w F v l) : v.oneCell' = true := by
  obtain ⟨ao, cap, e, _⟩ := h
  rw [e]; rfl

/-- A pattern: a predicate's id, slots. -/
structure Pat where
  q : Int
  v : Value
  ss : List Slo
def elPat : El Pat where
  cells c := [.int .i64 c.q, c.v]
  size := 2
  pos := by decide
  len _ := rfl
  ok w F c := I64 c.q ∧ Lst elSlo w F c.v c.ss
  one h u hu := by
    simp only [List.mem_cons, List.not_mem_nil, or_false] at hu
    rcases hu with rfl | rfl
    · rfl
    · exact h.2.one
  move h hm := ⟨h.1, h.2.move hm⟩
/-- A row: a predicate's id, constants' ids. -/
structure Roe where
  q : Int
  v : Value
  l : List Int
def elRoe : El Roe where
  cells c := [.int .i64 c.q, c.v]
  size := 2
  pos := by decide
  len _ := rfl
  ok w F c := I64 c.q ∧ Lst elInt w F c.v c.l
  one h u hu := by
    simp only [List.mem_cons, List.not_mem_nil, or_false] at hu
    rcases hu with rfl | rfl
    · rfl
    · exact h.2.one
  move h hm := ⟨h.1, h.2.move hm⟩
structure Rul where
  h : Pat
  pv : Value
  ps : List Pat
  tv : Value
  ts : List Tes
  nv : Value
  ns : List Pat
  vv : Value
  vs : List ByteArray
  c : Int
def elRul : El Rul where
  cells c := [.int .i64 c.h.q, c.h.v, c.pv, c.tv, c.nv, c.vv, .int .i64 c.c]
  size := 7
  pos := by decide
  len _ := rfl
  ok w F c := elPat.ok w F c.h ∧ Lst elPat w F c.pv c.ps ∧ Lst elTes w F c.tv c.ts ∧ Lst elPat w F c.nv c.ns ∧ Lst elStr w F c.vv c.vs ∧ I64 c.c
  one h u hu := by
    simp only [List.mem_cons, List.not_mem_nil, or_false] at hu
    rcases hu with rfl | rfl | rfl | rfl | rfl | rfl | rfl
    · rfl
    · exact h.1.2.one
    · exact h.2.1.one
    · exact h.2.2.1.one
    · exact h.2.2.2.1.one
    · exact h.2.2.2.2.1.one
    · rfl
  move h hm := ⟨elPat.move h.1 hm, h.2.1.move hm, h.2.2.1.move hm, h.2.2.2.1.move hm, h.2.2.2.2.1.move hm, h.2.2.2.2.2⟩
/-- An atom: a name, terms, an offset. -/
structure Atx where
  p : ByteArray
  v : Value
  off : Int
  ts : List Trm
def elAtx : El Atx where
  cells c := [.string c.p, c.v, .int .i64 c.off]
  size := 3
  pos := by decide
  len _ := rfl
  ok w F c := c.p.size ≤ 140737488351232 ∧ I64 c.off ∧ Lst elTrm w F c.v c.ts
  one h u hu := by
    simp only [List.mem_cons, List.not_mem_nil, or_false] at hu
    rcases hu with rfl | rfl | rfl
    · rfl
    · exact h.2.2.one
    · rfl
  move h hm := ⟨h.1, h.2.1, h.2.2.move hm⟩
structure Lix where
  k : Int
  a : Atx
  op : Int
  l : Trm
  r : Trm
  off : Int
def elLix : El Lix where
  cells c := [.int .i64 c.k, .string c.a.p, c.a.v, .int .i64 c.a.off, .int .i64 c.op, .int .i64 c.l.k, .int .i64 c.l.n, .string c.l.s, .int .i64 c.l.off, .int .i64 c.r.k, .int .i64 c.r.n, .string c.r.s, .int .i64 c.r.off, .int .i64 c.off]
  size := 14
  pos := by decide
  len _ := rfl
  ok w F c := I64 c.k ∧ elAtx.ok w F c.a ∧ I64 c.op ∧ c.l.ok ∧ c.r.ok ∧ I64 c.off
  one h u hu := by
    simp only [List.mem_cons, List.not_mem_nil, or_false] at hu
    have := h.2.1.2.2.one
    rcases hu with rfl | rfl | rfl | rfl | rfl | rfl | rfl | rfl | rfl | rfl | rfl | rfl | rfl | rfl <;> first | rfl | exact this
  move h hm := ⟨h.1, elAtx.move h.2.1 hm, h.2.2⟩
structure Clx where
  h : Atx
  v : Value
  ls : List Lix
def elClx : El Clx where
  cells c := [.string c.h.p, c.h.v, .int .i64 c.h.off, c.v]
  size := 4
  pos := by decide
  len _ := rfl
  ok w F c := elAtx.ok w F c.h ∧ Lst elLix w F c.v c.ls
  one h u hu := by
    simp only [List.mem_cons, List.not_mem_nil, or_false] at hu
    rcases hu with rfl | rfl | rfl | rfl
    · rfl
    · exact h.1.2.2.one
    · rfl
    · exact h.2.one
  move h hm := ⟨elAtx.move h.1 hm, h.2.move hm⟩
theorem elPat_ok {w : World} {F : Nat → Prop} {p : Pat} (h : elPat.ok w F p) : I64 p.q ∧ Lst elSlo w F p.v p.ss := h
theorem elRoe_ok {w : World} {F : Nat → Prop} {p : Roe} (h : elRoe.ok w F p) : I64 p.q ∧ Lst elInt w F p.v p.l := h
theorem elRul_ok {w : World} {F : Nat → Prop} {c : Rul} (h : elRul.ok w F c) : elPat.ok w F c.h ∧ Lst elPat w F c.pv c.ps ∧ Lst elTes w F c.tv c.ts ∧ Lst elPat w F c.nv c.ns ∧ Lst elStr w F c.vv c.vs ∧ I64 c.c := h
theorem elAtx_ok {w : World} {F : Nat → Prop} {c : Atx} (h : elAtx.ok w F c) : c.p.size ≤ 140737488351232 ∧ I64 c.off ∧ Lst elTrm w F c.v c.ts := h
theorem elLix_ok {w : World} {F : Nat → Prop} {c : Lix} (h : elLix.ok w F c) : I64 c.k ∧ elAtx.ok w F c.a ∧ I64 c.op ∧ c.l.ok ∧ c.r.ok ∧ I64 c.off := h
theorem elClx_ok {w : World} {F : Nat → Prop} {c : Clx} (h : elClx.ok w F c) : elAtx.ok w F c.h ∧ Lst elLix w F c.v c.ls := h
end Go.Proofs.YtchhophblejmeaaGreatDoor

namespace Go.Proofs.YtchhophblejmeaaGreatDoor
set_option linter.unusedSimpArgs false
set_option linter.unusedVariables false
open Go.RowKit

section
variable {P : Program} {α : Type}

theorem wpList_push (E : El α) {w0 w : World} {ops : Array Oper} {rest : List Oper} {o : Oper} {a : Act} {Q : Exit → Act → World → Prop} (hgd : o.guard = none) (s x : Operand) (t : TypeId)
    (ho : o.op = .call { callee := .builtin .append, args := #[s, x], argTypes := #[t, t] })
    (base : Nat) (e : TypeId) (i : TypeInfo) (z : Value) (bytes : Nat) (ht : P.underlying t = some (.slice e)) (hi : P.info? e = some i) (hz : i.zero = some z)
    (hsize : i.size = E.size) (hby : i.bytes = bytes) (hzs : z.cells.size = E.size) (hbytes : bytes ≤ 4096)
    (v : Value) (l : List α) (n : Nat) (hn : l.length = n) (hs : a.eval s = v) (hg : Grow E e base w v l)
    (y : α) (ad c : Nat) (hx : a.eval x = .slice (some ⟨ad, 0, none⟩) 1 c) (hnew : ∀ j u, (E.cells y)[j]? = some u → w.cell? ⟨ad, j, none⟩ = some u)
    (hok : E.ok w (fun b => base ≤ b ∧ v.ownBlock ≠ some b) y) (hl : n + 1 < 1073741824) (hB : Below base w0 w) (hb : base ≤ w.heap.size)
    (h : ∀ g cap w', Hid (Grow E e base w' (.slice (some ⟨g, 0, none⟩) (n + 1) cap) (l ++ [y])) → Hid (Below base w0 w') → Hid (w.grownBy w' v.ownBlock) → wpList P ops Q rest (a.put o.dst (.slice (some ⟨g, 0, none⟩) (n + 1) cap)) w') : wpList P ops Q (o :: rest) a w := by
  subst hn
  refine wpList_append_lies w hgd s x t ho base e i z E.size bytes ht hi hz hsize hby hzs E.pos v l.length (l.flatMap E.cells) hs hg.1 ⟨ad, 0, none⟩ 1 c (E.cells y) hx (by rw [E.len, Nat.one_mul]) (fun j u hu => by rw [addr_add, Nat.zero_add]; exact hnew j u hu) (E.one hok) (by decide) (by unfold maxLen; omega) ?_ hb w.heap.size rfl ?_
  · have := Nat.mul_le_mul (Nat.le_of_lt hl) hbytes
    omega
  · intro g cap w' ho' hgr hat hlt
    exact h g cap w' (hg.push hok rfl rfl ho' hgr hat) (below_grown hB hg.1 hgr hb) hgr

theorem step_push (E : El α) {w0 w : World} {ops : Array Oper} {o : Oper} {a : Act} {K : Act → World → Prop} {Q : Exit → Act → World → Prop} {Z : Prop} (hgd : o.guard = none) (s x : Operand) (t : TypeId)
    (ho : o.op = .call { callee := .builtin .append, args := #[s, x], argTypes := #[t, t] })
    (base : Nat) (e : TypeId) (i : TypeInfo) (z : Value) (bytes : Nat) (ht : P.underlying t = some (.slice e)) (hi : P.info? e = some i) (hz : i.zero = some z)
    (hsize : i.size = E.size) (hby : i.bytes = bytes) (hzs : z.cells.size = E.size) (hbytes : bytes ≤ 4096)
    (v : Value) (l : List α) (n : Nat) (hn : l.length = n) (hs : a.eval s = v) (hg : Grow E e base w v l)
    (y : α) (ad c : Nat) (hx : a.eval x = .slice (some ⟨ad, 0, none⟩) 1 c) (hnew : ∀ j u, (E.cells y)[j]? = some u → w.cell? ⟨ad, j, none⟩ = some u)
    (hok : E.ok w (fun b => base ≤ b ∧ v.ownBlock ≠ some b) y) (hl : n + 1 < 1073741824) (hB : Below base w0 w) (hb : base ≤ w.heap.size)
    (h : ∀ g cap w', Hid (Grow E e base w' (.slice (some ⟨g, 0, none⟩) (n + 1) cap) (l ++ [y])) → Hid (Below base w0 w') → Hid (w.grownBy w' v.ownBlock) → K (a.put o.dst (.slice (some ⟨g, 0, none⟩) (n + 1) cap)) w') :
    if Region.wanted o (yielded ops a.tmps) = true then Oper.wp P o a w K Q else Z := by
  subst hn
  refine step_append_lies w hgd s x t ho base e i z E.size bytes ht hi hz hsize hby hzs E.pos v l.length (l.flatMap E.cells) hs hg.1 ⟨ad, 0, none⟩ 1 c (E.cells y) hx (by rw [E.len, Nat.one_mul]) (fun j u hu => by rw [addr_add, Nat.zero_add]; exact hnew j u hu) (E.one hok) (by decide) (by unfold maxLen; omega) ?_ hb w.heap.size rfl ?_
  · have := Nat.mul_le_mul (Nat.le_of_lt hl) hbytes
    omega
  · intro g cap w' ho' hgr hat hlt
    exact h g cap w' (hg.push hok rfl rfl ho' hgr hat) (below_grown hB hg.1 hgr hb) hgr
end

/-- What stands in a new block of its own. -/
theorem new_cells {w : World} {cs : Array Value} {t : TypeId} : ∀ (j : Nat) (u : Value), cs.toList[j]? = some u → (w.alloc (.cells cs t)).cell? ⟨w.heap.size, j, none⟩ = some u := by
  intro j u hu
  have hh : (w.alloc (.cells cs t)).heap[w.heap.size]? = some (.cells cs t) := heap_alloc_new w _
  unfold World.cell?
  rw [hh]
  simpa using hu
end Go.Proofs.YtchhophblejmeaaGreatDoor

namespace Go.Proofs.YtchhophblejmeaaGreatDoor
set_option linter.unusedSimpArgs false
set_option linter.unusedVariables false
open Go.RowKit

def cellsT (t : Trm) : List Value := [.int .i64 t.k, .int .i64 t.n, .string t.s, .int .i64 t.off]

theorem Tryz.infoTerm : (Tryz.prog.info? 54).map (fun i => (i.zero, i.size, i.bytes)) = some (some (.agg #[.int .i64 0, .int .i64 0, .string ⟨#[]⟩, .int .i64 0]), 4, 40) := by kernel_rfl

theorem tok_kind (x0 x1 x2 x3 x4 x5 : Value) (W : World) : (Instr.field 116 (.agg #[x0, x1, x2, x3, x4, x5]) 0).run Tryz.prog W = .ok x0 W := by kernel_rfl
theorem tok_op (x0 x1 x2 x3 x4 x5 : Value) (W : World) : (Instr.field 116 (.agg #[x0, x1, x2, x3, x4, x5]) 3).run Tryz.prog W = .ok x3 W := by kernel_rfl

structure AtmLoop (w wr : World) (p : Nat) (ao : Option Addr) (cap : Nat) (L : List Tok) (c f : Int) (R : List Tok) (nt : ByteArray) (off : Int) (v : Value) (acc : List Trm) : Prop where
  ah : Ahead wr p ao cap L c f R
  ba : wr.heap[w.heap.size + 1 + 1]? = some (.cells #[.string nt, v, .int .i64 off] 42 (0, 0))
  br : wr.heap[w.heap.size + 1]? = some (.cells #[.string ⟨#[]⟩, .slice none 0 0, .int .i64 0] 42 (0, 0))
  ow : wr.ownsRow (w.heap.size + 3) 54 4 v acc.length (acc.flatMap cellsT)
  on : Only (fun k => k = p ∨ w.heap.size ≤ k) w wr
  pl : p < w.heap.size
  gd : ∀ x ∈ acc, x.ok
  tk : ∀ g, ao = some ⟨g, 0, none⟩ → 0 < L.length → g < w.heap.size

theorem own_only {S : Nat → Prop} {w w' : World} {base size n : Nat} {e : TypeId} {v : Value} {xs : List Value} (h : w.ownsRow base e size v n xs) (ho : Only S w w') (hs : ∀ k, base ≤ k → ¬ S k) : w'.ownsRow base e size v n xs := by
  refine ⟨h.1, ?_⟩
  rcases h.2 with h0 | ⟨g, cap, cur, hv, hbase, hblk, rest⟩
  · exact .inl h0
  · exact .inr ⟨g, cap, cur, hv, hbase, by rw [ho.block g (Array.getElem?_eq_some_iff.1 hblk).1 (hs g hbase)]; exact hblk, rest⟩

/-- A call that moves the reader alone. -/
theorem AtmLoop.move {w wr wr' : World} {p : Nat} {ao : Option Addr} {cap : Nat} {L : List Tok} {c f : Int} {R R' : List Tok} {nt : ByteArray} {off : Int} {v : Value} {acc : List Trm} (h : AtmLoop w wr p ao cap L c f R nt off v acc) (ho : Only (fun k => k = p) wr wr') (ha : Ahead wr' p ao cap L c f R') : AtmLoop w wr' p ao cap L c f R' nt off v acc :=
  have hp := h.pl
  ⟨ha, by rw [ho.block _ (Array.getElem?_eq_some_iff.1 h.ba).1 (by omega)]; exact h.ba, by rw [ho.block _ (Array.getElem?_eq_some_iff.1 h.br).1 (by omega)]; exact h.br,
    own_only h.ow ho (fun k hk e => by omega), h.on.trans (ho.mono fun k _ e => .inl e), h.pl, h.gd, h.tk⟩
theorem AtmLoop.below {w wr wr' : World} {p : Nat} {ao : Option Addr} {cap : Nat} {L : List Tok} {c f : Int} {R : List Tok} {nt : ByteArray} {off : Int} {v : Value} {acc : List Trm} (h : AtmLoop w wr p ao cap L c f R nt off v acc) (hb : Below wr.heap.size wr wr') : AtmLoop w wr' p ao cap L c f R nt off v acc :=
  h.move (Only.of_below hb _) (h.ah.kept hb)

theorem AtmLoop.cells {w wr : World} {p : Nat} {ao : Option Addr} {cap : Nat} {L : List Tok} {c f : Int} {R : List Tok} {nt : ByteArray} {off : Int} {v : Value} {acc : List Trm} (h : AtmLoop w wr p ao cap L c f R nt off v acc) :
    wr.cell? ⟨w.heap.size + 1 + 1, 0, none⟩ = some (.string nt) ∧ wr.cell? ⟨w.heap.size + 1 + 1, 1, none⟩ = some v ∧ wr.cell? ⟨w.heap.size + 1 + 1, 2, none⟩ = some (.int .i64 off) ∧ wr.frozen? ⟨w.heap.size + 1 + 1, 1, none⟩ = false := by
  refine ⟨?_, ?_, ?_, ?_⟩ <;> simp [World.cell?, World.frozen?, h.ba]
theorem AtmLoop.box {w wr : World} {p : Nat} {ao : Option Addr} {cap : Nat} {L : List Tok} {c f : Int} {R : List Tok} {nt : ByteArray} {off : Int} {v : Value} {acc : List Trm} (h : AtmLoop w wr p ao cap L c f R nt off v acc) :
    wr.cell? ⟨w.heap.size + 1, 0, none⟩ = some (.string ⟨#[]⟩) ∧ wr.cell? ⟨w.heap.size + 1, 1, none⟩ = some (.slice none 0 0) ∧ wr.cell? ⟨w.heap.size + 1, 2, none⟩ = some (.int .i64 0) ∧ wr.frozen? ⟨w.heap.size + 1, 0, none⟩ = false ∧ wr.frozen? ⟨w.heap.size + 1, 1, none⟩ = false ∧ wr.frozen? ⟨w.heap.size + 1, 2, none⟩ = false := by
  refine ⟨?_, ?_, ?_, ?_, ?_, ?_⟩ <;> simp [World.cell?, World.frozen?, h.br]

theorem AtmLoop.far {w wr w1 : World} {p : Nat} {ao : Option Addr} {cap : Nat} {L : List Tok} {c f : Int} {R : List Tok} {nt : ByteArray} {off : Int} {v : Value} {acc : List Trm} (h : AtmLoop w wr p ao cap L c f R nt off v acc) (hg : wr.grownBy w1 v.ownBlock) :
    w1.cell? ⟨w.heap.size + 1 + 1, 1, none⟩ = some v ∧ w1.frozen? ⟨w.heap.size + 1 + 1, 1, none⟩ = false := by
  have hvb : ∀ k, v.ownBlock = some k → w.heap.size + 3 ≤ k := fun k hk => by
    rcases h.ow.2 with ⟨e, _⟩ | ⟨g, cap', cur, e, hbase, _⟩
    · rw [e] at hk; cases hk
    · rw [e] at hk
      have : g = k := by simpa [Value.ownBlock] using hk
      omega
  have ho : Only (fun k => w.heap.size + 3 ≤ k) wr w1 := (Only.refl _ wr).grown hg (fun k hk _ => hvb k hk)
  have hba : w1.heap[w.heap.size + 1 + 1]? = some (.cells #[.string nt, v, .int .i64 off] 42 (0, 0)) := by
    rw [ho.block _ (Array.getElem?_eq_some_iff.1 h.ba).1 (by omega)]; exact h.ba
  refine ⟨?_, ?_⟩ <;> simp [World.cell?, World.frozen?, hba]

/-- A term more, behind an append and the store of the new slice. -/
theorem AtmLoop.push {w wr w1 : World} {p : Nat} {ao : Option Addr} {cap : Nat} {L : List Tok} {c f : Int} {R : List Tok} {nt : ByteArray} {off : Int} {v v' : Value} {acc : List Trm} {t : Trm} (h : AtmLoop w wr p ao cap L c f R nt off v acc)
    (ht : t.ok) (hg : wr.grownBy w1 v.ownBlock) (hown : w1.ownsRow (w.heap.size + 3) 54 4 v' (acc.length + 1) (acc.flatMap cellsT ++ cellsT t)) :
    AtmLoop w (w1.setCell ⟨w.heap.size + 1 + 1, 1, none⟩ v') p ao cap L c f R nt off v' (acc ++ [t]) := by
  have hp := h.pl
  have hvb : ∀ k, v.ownBlock = some k → w.heap.size + 3 ≤ k := fun k hk => by
    rcases h.ow.2 with ⟨e, _⟩ | ⟨g, cap', cur, e, hbase, _⟩
    · rw [e] at hk; cases hk
    · rw [e] at hk
      have : g = k := by simpa [Value.ownBlock] using hk
      omega
  have ho : Only (fun k => w.heap.size + 3 ≤ k) wr w1 := (Only.refl _ wr).grown hg (fun k hk _ => hvb k hk)
  have hba : w1.heap[w.heap.size + 1 + 1]? = some (.cells #[.string nt, v, .int .i64 off] 42 (0, 0)) := by
    rw [ho.block _ (Array.getElem?_eq_some_iff.1 h.ba).1 (by omega)]; exact h.ba
  have ho2 : Only (fun k => w.heap.size + 1 + 1 ≤ k) wr (w1.setCell ⟨w.heap.size + 1 + 1, 1, none⟩ v') := (ho.mono (fun k _ (e : w.heap.size + 3 ≤ k) => (by omega : w.heap.size + 1 + 1 ≤ k))).setCell (p := ⟨w.heap.size + 1 + 1, 1, none⟩) (Nat.le_refl _) _
  have h1 : Only (fun k => k = w.heap.size + 1 + 1) w1 (w1.setCell ⟨w.heap.size + 1 + 1, 1, none⟩ v') := (Only.refl (fun k => k = w.heap.size + 1 + 1) w1).setCell (p := ⟨w.heap.size + 1 + 1, 1, none⟩) rfl _
  refine ⟨?_, ?_, ?_, ?_, ?_, h.pl, fun x hx => (List.mem_append.1 hx).elim (h.gd x) (fun e => by simp only [List.mem_singleton] at e; subst e; exact ht), h.tk⟩
  · obtain ⟨i, q1, q2⟩ := h.ah
    refine ⟨i, q1.only ho2 (by omega) (fun g hg hl => ?_), q2⟩
    have := h.tk g hg hl
    omega
  · simp [World.setCell, Array.getElem?_modify, hba]
  · rw [ho2.block _ (Array.getElem?_eq_some_iff.1 h.br).1 (by omega)]; exact h.br
  · have := own_only hown h1 (fun k hk e => by omega)
    rw [List.length_append, List.flatMap_append]
    simpa using this
  · exact h.on.trans (ho2.mono fun k _ (e : w.heap.size + 1 + 1 ≤ k) => .inr (by omega))

theorem termP_ok {t : Tok} (h : t.good) : (termP t).ok := by
  obtain ⟨h1, h2, h3, h4, h5⟩ := h
  refine ⟨⟨?_, h3, ?_⟩, ?_⟩
  · unfold I64 termP kindT Trm.con; simp only; split <;> (try split) <;> (try split) <;> omega
  · show t.t.size ≤ _; omega
  · show I64 (t.off : Int); unfold I64; omega
theorem AtmLoop.grow {w wr : World} {p : Nat} {ao : Option Addr} {cap : Nat} {L : List Tok} {c f : Int} {R : List Tok} {nt : ByteArray} {off : Int} {v : Value} {acc : List Trm} (h : AtmLoop w wr p ao cap L c f R nt off v acc) : Grow elTrm 54 (w.heap.size + 3) wr v acc := ⟨h.ow, fun x hx => h.gd x hx⟩

theorem AtmLoop.base {w wr : World} {p : Nat} {ao : Option Addr} {cap : Nat} {L : List Tok} {c f : Int} {R : List Tok} {nt : ByteArray} {off : Int} {v : Value} {acc : List Trm} (h : AtmLoop w wr p ao cap L c f R nt off v acc) : w.heap.size + 3 ≤ wr.heap.size := by
  have := (Array.getElem?_eq_some_iff.1 h.ba).1
  omega

theorem AtmLoop.pushG {w wr w1 : World} {p : Nat} {ao : Option Addr} {cap : Nat} {L : List Tok} {c f : Int} {R : List Tok} {nt : ByteArray} {off : Int} {v v' : Value} {acc : List Trm} {t : Trm} (h : AtmLoop w wr p ao cap L c f R nt off v acc) (ht : t.ok)
    (hg : wr.grownBy w1 v.ownBlock) (hG : Grow elTrm 54 (w.heap.size + 3) w1 v' (acc ++ [t])) :
    AtmLoop w (w1.setCell ⟨w.heap.size + 1 + 1, 1, none⟩ v') p ao cap L c f R nt off v' (acc ++ [t]) := by
  refine h.push ht hg ?_
  have := hG.1
  rw [List.length_append, List.flatMap_append] at this
  show w1.ownsRow _ _ elTrm.size _ _ (acc.flatMap elTrm.cells ++ elTrm.cells t)
  simpa using this

theorem AtmLoop.fin {w wr : World} {p : Nat} {ao : Option Addr} {cap : Nat} {L : List Tok} {c f : Int} {R : List Tok} {nt : ByteArray} {off : Int} {v : Value} {acc : List Trm} (h : AtmLoop w wr p ao cap L c f R nt off v acc) (hl : acc.length ≤ 8) (u0 u1 u2 : Value) :
    Lst elTrm (((wr.setCell ⟨w.heap.size + 1, 0, none⟩ u0).setCell ⟨w.heap.size + 1, 1, none⟩ u1).setCell ⟨w.heap.size + 1, 2, none⟩ u2) (fun b => w.heap.size ≤ b) v acc ∧ Ahead (((wr.setCell ⟨w.heap.size + 1, 0, none⟩ u0).setCell ⟨w.heap.size + 1, 1, none⟩ u1).setCell ⟨w.heap.size + 1, 2, none⟩ u2) p ao cap L c f R ∧ Only (fun k => k = p) w (((wr.setCell ⟨w.heap.size + 1, 0, none⟩ u0).setCell ⟨w.heap.size + 1, 1, none⟩ u1).setCell ⟨w.heap.size + 1, 2, none⟩ u2) := by
  have hp := h.pl
  have ho : Only (fun k => k = w.heap.size + 1) wr (((wr.setCell ⟨w.heap.size + 1, 0, none⟩ u0).setCell ⟨w.heap.size + 1, 1, none⟩ u1).setCell ⟨w.heap.size + 1, 2, none⟩ u2) := (((Only.refl (fun k => k = w.heap.size + 1) wr).setCell (p := ⟨w.heap.size + 1, 0, none⟩) rfl _).setCell (p := ⟨w.heap.size + 1, 1, none⟩) rfl _).setCell (p := ⟨w.heap.size + 1, 2, none⟩) rfl _
  refine ⟨?_, ?_, ?_⟩
  · exact ((h.grow.above fun b hb hlt => ho.block b hlt (by omega)).new (by omega)).move fun b _ hF => ⟨by omega, rfl⟩
  · obtain ⟨i, q1, q2⟩ := h.ah
    exact ⟨i, q1.only ho (by omega) (fun g hg hl => by have := h.tk g hg hl; omega), q2⟩
  · exact (h.on.trans (ho.mono fun k _ (e : k = w.heap.size + 1) => .inr (by omega))).mono fun k hk e => e.elim id fun e => by omega

theorem take_eq {c f : Int} {ks : List Int} {R r : List Tok} {t : Tok} (h : takeP c f ks R = .ok t r) : R = t :: r ∧ t.k ∈ ks := by
  match R, h with
  | x :: r', h =>
    simp only [takeP] at h
    by_cases hm : x.k ∈ ks
    · rw [if_pos hm] at h; injection h with e1 e2; subst e1 e2; exact ⟨rfl, hm⟩
    · rw [if_neg hm] at h; cases h
theorem args_bad1 {c f ec eo : Int} {ks : List Int} {acc : List Trm} {R : List Tok} (h : takeP c f ks R = .bad ec eo) : argsP c f ks acc R = .bad ec eo := by
  match R, h with
  | [], h => simp only [takeP] at h; injection h with e1 e2; subst e1 e2; unfold argsP; rfl
  | x :: r', h =>
    simp only [takeP] at h
    by_cases hm : x.k ∈ ks
    · rw [if_pos hm] at h; cases h
    · rw [if_neg hm] at h; injection h with e1 e2; unfold argsP; rw [if_neg hm, e1, e2]
theorem args_lim {c f : Int} {ks : List Int} {acc : List Trm} {R r : List Tok} {t : Tok} (h : takeP c f ks R = .ok t r) (h8 : acc.length = 8) : argsP c f ks acc R = .bad 22 t.off := by
  obtain ⟨rfl, hm⟩ := take_eq h
  unfold argsP
  rw [if_pos hm, if_pos h8]
theorem args_next {c f : Int} {ks : List Int} {acc : List Trm} {R r : List Tok} {t : Tok} (h : takeP c f ks R = .ok t r) (h8 : acc.length ≠ 8) : argsP c f ks acc R = match takeP c f [7, 6] r with | .bad ec eo => .bad ec eo | .ok s r2 => if s.k = 7 then argsP c f ks (acc ++ [termP t]) r2 else .ok (acc ++ [termP t]) r2 := by
  obtain ⟨rfl, hm⟩ := take_eq h
  rw [argsP.eq_def]
  simp only
  rw [if_pos hm, if_neg h8]
  match r with
  | [] => rfl
  | s :: r' =>
    simp only [takeP]
    by_cases h7 : s.k = 7
    · simp [h7]
    · by_cases h6 : s.k = 6
      · simp [h6]
      · simp [h6, h7]
end Go.Proofs.YtchhophblejmeaaGreatDoor

namespace Go.Proofs.YtchhophblejmeaaGreatDoor
set_option linter.unusedSimpArgs false
set_option linter.unusedVariables false
open Go.RowKit

theorem take_len {c f : Int} {ks : List Int} {R r : List Tok} {t : Tok} (h : takeP c f ks R = .ok t r) : r.length + 1 = R.length := by
  obtain ⟨rfl, _⟩ := take_eq h
  rfl
theorem args_len {c f : Int} {ks : List Int} : ∀ (n : Nat) (acc : List Trm) (R r : List Tok) (ts : List Trm), R.length = n → argsP c f ks acc R = .ok ts r → r.length < R.length := by
  intro n
  induction n using Nat.strongRecOn with
  | ind n ih =>
    intro acc R r ts hn h
    cases hT : takeP c f ks R with
    | bad ec eo => rw [args_bad1 hT] at h; cases h
    | ok t r1 =>
      have l1 := take_len hT
      by_cases h8 : acc.length = 8
      · rw [args_lim hT h8] at h; cases h
      · rw [args_next hT h8] at h
        cases hU : takeP c f [7, 6] r1 with
        | bad ec eo => rw [hU] at h; cases h
        | ok s r2 =>
          have l2 := take_len hU
          rw [hU] at h
          simp only at h
          by_cases h7 : s.k = 7
          · rw [if_pos h7] at h
            have := ih r2.length (by omega) _ r2 r ts rfl h
            omega
          · rw [if_neg h7] at h
            injection h with e1 e2
            subst e2
            omega
theorem atom_len {c f : Int} {ks : List Int} {name : Tok} {R r : List Tok} {a : PAtom} (h : atomP c f ks name R = .ok a r) : r.length ≤ R.length := by
  match R, h with
  | [], h => simp [atomP] at h
  | t :: r1, h =>
    unfold atomP at h
    simp only at h
    by_cases h5 : t.k = 5
    · rw [if_pos h5] at h
      cases hA : argsP c f ks [] r1 with
      | bad ec eo => rw [hA] at h; cases h
      | ok ts r2 =>
        rw [hA] at h
        injection h with e1 e2
        subst e2
        have := args_len _ _ _ _ _ rfl hA
        simp only [List.length_cons]
        omega
    · rw [if_neg h5] at h
      injection h with e1 e2
      subst e2
      exact Nat.le_refl _
theorem lit_len {c f : Int} {first : Tok} {R r : List Tok} {x : PLit} (h : litP c f first R = .ok x r) : r.length ≤ R.length := by
  have test : ∀ (q : PLit) (r : List Tok), (match takeP c f [11] R with
      | .bad c o => PR.bad c o
      | .ok o1 r' => match takeP c f termKs r' with
        | .bad c o => .bad c o
        | .ok t2 r'' => .ok ⟨3, zeroAtom, o1.op, termP first, termP t2, first.off⟩ r'') = PR.ok q r → r.length ≤ R.length := by
    intro q r h
    cases hT : takeP c f [11] R with
    | bad ec eo => rw [hT] at h; cases h
    | ok o1 r1 =>
      rw [hT] at h
      simp only at h
      cases hU : takeP c f termKs r1 with
      | bad ec eo => rw [hU] at h; cases h
      | ok t2 r2 =>
        rw [hU] at h
        injection h with e1 e2
        subst e2
        have := take_len hT
        have := take_len hU
        omega
  unfold litP at h
  by_cases h10 : first.k = 10
  · rw [if_pos h10] at h
    cases hT : takeP c f [1] R with
    | bad ec eo => rw [hT] at h; cases h
    | ok n r1 =>
      rw [hT] at h
      simp only at h
      cases hA : atomP c f termKs n r1 with
      | bad ec eo => rw [hA] at h; cases h
      | ok a r2 =>
        rw [hA] at h
        injection h with e1 e2
        subst e2
        have := take_len hT
        have := atom_len hA
        omega
  · rw [if_neg h10] at h
    simp only at h
    by_cases h1 : first.k = 1
    · rw [if_pos h1] at h
      cases R with
      | nil => cases h
      | cons t r1 =>
        simp only at h
        by_cases h11 : t.k = 11
        · rw [if_pos h11] at h; exact test _ _ h
        · rw [if_neg h11] at h
          cases hA : atomP c f termKs first (t :: r1) with
          | bad ec eo => rw [hA] at h; cases h
          | ok a r2 =>
            rw [hA] at h
            injection h with e1 e2
            subst e2
            exact atom_len hA
    · rw [if_neg h1] at h; exact test _ _ h
theorem body_len {c f : Int} : ∀ (n : Nat) (acc : List PLit) (R r : List Tok) (b : List PLit), bodyF c f n acc R = .ok b r → r.length < R.length := by
  intro n
  induction n with
  | zero => intro acc R r b h; cases h
  | succ n ih =>
    intro acc R r b h
    unfold bodyF at h
    cases hT : takeP c f [1, 10, 2, 3, 4] R with
    | bad ec eo => rw [hT] at h; cases h
    | ok t r1 =>
      rw [hT] at h
      simp only at h
      have l1 := take_len hT
      by_cases h16 : acc.length = 16
      · rw [if_pos h16] at h; cases h
      · rw [if_neg h16] at h
        cases hL : litP c f t r1 with
        | bad ec eo => rw [hL] at h; cases h
        | ok x r2 =>
          rw [hL] at h
          simp only at h
          have l2 := lit_len hL
          cases hU : takeP c f [7, 8] r2 with
          | bad ec eo => rw [hU] at h; cases h
          | ok s r3 =>
            rw [hU] at h
            simp only at h
            have l3 := take_len hU
            by_cases h8 : s.k = 8
            · rw [if_pos h8] at h
              injection h with e1 e2
              subst e2
              omega
            · rw [if_neg h8] at h
              have := ih _ _ _ _ h
              omega
section
variable {c f ec eo : Int} {n : Nat} {acc : List PLit} {R r1 r2 r3 : List Tok} {t s : Tok} {x : PLit}
theorem body_bad1 (hT : takeP c f [1, 10, 2, 3, 4] R = .bad ec eo) : bodyF c f (n + 1) acc R = .bad ec eo := by rw [bodyF, hT]
theorem body_lim (hT : takeP c f [1, 10, 2, 3, 4] R = .ok t r1) (h : acc.length = 16) : bodyF c f (n + 1) acc R = .bad 23 t.off := by rw [bodyF, hT]; simp only; rw [if_pos h]
theorem body_lit (hT : takeP c f [1, 10, 2, 3, 4] R = .ok t r1) (h : acc.length ≠ 16) (hL : litP c f t r1 = .bad ec eo) : bodyF c f (n + 1) acc R = .bad ec eo := by rw [bodyF, hT]; simp only; rw [if_neg h, hL]
theorem body_sep (hT : takeP c f [1, 10, 2, 3, 4] R = .ok t r1) (h : acc.length ≠ 16) (hL : litP c f t r1 = .ok x r2) (hU : takeP c f [7, 8] r2 = .bad ec eo) : bodyF c f (n + 1) acc R = .bad ec eo := by rw [bodyF, hT]; simp only; rw [if_neg h, hL]; simp only; rw [hU]
theorem body_end (hT : takeP c f [1, 10, 2, 3, 4] R = .ok t r1) (h : acc.length ≠ 16) (hL : litP c f t r1 = .ok x r2) (hU : takeP c f [7, 8] r2 = .ok s r3) (h8 : s.k = 8) : bodyF c f (n + 1) acc R = .ok (acc ++ [x]) r3 := by rw [bodyF, hT]; simp only; rw [if_neg h, hL]; simp only; rw [hU]; simp only; rw [if_pos h8]
theorem body_more (hT : takeP c f [1, 10, 2, 3, 4] R = .ok t r1) (h : acc.length ≠ 16) (hL : litP c f t r1 = .ok x r2) (hU : takeP c f [7, 8] r2 = .ok s r3) (h8 : s.k ≠ 8) : bodyF c f (n + 1) acc R = bodyF c f n (acc ++ [x]) r3 := by rw [bodyF, hT]; simp only; rw [if_neg h, hL]; simp only; rw [hU]; simp only; rw [if_neg h8]
end
theorem clause_len {c f : Int} {name : Tok} {R r : List Tok} {x : PCls} (h : clauseP c f name R = .ok x r) : r.length < R.length := by
  unfold clauseP at h
  cases hA : atomP c f termKs name R with
  | bad ec eo => rw [hA] at h; cases h
  | ok a r1 =>
    rw [hA] at h
    simp only at h
    have l1 := atom_len hA
    cases hT : takeP c f [8, 9] r1 with
    | bad ec eo => rw [hT] at h; cases h
    | ok s r2 =>
      rw [hT] at h
      simp only at h
      have l2 := take_len hT
      by_cases h9 : s.k = 9
      · rw [if_pos h9] at h
        cases hB : bodyP c f r2 with
        | bad ec eo => rw [hB] at h; cases h
        | ok b r3 =>
          rw [hB] at h
          injection h with e1 e2
          subst e2
          have := body_len _ _ _ _ _ hB
          omega
      · rw [if_neg h9] at h
        injection h with e1 e2
        subst e2
        omega
section
variable {c f ec eo : Int} {n : Nat} {acc : List PCls} {fs : List PAtom} {R r1 r2 r3 : List Tok} {t s : Tok} {x : PCls} {y : PAtom}
theorem prog_bad1 (hT : takeP c f [1, 0] R = .bad ec eo) : progF c f (n + 1) acc R = .bad ec eo := by rw [progF, hT]
theorem prog_end (hT : takeP c f [1, 0] R = .ok t r1) (h0 : t.k = 0) : progF c f (n + 1) acc R = .ok acc r1 := by rw [progF, hT]; simp only; rw [if_pos h0]
theorem prog_lim (hT : takeP c f [1, 0] R = .ok t r1) (h0 : t.k ≠ 0) (h : acc.length = 512) : progF c f (n + 1) acc R = .bad 24 t.off := by rw [progF, hT]; simp only; rw [if_neg h0, if_pos h]
theorem prog_cls (hT : takeP c f [1, 0] R = .ok t r1) (h0 : t.k ≠ 0) (h : acc.length ≠ 512) (hC : clauseP c f t r1 = .bad ec eo) : progF c f (n + 1) acc R = .bad ec eo := by rw [progF, hT]; simp only; rw [if_neg h0, if_neg h, hC]
theorem prog_more (hT : takeP c f [1, 0] R = .ok t r1) (h0 : t.k ≠ 0) (h : acc.length ≠ 512) (hC : clauseP c f t r1 = .ok x r2) : progF c f (n + 1) acc R = progF c f n (acc ++ [x]) r2 := by rw [progF, hT]; simp only; rw [if_neg h0, if_neg h, hC]
theorem facts_bad1 (hT : takeP c f [1, 0] R = .bad ec eo) : factsF c f (n + 1) fs R = .bad ec eo := by rw [factsF, hT]
theorem facts_end (hT : takeP c f [1, 0] R = .ok t r1) (h0 : t.k = 0) : factsF c f (n + 1) fs R = .ok fs r1 := by rw [factsF, hT]; simp only; rw [if_pos h0]
theorem facts_lim (hT : takeP c f [1, 0] R = .ok t r1) (h0 : t.k ≠ 0) (h : fs.length = 4096) : factsF c f (n + 1) fs R = .bad 24 t.off := by rw [factsF, hT]; simp only; rw [if_neg h0, if_pos h]
theorem facts_atom (hT : takeP c f [1, 0] R = .ok t r1) (h0 : t.k ≠ 0) (h : fs.length ≠ 4096) (hC : atomP c f valueKs t r1 = .bad ec eo) : factsF c f (n + 1) fs R = .bad ec eo := by rw [factsF, hT]; simp only; rw [if_neg h0, if_neg h, hC]
theorem facts_dot (hT : takeP c f [1, 0] R = .ok t r1) (h0 : t.k ≠ 0) (h : fs.length ≠ 4096) (hC : atomP c f valueKs t r1 = .ok y r2) (hD : takeP c f [8] r2 = .bad ec eo) : factsF c f (n + 1) fs R = .bad ec eo := by rw [factsF, hT]; simp only; rw [if_neg h0, if_neg h, hC]; simp only; rw [hD]
theorem facts_more (hT : takeP c f [1, 0] R = .ok t r1) (h0 : t.k ≠ 0) (h : fs.length ≠ 4096) (hC : atomP c f valueKs t r1 = .ok y r2) (hD : takeP c f [8] r2 = .ok s r3) : factsF c f (n + 1) fs R = factsF c f n (fs ++ [y]) r3 := by rw [factsF, hT]; simp only; rw [if_neg h0, if_neg h, hC]; simp only; rw [hD]
end
end Go.Proofs.YtchhophblejmeaaGreatDoor

namespace Go.Proofs.YtchhophblejmeaaGreatDoor
set_option linter.unusedSimpArgs false
set_option linter.unusedVariables false
open Go.RowKit

theorem parse_i64 {l : List UInt8} {v : Int} (h : Lib.parseIntB 64 l = .ok v) : I64 v := by
  unfold Lib.parseIntB at h
  cases l with
  | nil => cases h
  | cons c r =>
    simp only at h
    cases hu : Lib.parseUintB 64 (if c.toNat = 43 ∨ c.toNat = 45 then r else c :: r) with
    | «syntax» => rw [hu] at h; cases h
    | range => rw [hu] at h; cases h
    | ok u =>
      rw [hu] at h
      simp only at h
      by_cases h1 : ¬ c.toNat = 45 ∧ 2 ^ (64 - 1) ≤ u
      · rw [if_pos h1] at h; cases h
      · rw [if_neg h1] at h
        by_cases h2 : c.toNat = 45 ∧ 2 ^ (64 - 1) < u
        · rw [if_pos h2] at h; cases h
        · rw [if_neg h2] at h
          injection h with h
          subst h
          unfold I64
          by_cases h3 : c.toNat = 45
          · rw [if_pos h3]; simp only [h3, true_and] at h2; omega
          · rw [if_neg h3]; simp only [h3, not_false_eq_true, true_and] at h1; omega

theorem push_size (vs : List Int) : ∀ b : ByteArray, (vs.foldl (fun r n => r.push (UInt8.ofNat n.toNat)) b).size = b.size + vs.length := by
  induction vs with
  | nil => intro b; simp
  | cons a r ih => intro b; rw [List.foldl_cons, ih, ByteArray.size_push, List.length_cons]; omega
theorem textF_good (s : ByteArray) (o : Nat) : ∀ (n i : Nat) (vs : List Int) (t : Tok), s.size - i = n → vs.length ≤ 255 → textF s o i vs = .tok t → t.k = 4 ∧ t.n = 0 ∧ t.op = 0 ∧ t.t.size ≤ 255 := by
  intro n
  induction n using Nat.strongRecOn with
  | ind n ih =>
    intro i vs t hn hv h
    rw [textF] at h
    by_cases h1 : i < s.size
    · rw [dif_pos h1] at h
      by_cases h2 : (s[i].toNat : Int) < 32
      · rw [if_pos h2] at h; cases h
      rw [if_neg h2] at h
      by_cases h3 : (s[i].toNat : Int) = 34
      · rw [if_pos h3] at h
        injection h with h
        subst h
        exact ⟨rfl, rfl, rfl, by show (strOf vs).size ≤ 255; rw [strOf_size]; exact hv⟩
      rw [if_neg h3] at h
      by_cases h4 : (s[i].toNat : Int) = 92
      · rw [if_pos h4] at h
        by_cases h5 : (escX (s.extract i s.size)).2.toNat = 0
        · rw [dif_pos h5] at h; cases h
        rw [dif_neg h5] at h
        by_cases h6 : vs.length = 255
        · rw [if_pos h6] at h; cases h
        rw [if_neg h6] at h
        exact ih (s.size - (i + (escX (s.extract i s.size)).2.toNat)) (by omega) _ _ t rfl (by simp; omega) h
      rw [if_neg h4] at h
      by_cases h6 : vs.length = 255
      · rw [if_pos h6] at h; cases h
      rw [if_neg h6] at h
      exact ih (s.size - (i + 1)) (by omega) _ _ t rfl (by simp; omega) h
    · rw [dif_neg h1] at h; cases h

theorem i64_small {x : Int} (h : -100 ≤ x ∧ x ≤ 100) : I64 x := by unfold I64; omega
theorem punctL_good {l : List UInt8} {n : Nat} {k op : Int} : ∀ {ms : List (List UInt8 × Int × Int)}, (∀ m ∈ ms, (0 ≤ m.2.1 ∧ m.2.1 ≤ 100) ∧ (0 ≤ m.2.2 ∧ m.2.2 ≤ 100)) → punctL ms l = some (n, k, op) → (0 ≤ k ∧ k ≤ 100) ∧ (0 ≤ op ∧ op ≤ 100)
  | [], _, h => by simp [punctL] at h
  | m :: r, hm, h => by
    unfold punctL at h
    by_cases h1 : Lib.hasPrefix l m.1 = true
    · rw [if_pos h1] at h
      simp only [Option.some.injEq, Prod.mk.injEq] at h
      obtain ⟨-, rfl, rfl⟩ := h
      exact hm m List.mem_cons_self
    · rw [if_neg h1] at h
      exact punctL_good (fun m' hm' => hm m' (List.mem_cons_of_mem _ hm')) h

theorem tokAt_good {s : ByteArray} {g : Nat} {t : Tok} (hs : s.size ≤ 65536) (hg : g ≤ s.size) (h : tokAt s g = .tok t) : t.good := by
  have ho := (tokAt_en hg h).1
  have key : t.t.size ≤ 65536 ∧ I64 t.k ∧ I64 t.n ∧ I64 t.op := by
    unfold tokAt at h
    by_cases h0 : g < s.size
    · rw [dif_pos h0] at h
      split at h
      · unfold wordX at h
        simp only at h
        split at h
        · cases h
        · next hm =>
          have hz : (s.extract g (g + runC (rest s g))).size ≤ 65536 := by rw [ByteArray.size_extract]; omega
          split at h
          · injection h with h; subst h; exact ⟨by show (0 : Nat) ≤ 65536; omega, i64_small (by simp), i64_small (by simp), i64_small (by simp)⟩
          · split at h
            · injection h with h; subst h; exact ⟨hz, i64_small (by simp), i64_small (by simp), i64_small (by simp)⟩
            · injection h with h; subst h; exact ⟨hz, i64_small (by simp), i64_small (by simp), i64_small (by simp)⟩
      · split at h
        · unfold intX at h
          split at h
          · next v hv => injection h with h; subst h; exact ⟨by show (0 : Nat) ≤ 65536; omega, i64_small (by simp), parse_i64 hv, i64_small (by simp)⟩
          · cases h
        · split at h
          · obtain ⟨h1, h2, h3, h4⟩ := textF_good s g _ _ _ _ rfl (by simp) h
            exact ⟨by omega, by rw [h1]; exact i64_small (by simp), by rw [h2]; exact i64_small (by simp), by rw [h3]; exact i64_small (by simp)⟩
          · unfold punctX at h
            cases hp : punctL marksT (rest s g) with
            | none => rw [hp] at h; cases h
            | some x =>
              obtain ⟨n, k, op⟩ := x
              rw [hp] at h
              injection h with h
              subst h
              have := punctL_good (by decide) hp
              exact ⟨by show (0 : Nat) ≤ 65536; omega, i64_small (by show -100 ≤ k ∧ k ≤ 100; omega), i64_small (by simp), i64_small (by show -100 ≤ op ∧ op ≤ 100; omega)⟩
    · rw [dif_neg h0] at h
      injection h with h; subst h; exact ⟨by show (0 : Nat) ≤ 65536; omega, i64_small (by simp), i64_small (by simp), i64_small (by simp)⟩
  exact ⟨key.1, key.2.1, key.2.2.1, key.2.2.2, by omega⟩
theorem next_good {s : ByteArray} {o : Nat} {t : Tok} (hs : s.size ≤ 65536) (ho : o ≤ s.size) (h : nextX s o = .tok t) : t.good := by
  have h1 := next_tok ho h
  unfold nextX at h
  rw [if_pos h1.1] at h
  exact tokAt_good hs (gapW_le s o ho).2 h
theorem toks_good {s : ByteArray} (hs : s.size ≤ 65536) {o : Nat} {L : List Tok} {c : Int} {f : Nat} (h : Toks s o L c f) : (∀ t ∈ L, t.good) ∧ L.length + o ≤ s.size + 1 := by
  induction h with
  | bad ho hx => exact ⟨by simp, by simp; omega⟩
  | last ho hx hk => exact ⟨fun t ht => by simp only [List.mem_singleton] at ht; subst ht; exact next_good hs ho hx, by simp; omega⟩
  | more ho hx hk T ih =>
    obtain ⟨-, -, h1, h2⟩ := next_tok ho hx
    obtain ⟨_, h3, h4⟩ := h2.resolve_left (fun h => hk h.1)
    refine ⟨fun t ht => ?_, by simp only [List.length_cons]; omega⟩
    rcases List.mem_cons.1 ht with rfl | ht
    · exact next_good hs ho hx
    · exact ih.1 t ht
theorem scan_good (s : ByteArray) : (∀ t ∈ (scanX s).1, t.good) ∧ (scanX s).1.length ≤ 65538 := by
  by_cases hs : s.size ≤ 65536
  · have := toks_good hs (scan_toks s hs)
    exact ⟨this.1, by omega⟩
  · have e : scanX s = ([], 1, 0) := if_pos (by omega)
    rw [e]
    exact ⟨by simp, by simp⟩
end Go.Proofs.YtchhophblejmeaaGreatDoor

namespace Go.Proofs.YtchhophblejmeaaGreatDoor
set_option linter.unusedSimpArgs false
set_option linter.unusedVariables false
open Go.RowKit

/-- No token follows for a reason, or the end is still ahead. -/
def NE (c : Int) (R : List Tok) : Prop := c ≠ 0 ∨ ∃ t ∈ R, t.k = 0
def Bd {α : Type} (c : Int) : PR α → Prop
  | .bad ec _ => ec ≠ 0
  | .ok _ r => NE c r
theorem misK_ne (k : Int) : misK k ≠ 0 := by unfold misK; split <;> decide
theorem NE.next {c : Int} {t : Tok} {r : List Tok} (h : NE c (t :: r)) (ht : t.k ≠ 0) : NE c r := by
  rcases h with h | ⟨x, hx, h0⟩
  · exact .inl h
  · rcases List.mem_cons.1 hx with rfl | hx
    · exact absurd h0 ht
    · exact .inr ⟨x, hx, h0⟩
theorem NE.nil {c : Int} (h : NE c []) : c ≠ 0 := by
  rcases h with h | ⟨x, hx, _⟩
  · exact h
  · cases hx
theorem take_bd {c f : Int} {ks : List Int} {R : List Tok} (h : NE c R) (h0 : (0 : Int) ∉ ks) : Bd c (takeP c f ks R) := by
  match R, h with
  | [], h => exact h.nil
  | t :: r, h =>
    simp only [takeP]
    by_cases hm : t.k ∈ ks
    · rw [if_pos hm]; exact h.next (fun e => h0 (e ▸ hm))
    · rw [if_neg hm]; exact misK_ne _
theorem take_bd0 {c f ec eo : Int} {ks : List Int} {R : List Tok} (h : NE c R) (hT : takeP c f ks R = .bad ec eo) : ec ≠ 0 := by
  match R, h, hT with
  | [], h, hT => simp only [takeP] at hT; injection hT with e1 e2; subst e1; exact h.nil
  | t :: r, h, hT =>
    simp only [takeP] at hT
    by_cases hm : t.k ∈ ks
    · rw [if_pos hm] at hT; cases hT
    · rw [if_neg hm] at hT; injection hT with e1 e2; subst e1; exact misK_ne _
theorem bd_bad {α : Type} {c ec eo : Int} {x : PR α} (h : Bd c x) (e : x = .bad ec eo) : ec ≠ 0 := by subst e; exact h
theorem bd_ok {α : Type} {c : Int} {x : PR α} {a : α} {r : List Tok} (h : Bd c x) (e : x = .ok a r) : NE c r := by subst e; exact h
theorem args_bd {c f : Int} {ks : List Int} (h0 : (0 : Int) ∉ ks) : ∀ (n : Nat) (acc : List Trm) (R : List Tok), R.length = n → NE c R → Bd c (argsP c f ks acc R) := by
  intro n
  induction n using Nat.strongRecOn with
  | ind n ih =>
    intro acc R hn h
    have b1 := take_bd (f := f) h h0
    cases hT : takeP c f ks R with
    | bad ec eo => rw [args_bad1 hT]; exact bd_bad b1 hT
    | ok t r1 =>
      have l1 := take_len hT
      by_cases h8 : acc.length = 8
      · rw [args_lim hT h8]; show (22 : Int) ≠ 0; decide
      · rw [args_next hT h8]
        have b2 := take_bd (f := f) (ks := [7, 6]) (bd_ok b1 hT) (by decide)
        cases hU : takeP c f [7, 6] r1 with
        | bad ec eo => exact bd_bad b2 hU
        | ok s r2 =>
          have l2 := take_len hU
          simp only
          by_cases h7 : s.k = 7
          · rw [if_pos h7]; exact ih r2.length (by omega) _ r2 rfl (bd_ok b2 hU)
          · rw [if_neg h7]; exact bd_ok b2 hU
theorem atom_bd {c f : Int} {ks : List Int} (h0 : (0 : Int) ∉ ks) {name : Tok} {R : List Tok} (h : NE c R) : Bd c (atomP c f ks name R) := by
  match R, h with
  | [], h => exact h.nil
  | t :: r1, h =>
    unfold atomP
    simp only
    by_cases h5 : t.k = 5
    · rw [if_pos h5]
      have b := args_bd (f := f) h0 _ [] r1 rfl (h.next (by omega))
      cases hA : argsP c f ks [] r1 with
      | bad ec eo => exact bd_bad b hA
      | ok ts r2 => exact bd_ok b hA
    · rw [if_neg h5]; exact h
theorem lit_bd {c f : Int} {first : Tok} {R : List Tok} (h : NE c R) : Bd c (litP c f first R) := by
  have test : Bd c (match takeP c f [11] R with
      | .bad c o => PR.bad c o
      | .ok o1 r' => match takeP c f termKs r' with
        | .bad c o => .bad c o
        | .ok t2 r'' => .ok (⟨3, zeroAtom, o1.op, termP first, termP t2, first.off⟩ : PLit) r'') := by
    have b1 := take_bd (f := f) (ks := [11]) h (by decide)
    cases hT : takeP c f [11] R with
    | bad ec eo => exact bd_bad b1 hT
    | ok o1 r1 =>
      simp only
      have b2 := take_bd (f := f) (ks := termKs) (bd_ok b1 hT) (by decide)
      cases hU : takeP c f termKs r1 with
      | bad ec eo => exact bd_bad b2 hU
      | ok t2 r2 => exact bd_ok b2 hU
  unfold litP
  by_cases h10 : first.k = 10
  · rw [if_pos h10]
    have b1 := take_bd (f := f) (ks := [1]) h (by decide)
    cases hT : takeP c f [1] R with
    | bad ec eo => exact bd_bad b1 hT
    | ok n r1 =>
      simp only
      have b2 := atom_bd (f := f) (ks := termKs) (by decide) (name := n) (bd_ok b1 hT)
      cases hA : atomP c f termKs n r1 with
      | bad ec eo => exact bd_bad b2 hA
      | ok a r2 => exact bd_ok b2 hA
  · rw [if_neg h10]
    simp only
    by_cases h1 : first.k = 1
    · rw [if_pos h1]
      cases R with
      | nil => exact h.nil
      | cons t r1 =>
        simp only
        by_cases h11 : t.k = 11
        · rw [if_pos h11]; exact test
        · rw [if_neg h11]
          have b2 := atom_bd (f := f) (ks := termKs) (by decide) (name := first) h
          cases hA : atomP c f termKs first (t :: r1) with
          | bad ec eo => exact bd_bad b2 hA
          | ok a r2 => exact bd_ok b2 hA
    · rw [if_neg h1]; exact test
theorem body_bd {c f : Int} : ∀ (n : Nat) (acc : List PLit) (R : List Tok), R.length < n → NE c R → Bd c (bodyF c f n acc R) := by
  intro n
  induction n with
  | zero => intro acc R hn; omega
  | succ n ih =>
    intro acc R hn h
    have b1 := take_bd (f := f) (ks := [1, 10, 2, 3, 4]) h (by decide)
    cases hT : takeP c f [1, 10, 2, 3, 4] R with
    | bad ec eo => rw [body_bad1 hT]; exact bd_bad b1 hT
    | ok t r1 =>
      have l1 := take_len hT
      by_cases h16 : acc.length = 16
      · rw [body_lim hT h16]; show (23 : Int) ≠ 0; decide
      · have b2 := lit_bd (f := f) (first := t) (bd_ok b1 hT)
        cases hL : litP c f t r1 with
        | bad ec eo => rw [body_lit hT h16 hL]; exact bd_bad b2 hL
        | ok x r2 =>
          have l2 := lit_len hL
          have b3 := take_bd (f := f) (ks := [7, 8]) (bd_ok b2 hL) (by decide)
          cases hU : takeP c f [7, 8] r2 with
          | bad ec eo => rw [body_sep hT h16 hL hU]; exact bd_bad b3 hU
          | ok s r3 =>
            have l3 := take_len hU
            by_cases h8 : s.k = 8
            · rw [body_end hT h16 hL hU h8]; exact bd_ok b3 hU
            · rw [body_more hT h16 hL hU h8]; exact ih _ _ (by omega) (bd_ok b3 hU)
theorem clause_bd {c f : Int} {name : Tok} {R : List Tok} (h : NE c R) : Bd c (clauseP c f name R) := by
  unfold clauseP
  have b1 := atom_bd (f := f) (ks := termKs) (by decide) (name := name) h
  cases hA : atomP c f termKs name R with
  | bad ec eo => exact bd_bad b1 hA
  | ok a r1 =>
    simp only
    have b2 := take_bd (f := f) (ks := [8, 9]) (bd_ok b1 hA) (by decide)
    cases hT : takeP c f [8, 9] r1 with
    | bad ec eo => exact bd_bad b2 hT
    | ok s r2 =>
      simp only
      by_cases h9 : s.k = 9
      · rw [if_pos h9]
        have b3 := body_bd (f := f) (r2.length + 1) [] r2 (by omega) (bd_ok b2 hT)
        cases hB : bodyP c f r2 with
        | bad ec eo => exact bd_bad b3 hB
        | ok b r3 => exact bd_ok b3 hB
      · rw [if_neg h9]; exact bd_ok b2 hT
theorem prog_ne {c f ec eo : Int} : ∀ (n : Nat) (acc : List PCls) (R : List Tok), R.length < n → NE c R → progF c f n acc R = .bad ec eo → ec ≠ 0 := by
  intro n
  induction n with
  | zero => intro acc R hn; omega
  | succ n ih =>
    intro acc R hn h he
    cases hT : takeP c f [1, 0] R with
    | bad e1 e2 => rw [prog_bad1 hT] at he; injection he with q1 q2; subst q1; exact take_bd0 h hT
    | ok t r1 =>
      have l1 := take_len hT
      by_cases h0 : t.k = 0
      · rw [prog_end hT h0] at he; cases he
      · have n1 : NE c r1 := by rw [(take_eq hT).1] at h; exact h.next h0
        by_cases h5 : acc.length = 512
        · rw [prog_lim hT h0 h5] at he; injection he with q1 q2; subst q1; decide
        · have b := clause_bd (f := f) (name := t) n1
          cases hC : clauseP c f t r1 with
          | bad e1 e2 => rw [prog_cls hT h0 h5 hC] at he; injection he with q1 q2; subst q1; exact bd_bad b hC
          | ok x r2 =>
            have l2 := clause_len hC
            rw [prog_more hT h0 h5 hC] at he
            exact ih _ _ (by omega) (bd_ok b hC) he
theorem facts_ne {c f ec eo : Int} : ∀ (n : Nat) (acc : List PAtom) (R : List Tok), R.length < n → NE c R → factsF c f n acc R = .bad ec eo → ec ≠ 0 := by
  intro n
  induction n with
  | zero => intro acc R hn; omega
  | succ n ih =>
    intro acc R hn h he
    cases hT : takeP c f [1, 0] R with
    | bad e1 e2 => rw [facts_bad1 hT] at he; injection he with q1 q2; subst q1; exact take_bd0 h hT
    | ok t r1 =>
      have l1 := take_len hT
      by_cases h0 : t.k = 0
      · rw [facts_end hT h0] at he; cases he
      · have n1 : NE c r1 := by rw [(take_eq hT).1] at h; exact h.next h0
        by_cases h5 : acc.length = 4096
        · rw [facts_lim hT h0 h5] at he; injection he with q1 q2; subst q1; decide
        · have b := atom_bd (f := f) (ks := valueKs) (by decide) (name := t) n1
          cases hC : atomP c f valueKs t r1 with
          | bad e1 e2 => rw [facts_atom hT h0 h5 hC] at he; injection he with q1 q2; subst q1; exact bd_bad b hC
          | ok x r2 =>
            have l2 := atom_len hC
            have b2 := take_bd (f := f) (ks := [8]) (bd_ok b hC) (by decide)
            cases hD : takeP c f [8] r2 with
            | bad e1 e2 => rw [facts_dot hT h0 h5 hC hD] at he; injection he with q1 q2; subst q1; exact bd_bad b2 hD
            | ok s r3 =>
              have l3 := take_len hD
              rw [facts_more hT h0 h5 hC hD] at he
              exact ih _ _ (by omega) (bd_ok b2 hD) he
theorem toks_ne {s : ByteArray} {o : Nat} {L : List Tok} {c : Int} {f : Nat} (h : Toks s o L c f) : NE c L := by
  induction h with
  | bad ho hx => rcases next_bad hx with h | h <;> exact .inl (by omega)
  | last ho hx hk => exact .inr ⟨_, List.mem_singleton.2 rfl, hk⟩
  | more ho hx hk T ih =>
    rcases ih with h | ⟨x, hx, h0⟩
    · exact .inl h
    · exact .inr ⟨x, List.mem_cons_of_mem _ hx, h0⟩
theorem scan_ne (s : ByteArray) : NE (scanX s).2.1 (scanX s).1 := by
  by_cases hs : s.size ≤ 65536
  · exact toks_ne (scan_toks s hs)
  · have e : scanX s = ([], 1, 0) := if_pos (by omega)
    rw [e]; exact .inl (by decide)
end Go.Proofs.YtchhophblejmeaaGreatDoor

namespace Go.Proofs.YtchhophblejmeaaGreatDoor
set_option linter.unusedSimpArgs false
set_option linter.unusedVariables false
open Go.RowKit

def mkC (a : PAtom) : PCls := ⟨a, []⟩
def gAtom (a : PAtom) : Bool := a.ts.all fun t => t.k != 4
def gCls (x : PCls) : Bool := x.b.isEmpty && gAtom x.h
theorem value_term {k : Int} (h : k ∈ valueKs) : k ∈ termKs ∧ kindT k ≠ 4 := by
  simp only [valueKs, List.mem_cons, List.not_mem_nil, or_false] at h
  rcases h with rfl | rfl | rfl <;> exact ⟨by decide, by decide⟩
theorem term_value {k : Int} (h : k ∈ termKs) (h4 : kindT k ≠ 4) : k ∈ valueKs := by
  simp only [termKs, List.mem_cons, List.not_mem_nil, or_false] at h
  rcases h with rfl | rfl | rfl | rfl
  · exact absurd rfl h4
  all_goals decide
theorem take_sub {c f : Int} {ks ls : List Int} {R r : List Tok} {t : Tok} (h : takeP c f ks R = .ok t r) (hl : t.k ∈ ls) : takeP c f ls R = .ok t r := by
  obtain ⟨rfl, _⟩ := take_eq h
  simp only [takeP]
  rw [if_pos hl]
theorem args_val {c f : Int} : ∀ (n : Nat) (acc : List Trm) (R r : List Tok) (ts : List Trm), R.length = n → argsP c f valueKs acc R = .ok ts r → argsP c f termKs acc R = .ok ts r ∧ ∃ us, ts = acc ++ us ∧ ∀ u ∈ us, u.k ≠ 4 := by
  intro n
  induction n using Nat.strongRecOn with
  | ind n ih =>
    intro acc R r ts hn h
    cases hT : takeP c f valueKs R with
    | bad ec eo => rw [args_bad1 hT] at h; cases h
    | ok t r1 =>
      have l1 := take_len hT
      have hv := value_term (take_eq hT).2
      have hT2 := take_sub hT hv.1
      by_cases h8 : acc.length = 8
      · rw [args_lim hT h8] at h; cases h
      · rw [args_next hT h8] at h
        rw [args_next hT2 h8]
        cases hU : takeP c f [7, 6] r1 with
        | bad ec eo => rw [hU] at h; cases h
        | ok s r2 =>
          have l2 := take_len hU
          rw [hU] at h
          simp only at h ⊢
          by_cases h7 : s.k = 7
          · rw [if_pos h7] at h ⊢
            obtain ⟨q1, us, q2, q3⟩ := ih r2.length (by omega) _ r2 r ts rfl h
            refine ⟨q1, termP t :: us, by rw [q2, List.append_assoc]; rfl, fun u hu => ?_⟩
            rcases List.mem_cons.1 hu with rfl | hu
            · exact hv.2
            · exact q3 u hu
          · rw [if_neg h7] at h ⊢
            injection h with e1 e2
            subst e1 e2
            exact ⟨rfl, [termP t], rfl, fun u hu => by simp only [List.mem_singleton] at hu; subst hu; exact hv.2⟩
theorem args_term {c f : Int} : ∀ (n : Nat) (acc : List Trm) (R r : List Tok) (ts : List Trm), R.length = n → argsP c f termKs acc R = .ok ts r → (∃ us, ts = acc ++ us) ∧ ((∀ u ∈ ts, u.k ≠ 4) → argsP c f valueKs acc R = .ok ts r) := by
  intro n
  induction n using Nat.strongRecOn with
  | ind n ih =>
    intro acc R r ts hn h
    cases hT : takeP c f termKs R with
    | bad ec eo => rw [args_bad1 hT] at h; cases h
    | ok t r1 =>
      have l1 := take_len hT
      have ht := (take_eq hT).2
      by_cases h8 : acc.length = 8
      · rw [args_lim hT h8] at h; cases h
      · rw [args_next hT h8] at h
        cases hU : takeP c f [7, 6] r1 with
        | bad ec eo => rw [hU] at h; cases h
        | ok s r2 =>
          have l2 := take_len hU
          rw [hU] at h
          simp only at h
          by_cases h7 : s.k = 7
          · rw [if_pos h7] at h
            obtain ⟨⟨us, q2⟩, q1⟩ := ih r2.length (by omega) _ r2 r ts rfl h
            refine ⟨⟨termP t :: us, by rw [q2, List.append_assoc]; rfl⟩, fun hg => ?_⟩
            have hv := term_value ht (hg (termP t) (by rw [q2]; simp))
            rw [args_next (take_sub hT hv) h8, hU]
            simp only
            rw [if_pos h7]
            exact q1 hg
          · rw [if_neg h7] at h
            injection h with e1 e2
            subst e1 e2
            refine ⟨⟨_, rfl⟩, fun hg => ?_⟩
            have hv := term_value ht (hg (termP t) (by simp))
            rw [args_next (take_sub hT hv) h8, hU]
            simp only
            rw [if_neg h7]
theorem atom_val {c f : Int} {name : Tok} {R r : List Tok} {a : PAtom} (h : atomP c f valueKs name R = .ok a r) : atomP c f termKs name R = .ok a r ∧ gAtom a = true := by
  match R, h with
  | [], h => simp [atomP] at h
  | t :: r1, h =>
    unfold atomP at h ⊢
    simp only at h ⊢
    by_cases h5 : t.k = 5
    · rw [if_pos h5] at h ⊢
      cases hA : argsP c f valueKs [] r1 with
      | bad ec eo => rw [hA] at h; cases h
      | ok ts r2 =>
        rw [hA] at h
        injection h with e1 e2
        subst e1 e2
        obtain ⟨q1, us, q2, q3⟩ := args_val _ _ _ _ _ rfl hA
        rw [q1]
        refine ⟨rfl, ?_⟩
        unfold gAtom
        rw [List.all_eq_true]
        intro u hu
        have := q3 u (by rw [q2] at hu; simpa using hu)
        simpa using this
    · rw [if_neg h5] at h ⊢
      injection h with e1 e2
      subst e1 e2
      exact ⟨rfl, rfl⟩
theorem atom_term {c f : Int} {name : Tok} {R r : List Tok} {a : PAtom} (h : atomP c f termKs name R = .ok a r) (hg : gAtom a = true) : atomP c f valueKs name R = .ok a r := by
  match R, h with
  | [], h => simp [atomP] at h
  | t :: r1, h =>
    unfold atomP at h ⊢
    simp only at h ⊢
    by_cases h5 : t.k = 5
    · rw [if_pos h5] at h ⊢
      cases hA : argsP c f termKs [] r1 with
      | bad ec eo => rw [hA] at h; cases h
      | ok ts r2 =>
        rw [hA] at h
        injection h with e1 e2
        subst e1 e2
        rw [(args_term _ _ _ _ _ rfl hA).2 (fun u hu => by unfold gAtom at hg; have := List.all_eq_true.1 hg u hu; simpa using this)]
    · rw [if_neg h5] at h ⊢
      exact h
theorem body_nonempty {c f : Int} : ∀ (n : Nat) (acc : List PLit) (R r : List Tok) (b : List PLit), bodyF c f n acc R = .ok b r → b ≠ [] := by
  intro n
  induction n with
  | zero => intro acc R r b h; cases h
  | succ n ih =>
    intro acc R r b h
    cases hT : takeP c f [1, 10, 2, 3, 4] R with
    | bad ec eo => rw [body_bad1 hT] at h; cases h
    | ok t r1 =>
      by_cases h16 : acc.length = 16
      · rw [body_lim hT h16] at h; cases h
      · cases hL : litP c f t r1 with
        | bad ec eo => rw [body_lit hT h16 hL] at h; cases h
        | ok x r2 =>
          cases hU : takeP c f [7, 8] r2 with
          | bad ec eo => rw [body_sep hT h16 hL hU] at h; cases h
          | ok s r3 =>
            by_cases h8 : s.k = 8
            · rw [body_end hT h16 hL hU h8] at h; injection h with e1 e2; subst e1; simp
            · rw [body_more hT h16 hL hU h8] at h; exact ih _ _ _ _ h
theorem clause_fact {c f : Int} {name s : Tok} {R r2 r3 : List Tok} {a : PAtom} (hA : atomP c f valueKs name R = .ok a r2) (hD : takeP c f [8] r2 = .ok s r3) : clauseP c f name R = .ok (mkC a) r3 := by
  have h8 : s.k = 8 := by simpa using (take_eq hD).2
  unfold clauseP
  rw [(atom_val hA).1]
  simp only
  rw [take_sub hD (ls := [8, 9]) (by rw [h8]; decide)]
  simp only
  rw [if_neg (by omega)]
  rfl
theorem fact_clause {c f : Int} {name : Tok} {R r : List Tok} {x : PCls} (h : clauseP c f name R = .ok x r) (hg : gCls x = true) : ∃ s r2, atomP c f valueKs name R = .ok x.h r2 ∧ takeP c f [8] r2 = .ok s r ∧ x = mkC x.h := by
  unfold gCls at hg
  simp only [Bool.and_eq_true, List.isEmpty_iff] at hg
  unfold clauseP at h
  cases hA : atomP c f termKs name R with
  | bad ec eo => rw [hA] at h; cases h
  | ok a r1 =>
    rw [hA] at h
    simp only at h
    cases hT : takeP c f [8, 9] r1 with
    | bad ec eo => rw [hT] at h; cases h
    | ok s r2 =>
      rw [hT] at h
      simp only at h
      by_cases h9 : s.k = 9
      · rw [if_pos h9] at h
        cases hB : bodyP c f r2 with
        | bad ec eo => rw [hB] at h; cases h
        | ok b r3 =>
          rw [hB] at h
          injection h with e1 e2
          subst e1
          exact absurd hg.1 (body_nonempty _ _ _ _ _ hB)
      · rw [if_neg h9] at h
        injection h with e1 e2
        subst e1 e2
        have h8 : s.k = 8 := by have := (take_eq hT).2; simp at this; omega
        exact ⟨s, r1, atom_term hA hg.2, take_sub hT (by rw [h8]; decide), rfl⟩
theorem facts_more_len {c f : Int} : ∀ (n : Nat) (fs : List PAtom) (R r : List Tok) (out : List PAtom), factsF c f n fs R = .ok out r → ∃ us, out = fs ++ us := by
  intro n
  induction n with
  | zero => intro fs R r out h; cases h
  | succ n ih =>
    intro fs R r out h
    cases hT : takeP c f [1, 0] R with
    | bad e1 e2 => rw [facts_bad1 hT] at h; cases h
    | ok t r1 =>
      by_cases h0 : t.k = 0
      · rw [facts_end hT h0] at h; injection h with e1 e2; subst e1; exact ⟨[], by simp⟩
      · by_cases h5 : fs.length = 4096
        · rw [facts_lim hT h0 h5] at h; cases h
        · cases hC : atomP c f valueKs t r1 with
          | bad e1 e2 => rw [facts_atom hT h0 h5 hC] at h; cases h
          | ok x r2 =>
            cases hD : takeP c f [8] r2 with
            | bad e1 e2 => rw [facts_dot hT h0 h5 hC hD] at h; cases h
            | ok s r3 =>
              rw [facts_more hT h0 h5 hC hD] at h
              obtain ⟨us, e⟩ := ih _ _ _ _ h
              exact ⟨x :: us, by rw [e, List.append_assoc]; rfl⟩
/-- A facts text of up to 512 facts is a program of just these. -/
theorem facts_prog {c f : Int} : ∀ (n : Nat) (fs : List PAtom) (R r : List Tok) (out : List PAtom), factsF c f n fs R = .ok out r → out.length ≤ 512 → progF c f n (fs.map mkC) R = .ok (out.map mkC) r ∧ ((∀ a ∈ fs, gAtom a = true) → ∀ a ∈ out, gAtom a = true) := by
  intro n
  induction n with
  | zero => intro fs R r out h; cases h
  | succ n ih =>
    intro fs R r out h hl
    cases hT : takeP c f [1, 0] R with
    | bad e1 e2 => rw [facts_bad1 hT] at h; cases h
    | ok t r1 =>
      by_cases h0 : t.k = 0
      · rw [facts_end hT h0] at h; injection h with e1 e2; subst e1 e2; exact ⟨prog_end hT h0, fun h => h⟩
      · by_cases h5 : fs.length = 4096
        · rw [facts_lim hT h0 h5] at h; cases h
        · cases hC : atomP c f valueKs t r1 with
          | bad e1 e2 => rw [facts_atom hT h0 h5 hC] at h; cases h
          | ok x r2 =>
            cases hD : takeP c f [8] r2 with
            | bad e1 e2 => rw [facts_dot hT h0 h5 hC hD] at h; cases h
            | ok s r3 =>
              rw [facts_more hT h0 h5 hC hD] at h
              obtain ⟨us, e⟩ := facts_more_len _ _ _ _ _ h
              obtain ⟨q1, q2⟩ := ih _ _ _ _ h hl
              have hne : (fs.map mkC).length ≠ 512 := by
                have := congrArg List.length e
                simp only [List.length_append, List.length_singleton] at this
                rw [List.length_map]; omega
              rw [prog_more hT h0 hne (clause_fact hC hD)]
              rw [List.map_append, List.map_singleton] at q1
              exact ⟨q1, fun hg => q2 (fun a ha => (List.mem_append.1 ha).elim (hg a) (fun e => by simp only [List.mem_singleton] at e; subst e; exact (atom_val hC).2))⟩
theorem prog_len {c f : Int} : ∀ (n : Nat) (acc : List PCls) (R r : List Tok) (out : List PCls), progF c f n acc R = .ok out r → ∃ us, out = acc ++ us := by
  intro n
  induction n with
  | zero => intro acc R r out h; cases h
  | succ n ih =>
    intro acc R r out h
    cases hT : takeP c f [1, 0] R with
    | bad e1 e2 => rw [prog_bad1 hT] at h; cases h
    | ok t r1 =>
      by_cases h0 : t.k = 0
      · rw [prog_end hT h0] at h; injection h with e1 e2; subst e1; exact ⟨[], by simp⟩
      · by_cases h5 : acc.length = 512
        · rw [prog_lim hT h0 h5] at h; cases h
        · cases hC : clauseP c f t r1 with
          | bad e1 e2 => rw [prog_cls hT h0 h5 hC] at h; cases h
          | ok x r2 =>
            rw [prog_more hT h0 h5 hC] at h
            obtain ⟨us, e⟩ := ih _ _ _ _ h
            exact ⟨x :: us, by rw [e, List.append_assoc]; rfl⟩
theorem prog_most {c f : Int} : ∀ (n : Nat) (acc : List PCls) (R r : List Tok) (out : List PCls), acc.length ≤ 512 → progF c f n acc R = .ok out r → out.length ≤ 512 := by
  intro n
  induction n with
  | zero => intro acc R r out _ h; cases h
  | succ n ih =>
    intro acc R r out hl h
    cases hT : takeP c f [1, 0] R with
    | bad e1 e2 => rw [prog_bad1 hT] at h; cases h
    | ok t r1 =>
      by_cases h0 : t.k = 0
      · rw [prog_end hT h0] at h; injection h with e1 e2; subst e1; exact hl
      · by_cases h5 : acc.length = 512
        · rw [prog_lim hT h0 h5] at h; cases h
        · cases hC : clauseP c f t r1 with
          | bad e1 e2 => rw [prog_cls hT h0 h5 hC] at h; cases h
          | ok x r2 =>
            rw [prog_more hT h0 h5 hC] at h
            exact ih _ _ _ _ (by simp; omega) h
/-- A program of nothing but facts without variables is a facts text. -/
theorem prog_facts {c f : Int} : ∀ (n : Nat) (acc : List PCls) (R r : List Tok) (out : List PCls), acc.length ≤ 512 → progF c f n acc R = .ok out r → (∀ x ∈ out, gCls x = true) → factsF c f n (acc.map (·.h)) R = .ok (out.map (·.h)) r := by
  intro n
  induction n with
  | zero => intro acc R r out _ h; cases h
  | succ n ih =>
    intro acc R r out hl h hg
    cases hT : takeP c f [1, 0] R with
    | bad e1 e2 => rw [prog_bad1 hT] at h; cases h
    | ok t r1 =>
      by_cases h0 : t.k = 0
      · rw [prog_end hT h0] at h; injection h with e1 e2; subst e1 e2; exact facts_end hT h0
      · by_cases h5 : acc.length = 512
        · rw [prog_lim hT h0 h5] at h; cases h
        · cases hC : clauseP c f t r1 with
          | bad e1 e2 => rw [prog_cls hT h0 h5 hC] at h; cases h
          | ok x r2 =>
            rw [prog_more hT h0 h5 hC] at h
            obtain ⟨us, e⟩ := prog_len _ _ _ _ _ h
            obtain ⟨s, r4, q1, q2, q3⟩ := fact_clause hC (hg x (by rw [e]; simp))
            have := ih _ _ _ _ (by simp; omega) h hg
            rw [List.map_append, List.map_singleton] at this
            rw [facts_more hT h0 (by rw [List.length_map]; omega) q1 q2]
            exact this
end Go.Proofs.YtchhophblejmeaaGreatDoor

namespace Go.Proofs.YtchhophblejmeaaGreatDoor
set_option linter.unusedSimpArgs false
set_option linter.unusedVariables false
open Go.RowKit

def shT (d : Nat) (t : Tok) : Tok := ⟨t.k, t.t, t.n, t.op, d + t.off, d + t.en⟩
theorem end_tok {s : ByteArray} {o : Nat} {t : Tok} (ho : o ≤ s.size) (h : nextX s o = .tok t) (hk : t.k = 0) : t = endTok s.size ∧ gapW s o = (s.size, true) := by
  obtain ⟨h1, h2, -, h4⟩ := next_tok ho h
  have h5 : t.off = s.size := by rcases h4 with h | h <;> omega
  have hg : gapW s o = (s.size, true) := Prod.ext (by rw [← h2, h5]) h1
  rw [next_last s o ho hg] at h
  injection h with h
  exact ⟨h.symm, hg⟩
theorem gap_same {s s' : ByteArray} {o o' : Nat} (h : rest s' o' = rest s o) (hs : s'.size - o' = s.size - o) (ho : o ≤ s.size) (ho' : o' ≤ s'.size) (hg : gapW s o = (s.size, true)) : gapW s' o' = (s'.size, true) := by
  unfold gapW at hg ⊢
  rw [h]
  have e1 := congrArg Prod.fst hg
  have e2 := congrArg Prod.snd hg
  simp only at e1 e2
  exact Prod.ext (by simp only; omega) e2
theorem toks_shift {s s' : ByteArray} {d : Nat} (hr : ∀ o, rest s' (d + o) = rest s o) (hsz : s'.size = d + s.size) {o : Nat} {L : List Tok} {c : Int} {f : Nat} (h : Toks s o L c f) : ∃ c' f', Toks s' (d + o) (L.map (shT d)) c' f' ∧ (c = 0 → c' = 0) ∧ (c ≠ 0 → c' ≠ 0) := by
  induction h with
  | bad ho hx =>
    rename_i o c f
    cases hx' : nextX s' (d + o) with
    | bad c' f' => exact ⟨c', f', .bad (by omega) hx', fun h => by have := next_bad hx; omega, fun _ => by have := next_bad hx'; omega⟩
    | tok t =>
      exfalso
      by_cases hk : t.k = 0
      · obtain ⟨-, hg⟩ := end_tok (by omega) hx' hk
        have := gap_same (hr o).symm (by omega) (by omega) ho hg
        rw [next_last s o ho this] at hx
        cases hx
      · have := next_pre (s' := s) (o' := o) (by omega) hx' hk (fun i hi => by rw [hr]) (fun b hb => .inl (by rw [hr]; exact hb))
        rw [this] at hx
        cases hx
  | last ho hx hk =>
    rename_i o t
    obtain ⟨rfl, hg⟩ := end_tok ho hx hk
    have hg' := gap_same (hr o) (by omega) ho (by omega) hg
    refine ⟨0, 0, ?_, fun _ => rfl, fun h => absurd rfl h⟩
    have h2 := next_last s' (d + o) (by omega) hg'
    have e : shT d (endTok s.size) = endTok s'.size := by unfold shT endTok; rw [hsz]
    rw [List.map_singleton, e]
    exact .last (by omega) h2 rfl
  | more ho hx hk hT ih =>
    rename_i o t r c f
    obtain ⟨c', f', T, h1, h2⟩ := ih
    obtain ⟨-, -, h3, h4⟩ := next_tok ho hx
    have h5 : t.off < t.en := by rcases h4 with h | h <;> omega
    have := next_pre (s' := s') (o' := d + o) ho hx hk (fun i hi => by rw [hr]) (fun b hb => .inl (by rw [← hr]; exact hb))
    refine ⟨c', f', ?_, h1, h2⟩
    rw [List.map_cons]
    refine .more (by omega) (this.trans ?_) hk T
    unfold shT
    rw [show d + o + (t.off - o) = d + t.off by omega, show d + o + (t.en - o) = d + t.en by omega]
theorem toks_skip {s : ByteArray} {o : Nat} {L : List Tok} {c : Int} {f : Nat} (ho : o + 1 ≤ s.size) (hg : gapW s o = gapW s (o + 1)) (h : Toks s (o + 1) L c f) : Toks s o L c f := by
  have hn : nextX s o = nextX s (o + 1) := by unfold nextX; rw [hg]
  cases h with
  | bad h1 h2 => exact .bad (by omega) (hn.trans h2)
  | last h1 h2 h3 => exact .last (by omega) (hn.trans h2) h3
  | more h1 h2 h3 h4 => exact .more (by omega) (hn.trans h2) h3 h4

/-- The answers of a rule over tokens and over the same tokens further on. -/
def shTrm (d : Nat) (t : Trm) : Trm := ⟨t.k, t.n, t.s, t.off + d⟩
def shAt (d : Nat) (a : PAtom) : PAtom := ⟨a.p, a.ts.map (shTrm d), a.off + d⟩
def shLi (d : Nat) (x : PLit) : PLit := if x.k = 3 then ⟨x.k, x.a, x.op, shTrm d x.l, shTrm d x.r, x.off + d⟩ else ⟨x.k, shAt d x.a, x.op, x.l, x.r, x.off + d⟩
def RelP {α β : Type} (d : Nat) (g : α → β) : PR α → PR β → Prop
  | .bad _ _, .bad _ _ => True
  | .ok x r, .ok y q => y = g x ∧ q = r.map (shT d)
  | _, _ => False
theorem relP_bad {α β : Type} {d : Nat} {g : α → β} {c o : Int} {y : PR β} (h : RelP d g (.bad c o) y) : ∃ c' o', y = .bad c' o' := by
  cases y with
  | bad c' o' => exact ⟨_, _, rfl⟩
  | ok => exact h.elim
theorem relP_ok {α β : Type} {d : Nat} {g : α → β} {x : α} {r : List Tok} {y : PR β} (h : RelP d g (.ok x r) y) : y = .ok (g x) (r.map (shT d)) := by
  cases y with
  | bad => exact h.elim
  | ok z q => obtain ⟨rfl, rfl⟩ := h; rfl
theorem termP_sh (d : Nat) (t : Tok) : termP (shT d t) = shTrm d (termP t) := by unfold termP shT shTrm; simp; omega
section
variable {d : Nat} {c f c' f' : Int}
theorem take_sh (ks : List Int) (R : List Tok) : RelP d (shT d) (takeP c f ks R) (takeP c' f' ks (R.map (shT d))) := by
  cases R with
  | nil => trivial
  | cons t r =>
    rw [List.map_cons]
    unfold takeP
    show RelP d _ (if t.k ∈ ks then _ else _) (if t.k ∈ ks then _ else _)
    split
    · exact ⟨rfl, rfl⟩
    · trivial
theorem args_sh (ks : List Int) : ∀ (n : Nat) (acc : List Trm) (R : List Tok), R.length = n → RelP d (List.map (shTrm d)) (argsP c f ks acc R) (argsP c' f' ks (acc.map (shTrm d)) (R.map (shT d))) := by
  intro n
  induction n using Nat.strongRecOn with
  | ind n ih =>
    intro acc R hn
    match R, hn with
    | [], _ => trivial
    | [t], _ =>
      rw [List.map_singleton]
      unfold argsP
      show RelP d _ (if t.k ∈ ks then _ else _) (if t.k ∈ ks then _ else _)
      split
      · rw [List.length_map]
        split <;> trivial
      · trivial
    | t :: s :: r, hn =>
      rw [List.map_cons, List.map_cons]
      unfold argsP
      show RelP d _ (if t.k ∈ ks then _ else _) (if t.k ∈ ks then _ else _)
      split
      · rw [List.length_map]
        split
        · trivial
        · show RelP d _ (if s.k = 7 then _ else _) (if s.k = 7 then _ else _)
          split
          · have := ih r.length (by simp at hn; omega) (acc ++ [termP t]) r rfl
            rw [List.map_append, List.map_singleton, ← termP_sh] at this
            exact this
          · show RelP d _ (if s.k = 6 then _ else _) (if s.k = 6 then _ else _)
            split
            · exact ⟨by rw [List.map_append, List.map_singleton, ← termP_sh], rfl⟩
            · trivial
      · trivial
theorem atom_sh (ks : List Int) (name : Tok) (R : List Tok) : RelP d (shAt d) (atomP c f ks name R) (atomP c' f' ks (shT d name) (R.map (shT d))) := by
  cases R with
  | nil => trivial
  | cons t r =>
    rw [List.map_cons]
    unfold atomP
    show RelP d _ (if t.k = 5 then _ else _) (if t.k = 5 then _ else _)
    split
    · have h := args_sh (d := d) (c := c) (f := f) (c' := c') (f' := f') ks _ [] r rfl
      rw [List.map_nil] at h
      cases hA : argsP c f ks [] r with
      | bad x o =>
        rw [hA] at h
        obtain ⟨x', o', e⟩ := relP_bad h
        rw [e]; trivial
      | ok ts r' =>
        rw [hA] at h
        rw [relP_ok h]
        exact ⟨by unfold shAt shT; simp; omega, rfl⟩
    · exact ⟨by unfold shAt shT; simp; omega, rfl⟩
theorem lit_sh (first : Tok) (R : List Tok) : RelP d (shLi d) (litP c f first R) (litP c' f' (shT d first) (R.map (shT d))) := by
  have tst : RelP d (shLi d) (match takeP c f [11] R with
      | .bad c o => PR.bad c o
      | .ok o1 r' => match takeP c f termKs r' with
        | .bad c o => .bad c o
        | .ok t2 r'' => .ok (⟨3, zeroAtom, o1.op, termP first, termP t2, first.off⟩ : PLit) r'') (match takeP c' f' [11] (R.map (shT d)) with
      | .bad c o => PR.bad c o
      | .ok o1 r' => match takeP c' f' termKs r' with
        | .bad c o => .bad c o
        | .ok t2 r'' => .ok (⟨3, zeroAtom, o1.op, termP (shT d first), termP t2, (shT d first).off⟩ : PLit) r'') := by
    have h := take_sh (d := d) (c := c) (f := f) (c' := c') (f' := f') [11] R
    cases hA : takeP c f [11] R with
    | bad x o =>
      rw [hA] at h
      obtain ⟨x', o', e⟩ := relP_bad h
      rw [e]; trivial
    | ok o1 r' =>
      rw [hA] at h
      rw [relP_ok h]
      simp only
      have h2 := take_sh (d := d) (c := c) (f := f) (c' := c') (f' := f') termKs r'
      cases hB : takeP c f termKs r' with
      | bad x o =>
        rw [hB] at h2
        obtain ⟨x', o', e⟩ := relP_bad h2
        rw [e]; trivial
      | ok t2 r'' =>
        rw [hB] at h2
        rw [relP_ok h2]
        refine ⟨?_, rfl⟩
        rw [termP_sh, termP_sh]
        unfold shLi
        rw [if_pos rfl]
        unfold shT
        simp; omega
  unfold litP
  show RelP d _ (if first.k = 10 then _ else _) (if first.k = 10 then _ else _)
  split
  · have h := take_sh (d := d) (c := c) (f := f) (c' := c') (f' := f') [1] R
    cases hA : takeP c f [1] R with
    | bad x o =>
      rw [hA] at h
      obtain ⟨x', o', e⟩ := relP_bad h
      rw [e]; trivial
    | ok n r' =>
      rw [hA] at h
      rw [relP_ok h]
      simp only
      have h2 := atom_sh (d := d) (c := c) (f := f) (c' := c') (f' := f') termKs n r'
      cases hB : atomP c f termKs n r' with
      | bad x o =>
        rw [hB] at h2
        obtain ⟨x', o', e⟩ := relP_bad h2
        rw [e]; trivial
      | ok a r'' =>
        rw [hB] at h2
        rw [relP_ok h2]
        refine ⟨?_, rfl⟩
        unfold shLi
        rw [if_neg (show ¬ ((2 : Int) = 3) by decide)]
        unfold shT
        simp; omega
  · show RelP d _ (if first.k = 1 then _ else _) (if first.k = 1 then _ else _)
    split
    · cases R with
      | nil => trivial
      | cons t r =>
        rw [List.map_cons]
        show RelP d _ (if t.k = 11 then _ else _) (if t.k = 11 then _ else _)
        split
        · rw [List.map_cons] at tst
          exact tst
        · have h2 := atom_sh (d := d) (c := c) (f := f) (c' := c') (f' := f') termKs first (t :: r)
          rw [List.map_cons] at h2
          cases hB : atomP c f termKs first (t :: r) with
          | bad x o =>
            rw [hB] at h2
            obtain ⟨x', o', e⟩ := relP_bad h2
            rw [e]; trivial
          | ok a r'' =>
            rw [hB] at h2
            rw [relP_ok h2]
            refine ⟨?_, rfl⟩
            unfold shLi
            rw [if_neg (show ¬ ((1 : Int) = 3) by decide)]
            unfold shT
            simp; omega
    · exact tst
theorem body_sh : ∀ (n : Nat) (acc : List PLit) (R : List Tok), RelP d (List.map (shLi d)) (bodyF c f n acc R) (bodyF c' f' n (acc.map (shLi d)) (R.map (shT d)))
  | 0, acc, R => trivial
  | n + 1, acc, R => by
    unfold bodyF
    have h := take_sh (d := d) (c := c) (f := f) (c' := c') (f' := f') [1, 10, 2, 3, 4] R
    cases hA : takeP c f [1, 10, 2, 3, 4] R with
    | bad x o =>
      rw [hA] at h
      obtain ⟨x', o', e⟩ := relP_bad h
      rw [e]; trivial
    | ok t r =>
      rw [hA] at h
      rw [relP_ok h]
      simp only
      rw [List.length_map]
      split
      · trivial
      · have h2 := lit_sh (d := d) (c := c) (f := f) (c' := c') (f' := f') t r
        cases hB : litP c f t r with
        | bad x o =>
          rw [hB] at h2
          obtain ⟨x', o', e⟩ := relP_bad h2
          rw [e]; trivial
        | ok x r' =>
          rw [hB] at h2
          rw [relP_ok h2]
          simp only
          have h3 := take_sh (d := d) (c := c) (f := f) (c' := c') (f' := f') [7, 8] r'
          cases hC : takeP c f [7, 8] r' with
          | bad x o =>
            rw [hC] at h3
            obtain ⟨x', o', e⟩ := relP_bad h3
            rw [e]; trivial
          | ok s r'' =>
            rw [hC] at h3
            rw [relP_ok h3]
            simp only
            show RelP d _ (if s.k = 8 then _ else _) (if s.k = 8 then _ else _)
            split
            · exact ⟨by rw [List.map_append, List.map_singleton], rfl⟩
            · have := body_sh n (acc ++ [x]) r''
              rw [List.map_append, List.map_singleton] at this
              exact this
end
end Go.Proofs.YtchhophblejmeaaGreatDoor

namespace Go.Proofs.YtchhophblejmeaaGreatDoor
set_option linter.unusedSimpArgs false
set_option linter.unusedVariables false
open Go.RowKit

def headB : ByteArray := ⟨#[104, 58, 45, 10]⟩
def tokH : Tok := ⟨1, ⟨#[104]⟩, 0, 0, 0, 1⟩
def tokA : Tok := ⟨9, ⟨#[]⟩, 0, 0, 1, 3⟩
theorem hb_h : nextX headB 0 = .tok tokH := by kernel_rfl
theorem hb_a : nextX headB 1 = .tok tokA := by kernel_rfl
theorem hb_size (s : ByteArray) : (headB ++ s).size = 4 + s.size := by rw [ByteArray.size_append]; rfl
theorem hb_rest (s : ByteArray) (o : Nat) : rest (headB ++ s) (4 + o) = rest s o := by
  unfold rest
  rw [ByteArray.data_append, Array.toList_append]
  show List.drop (4 + o) ([104, 58, 45, 10] ++ s.data.toList) = _
  rw [show 4 + o = ([104, 58, 45, 10] : List UInt8).length + o from rfl, List.drop_append]
  simp
theorem hb_rest3 (s : ByteArray) : rest (headB ++ s) 3 = 10 :: rest (headB ++ s) 4 := by
  unfold rest
  rw [ByteArray.data_append, Array.toList_append]
  rfl
theorem hb_pre (s : ByteArray) : Pre headB (headB ++ s) 3 where
  le := by decide
  le' := by rw [hb_size]; omega
  same i hi := by
    rw [ByteArray.data_append, Array.toList_append, List.getElem?_append_left (by show i < 4; omega)]
  behind b hb := by
    rw [ByteArray.data_append, Array.toList_append, List.getElem?_append_left (by show 3 < 4; omega)] at hb
    exact .inl hb
theorem hb_gap (s : ByteArray) : gapW (headB ++ s) 3 = gapW (headB ++ s) 4 := by
  refine gapW_go (headB ++ s) 3 1 ?_ (by omega) (by rw [hb_size]; omega)
  rw [hb_rest3]
  rfl
theorem hb_toks {s : ByteArray} {L : List Tok} {c : Int} {f : Nat} (h : Toks s 0 L c f) : ∃ c' f', Toks (headB ++ s) 0 (tokH :: tokA :: L.map (shT 4)) c' f' ∧ (c = 0 → c' = 0) ∧ (c ≠ 0 → c' ≠ 0) := by
  obtain ⟨c', f', T, h1, h2⟩ := toks_shift (s' := headB ++ s) (d := 4) (hb_rest s) (hb_size s) h
  have hz := hb_size s
  refine ⟨c', f', ?_, h1, h2⟩
  refine .more (by omega) ((hb_pre s).next (by decide) hb_h (by decide) (by decide)).1 (by decide) ?_
  show Toks (headB ++ s) 1 _ c' f'
  refine .more (by omega) ((hb_pre s).next (by decide) hb_a (by decide) (by decide)).1 (by decide) ?_
  show Toks (headB ++ s) 3 _ c' f'
  exact toks_skip (by omega) (hb_gap s) T
theorem hb_scan (s : ByteArray) (hs : s.size ≤ 65000) : ∃ c' f', scanX (headB ++ s) = (tokH :: tokA :: (scanX s).1.map (shT 4), c', f') := by
  obtain ⟨c', f', T, -, -⟩ := hb_toks (scan_toks s (by omega))
  exact ⟨c', f', scan_eq (by rw [hb_size]; omega) T⟩

theorem take_hit {c f : Int} {ks : List Int} {t : Tok} {r : List Tok} (h : t.k ∈ ks) : takeP c f ks (t :: r) = .ok t r := if_pos h
theorem take_got {c f : Int} {ks : List Int} {R r : List Tok} {t : Tok} (h : takeP c f ks R = .ok t r) : R = t :: r ∧ t.k ∈ ks := by
  cases R with
  | nil => cases h
  | cons u q =>
    by_cases hk : u.k ∈ ks
    · rw [take_hit hk] at h
      injection h with e1 e2
      subst e1 e2
      exact ⟨rfl, hk⟩
    · rw [show takeP c f ks (u :: q) = .bad (misK u.k) u.off from if_neg hk] at h
      cases h
def hdA : PAtom := ⟨⟨#[104]⟩, [], 0⟩
theorem clause_head (c f : Int) (R : List Tok) : clauseP c f tokH (tokA :: R) = match bodyP c f R with | .bad c o => .bad c o | .ok b r => .ok ⟨hdA, b⟩ r := rfl
theorem prog_head (c f : Int) (R : List Tok) : progP c f (tokH :: tokA :: R) = match bodyP c f R with | .bad c o => .bad c o | .ok b r => progF c f (R.length + 2) [⟨hdA, b⟩] r := by
  unfold progP
  rw [show (tokH :: tokA :: R).length + 1 = (R.length + 2) + 1 from rfl]
  show (match clauseP c f tokH (tokA :: R) with | .bad c o => PR.bad c o | .ok x r' => progF c f (R.length + 2) ([] ++ [x]) r') = _
  rw [clause_head]
  cases bodyP c f R <;> rfl
theorem prog_two {c f : Int} {n : Nat} {x : PCls} {R r : List Tok} {out : List PCls} (h : progF c f n [x] R = .ok out r) : (∃ t r', R = t :: r' ∧ t.k = 0 ∧ out = [x]) ∨ 2 ≤ out.length := by
  cases n with
  | zero => cases h
  | succ n =>
    unfold progF at h
    cases hT : takeP c f [1, 0] R with
    | bad a b => rw [hT] at h; cases h
    | ok t r1 =>
      rw [hT] at h
      simp only at h
      obtain ⟨rfl, -⟩ := take_got hT
      split at h
      · rename_i h0
        injection h with e1 e2
        exact .inl ⟨t, r1, rfl, h0, e1.symm⟩
      · rw [if_neg (by simp)] at h
        cases hC : clauseP c f t r1 with
        | bad a b => rw [hC] at h; cases h
        | ok y r3 =>
          rw [hC] at h
          obtain ⟨us, e⟩ := prog_len _ _ _ _ _ h
          right
          rw [e]; simp

/-- A query that is one, and the program of one clause. -/
theorem query_one {c f c' f' : Int} {L r : List Tok} {b : List PLit} (h : queryP c f L = .ok b r) : b ≠ [] ∧ ∃ q, progP c' f' (tokH :: tokA :: L.map (shT 4)) = .ok [⟨hdA, b.map (shLi 4)⟩] q := by
  unfold queryP at h
  cases hB : bodyP c f L with
  | bad x o => rw [hB] at h; cases h
  | ok b1 r1 =>
    rw [hB] at h
    simp only at h
    cases hT : takeP c f [0] r1 with
    | bad x o => rw [hT] at h; cases h
    | ok t r2 =>
      rw [hT] at h
      simp only [PR.ok.injEq] at h
      obtain ⟨rfl, rfl⟩ := h
      have hb2 := body_sh (d := 4) (c := c) (f := f) (c' := c') (f' := f') (L.length + 1) [] L
      unfold bodyP at hB
      rw [hB] at hb2
      have e := relP_ok hb2
      refine ⟨body_nonempty _ _ _ _ _ hB, ?_⟩
      rw [prog_head]
      unfold bodyP
      rw [List.length_map]
      rw [List.map_nil] at e
      rw [e]
      simp only
      obtain ⟨rfl, hu⟩ := take_got hT
      have hu0 : t.k = 0 := by simpa using hu
      refine ⟨r2.map (shT 4), ?_⟩
      show progF c' f' (L.length + 1 + 1) _ _ = _
      unfold progF
      rw [List.map_cons, take_hit (show (shT 4 t).k ∈ [1, 0] by show t.k ∈ [1, 0]; rw [hu0]; decide)]
      simp only
      rw [if_pos (show (shT 4 t).k = 0 from hu0)]
/-- A text that is no query, and the program of one clause. -/
theorem query_none {c f c' f' x o : Int} {L : List Tok} (h : queryP c f L = .bad x o) : (∃ x' o', progP c' f' (tokH :: tokA :: L.map (shT 4)) = .bad x' o') ∨ ∃ out q, progP c' f' (tokH :: tokA :: L.map (shT 4)) = .ok out q ∧ 2 ≤ out.length := by
  unfold queryP at h
  rw [prog_head]
  have hb2 := body_sh (d := 4) (c := c) (f := f) (c' := c') (f' := f') (L.length + 1) [] L
  rw [List.map_nil] at hb2
  cases hB : bodyP c f L with
  | bad y p =>
    unfold bodyP at hB ⊢
    rw [hB] at hb2
    obtain ⟨x', o', e⟩ := relP_bad hb2
    rw [List.length_map, e]
    exact .inl ⟨_, _, rfl⟩
  | ok b1 r1 =>
    rw [hB] at h
    simp only at h
    unfold bodyP at hB ⊢
    rw [hB] at hb2
    have e := relP_ok hb2
    rw [List.length_map, e]
    simp only
    cases hP : progF c' f' (L.length + 2) [⟨hdA, b1.map (shLi 4)⟩] (r1.map (shT 4)) with
    | bad a b => exact .inl ⟨_, _, rfl⟩
    | ok out q =>
      rcases prog_two hP with ⟨t, r', e1, e2, -⟩ | h2
      · exfalso
        cases r1 with
        | nil => cases e1
        | cons u r3 =>
          rw [List.map_cons] at e1
          injection e1 with e3 e4
          have hu : u.k = 0 := by rw [← e2, ← e3]; rfl
          rw [take_hit (by rw [hu]; decide)] at h
          cases h
      · exact .inr ⟨out, q, rfl, h2⟩
end Go.Proofs.YtchhophblejmeaaGreatDoor

namespace Go.Proofs.YtchhophblejmeaaGreatDoor
set_option linter.unusedSimpArgs false
set_option linter.unusedVariables false
open Go.RowKit

inductive ArgsT (ks : List Int) : List Tok → List Trm → Prop
  | one (u s : Tok) : u.k ∈ ks → s.k = 6 → ArgsT ks [u, s] [termP u]
  | more (u s : Tok) (X : List Tok) (ts : List Trm) : u.k ∈ ks → s.k = 7 → ArgsT ks X ts → ArgsT ks (u :: s :: X) (termP u :: ts)
inductive AtomT (ks : List Int) : List Tok → PAtom → Prop
  | bare (n : Tok) : n.k = 1 → AtomT ks [n] ⟨n.t, [], n.off⟩
  | args (n o : Tok) (X : List Tok) (ts : List Trm) : n.k = 1 → o.k = 5 → ArgsT ks X ts → ts.length ≤ 8 → AtomT ks (n :: o :: X) ⟨n.t, ts, n.off⟩
inductive LitT : List Tok → PLit → Prop
  | pos (X : List Tok) (a : PAtom) : AtomT termKs X a → LitT X ⟨1, a, 0, zeroTrm, zeroTrm, a.off⟩
  | neg (n : Tok) (X : List Tok) (a : PAtom) : n.k = 10 → AtomT termKs X a → LitT (n :: X) ⟨2, a, 0, zeroTrm, zeroTrm, n.off⟩
  | test (u o v : Tok) : u.k ∈ termKs → o.k = 11 → v.k ∈ termKs → LitT [u, o, v] ⟨3, zeroAtom, o.op, termP u, termP v, u.off⟩
inductive BodyT : List Tok → List PLit → Prop
  | one (X : List Tok) (x : PLit) (s : Tok) : LitT X x → s.k = 8 → BodyT (X ++ [s]) [x]
  | more (X : List Tok) (x : PLit) (s : Tok) (Y : List Tok) (ys : List PLit) : LitT X x → s.k = 7 → BodyT Y ys → BodyT (X ++ s :: Y) (x :: ys)
inductive ClsT : List Tok → PCls → Prop
  | fact (X : List Tok) (a : PAtom) (s : Tok) : AtomT termKs X a → s.k = 8 → ClsT (X ++ [s]) ⟨a, []⟩
  | rule (X : List Tok) (a : PAtom) (s : Tok) (Y : List Tok) (b : List PLit) : AtomT termKs X a → s.k = 9 → BodyT Y b → b.length ≤ 16 → ClsT (X ++ s :: Y) ⟨a, b⟩
inductive ProgT : List Tok → List PCls → Prop
  | nil (e : Tok) : e.k = 0 → ProgT [e] []
  | more (X : List Tok) (x : PCls) (Y : List Tok) (ys : List PCls) : ClsT X x → ProgT Y ys → ProgT (X ++ Y) (x :: ys)
inductive FactsT : List Tok → List PAtom → Prop
  | nil (e : Tok) : e.k = 0 → FactsT [e] []
  | more (X : List Tok) (a : PAtom) (s : Tok) (Y : List Tok) (ys : List PAtom) : AtomT valueKs X a → s.k = 8 → FactsT Y ys → FactsT (X ++ s :: Y) (a :: ys)

theorem args_fwd {ks : List Int} {X : List Tok} {ts : List Trm} (h : ArgsT ks X ts) : ∀ (c f : Int) (acc : List Trm) (r : List Tok), acc.length + ts.length ≤ 8 → argsP c f ks acc (X ++ r) = .ok (acc ++ ts) r := by
  induction h with
  | one u s hu hs =>
    intro c f acc r hl
    show argsP c f ks acc (u :: s :: r) = _
    unfold argsP
    rw [if_pos hu, if_neg (by simp at hl; omega)]
    simp only
    rw [if_neg (by omega), if_pos hs]
  | more u s X ts hu hs _ ih =>
    intro c f acc r hl
    show argsP c f ks acc (u :: s :: (X ++ r)) = _
    unfold argsP
    rw [if_pos hu, if_neg (by simp at hl; omega)]
    simp only
    rw [if_pos hs, ih c f (acc ++ [termP u]) r (by simp at hl ⊢; omega), List.append_assoc]
    rfl
theorem args_some {ks : List Int} {X : List Tok} {ts : List Trm} (h : ArgsT ks X ts) : 0 < ts.length := by cases h <;> simp
/-- An atom: its name is taken ahead. -/
theorem atom_fwd {ks : List Int} {X : List Tok} {a : PAtom} (h : AtomT ks X a) : ∃ n Y, X = n :: Y ∧ n.k = 1 ∧ a.off = n.off ∧ (∀ (c f : Int) (s : Tok) (r : List Tok), s.k ≠ 5 → atomP c f ks n (Y ++ s :: r) = .ok a (s :: r)) ∧ ∀ (s : Tok) (r : List Tok), s.k ≠ 11 → ∃ u q, Y ++ s :: r = u :: q ∧ u.k ≠ 11 := by
  cases h with
  | bare n hn => exact ⟨n, [], rfl, hn, rfl, fun c f s r hs => if_neg hs, fun s r hs => ⟨s, r, rfl, hs⟩⟩
  | args n o X ts hn ho hX h8 =>
    refine ⟨n, o :: X, rfl, hn, rfl, fun c f s r hs => ?_, fun s r _ => ⟨o, X ++ s :: r, rfl, by omega⟩⟩
    show atomP c f ks n (o :: (X ++ s :: r)) = _
    unfold atomP
    simp only
    rw [if_pos ho, args_fwd hX c f [] (s :: r) (by simpa using h8)]
    rfl
/-- A literal: its first token is taken ahead. -/
theorem lit_fwd {X : List Tok} {x : PLit} (h : LitT X x) : ∃ n Y, X = n :: Y ∧ n.k ∈ [1, 10, 2, 3, 4] ∧ ∀ (c f : Int) (s : Tok) (r : List Tok), s.k ≠ 5 → s.k ≠ 11 → litP c f n (Y ++ s :: r) = .ok x (s :: r) := by
  cases h with
  | pos X a hA =>
    obtain ⟨n, Y, rfl, hn, ho, hY, hq⟩ := atom_fwd hA
    refine ⟨n, Y, rfl, by rw [hn]; decide, fun c f s r h5 h11 => ?_⟩
    unfold litP
    rw [if_neg (by omega)]
    simp only
    rw [if_pos hn]
    have := hY c f s r h5
    obtain ⟨u, q, e, hu⟩ := hq s r h11
    rw [e] at this ⊢
    simp only
    rw [if_neg hu, this]
    simp only
    rw [ho]
  | neg n X a hn hA =>
    obtain ⟨m, Y, rfl, hm, ho, hY, hq⟩ := atom_fwd hA
    refine ⟨n, m :: Y, rfl, by rw [hn]; decide, fun c f s r h5 h11 => ?_⟩
    unfold litP
    rw [if_pos hn, List.cons_append, take_hit (by rw [hm]; decide)]
    simp only
    rw [hY c f s r h5]
  | test u o v hu ho hv =>
    have tst : ∀ (c f : Int) (s : Tok) (r : List Tok), (match takeP c f [11] (o :: v :: s :: r) with
      | .bad c o => PR.bad c o
      | .ok o1 r' => match takeP c f termKs r' with
        | .bad c o => .bad c o
        | .ok t2 r'' => .ok (⟨3, zeroAtom, o1.op, termP u, termP t2, u.off⟩ : PLit) r'') = .ok ⟨3, zeroAtom, o.op, termP u, termP v, u.off⟩ (s :: r) := fun c f s r => by
      rw [take_hit (by rw [ho]; decide)]
      simp only
      rw [take_hit hv]
    have hu' : u.k = 2 ∨ u.k = 3 ∨ u.k = 1 ∨ u.k = 4 := by
      unfold termKs at hu
      simpa using hu
    refine ⟨u, [o, v], rfl, by rcases hu' with h | h | h | h <;> rw [h] <;> decide, fun c f s r h5 h11 => ?_⟩
    unfold litP
    rw [if_neg (by omega)]
    simp only
    by_cases h1 : u.k = 1
    · rw [if_pos h1]
      show (if o.k = 11 then _ else _) = _
      rw [if_pos ho]
      exact tst c f s r
    · rw [if_neg h1]
      exact tst c f s r
theorem body_fwd {X : List Tok} {b : List PLit} (h : BodyT X b) : ∀ (c f : Int) (n : Nat) (acc : List PLit) (r : List Tok), X.length ≤ n → acc.length + b.length ≤ 16 → bodyF c f n acc (X ++ r) = .ok (acc ++ b) r := by
  induction h with
  | one X x s hX hs =>
    intro c f n acc r hn hl
    obtain ⟨u, Y, rfl, hu, hY⟩ := lit_fwd hX
    cases n with
    | zero => simp at hn
    | succ n =>
      unfold bodyF
      rw [List.append_assoc, List.singleton_append, List.cons_append, take_hit hu]
      simp only
      rw [if_neg (by simp at hl; omega), hY c f s r (by omega) (by omega)]
      simp only
      rw [take_hit (by rw [hs]; decide)]
      simp only
      rw [if_pos hs]
  | more X x s Z ys hX hs _ ih =>
    intro c f n acc r hn hl
    obtain ⟨u, Y, rfl, hu, hY⟩ := lit_fwd hX
    cases n with
    | zero => simp at hn
    | succ n =>
      unfold bodyF
      rw [List.append_assoc, List.cons_append, List.cons_append, take_hit hu]
      simp only
      rw [if_neg (by simp at hl; omega), hY c f s (Z ++ r) (by omega) (by omega)]
      simp only
      rw [take_hit (by rw [hs]; decide)]
      simp only
      rw [if_neg (by omega), ih c f n (acc ++ [x]) r (by simp at hn; omega) (by simp at hl ⊢; omega), List.append_assoc]
      rfl
theorem cls_fwd {X : List Tok} {x : PCls} (h : ClsT X x) : ∃ n Y, X = n :: Y ∧ n.k = 1 ∧ ∀ (c f : Int) (r : List Tok), clauseP c f n (Y ++ r) = .ok x r := by
  cases h with
  | fact X a s hA hs =>
    obtain ⟨n, Y, rfl, hn, -, hY, -⟩ := atom_fwd hA
    refine ⟨n, Y ++ [s], rfl, hn, fun c f r => ?_⟩
    unfold clauseP
    rw [List.append_assoc, List.singleton_append, hY c f s r (by omega)]
    simp only
    rw [take_hit (by rw [hs]; decide)]
    simp only
    rw [if_neg (by omega)]
  | rule X a s Z b hA hs hB h16 =>
    obtain ⟨n, Y, rfl, hn, -, hY, -⟩ := atom_fwd hA
    refine ⟨n, Y ++ s :: Z, rfl, hn, fun c f r => ?_⟩
    unfold clauseP
    rw [List.append_assoc, List.cons_append, hY c f s (Z ++ r) (by omega)]
    simp only
    rw [take_hit (by rw [hs]; decide)]
    simp only
    rw [if_pos hs]
    unfold bodyP
    rw [body_fwd hB c f _ [] r (by simp; omega) (by simpa using h16)]
    rfl
theorem progF_fwd {L : List Tok} {P : List PCls} (h : ProgT L P) : ∀ (c f : Int) (n : Nat) (acc : List PCls), L.length ≤ n → acc.length + P.length ≤ 512 → progF c f n acc L = .ok (acc ++ P) [] := by
  induction h with
  | nil e he =>
    intro c f n acc hn hl
    cases n with
    | zero => simp at hn
    | succ n => rw [prog_end (take_hit (by rw [he]; decide)) he, List.append_nil]
  | more X x Y ys hX _ ih =>
    intro c f n acc hn hl
    obtain ⟨u, Z, rfl, hu, hZ⟩ := cls_fwd hX
    cases n with
    | zero => simp at hn
    | succ n =>
      rw [List.cons_append, prog_more (take_hit (by rw [hu]; decide)) (by omega) (by simp at hl; omega) (hZ c f Y), ih c f n (acc ++ [x]) (by simp at hn; omega) (by simp at hl ⊢; omega), List.append_assoc]
      rfl
/-- Tokens that spell a program are read as it. -/
theorem prog_fwd {L : List Tok} {P : List PCls} (h : ProgT L P) (hl : P.length ≤ 512) (c f : Int) : progP c f L = .ok P [] := by
  unfold progP
  exact progF_fwd h c f _ [] (by omega) (by simpa using hl)
theorem factsF_fwd {L : List Tok} {P : List PAtom} (h : FactsT L P) : ∀ (c f : Int) (n : Nat) (acc : List PAtom), L.length ≤ n → acc.length + P.length ≤ 4096 → factsF c f n acc L = .ok (acc ++ P) [] := by
  induction h with
  | nil e he =>
    intro c f n acc hn hl
    cases n with
    | zero => simp at hn
    | succ n => rw [facts_end (take_hit (by rw [he]; decide)) he, List.append_nil]
  | more X a s Y ys hX hs _ ih =>
    intro c f n acc hn hl
    obtain ⟨u, Z, rfl, hu, -, hZ, -⟩ := atom_fwd hX
    cases n with
    | zero => simp at hn
    | succ n =>
      rw [List.cons_append, facts_more (take_hit (by rw [hu]; decide)) (by omega) (by simp at hl; omega) (hZ c f s Y (by omega)) (take_hit (by rw [hs]; decide)), ih c f n (acc ++ [a]) (by simp at hn; omega) (by simp at hl ⊢; omega), List.append_assoc]
      rfl
theorem facts_fwd {L : List Tok} {P : List PAtom} (h : FactsT L P) (hl : P.length ≤ 4096) (c f : Int) : factsP c f L = .ok P [] := by
  unfold factsP
  exact factsF_fwd h c f _ [] (by omega) (by simpa using hl)
theorem query_fwd {X : List Tok} {b : List PLit} {e : Tok} (h : BodyT X b) (hl : b.length ≤ 16) (he : e.k = 0) (c f : Int) : queryP c f (X ++ [e]) = .ok b [] := by
  unfold queryP bodyP
  rw [body_fwd h c f _ [] [e] (by simp; omega) (by simpa using hl)]
  simp only
  rw [take_hit (by rw [he]; decide)]
  rfl
theorem fact_fwd {X : List Tok} {a : PAtom} {e : Tok} (h : AtomT valueKs X a) (he : e.k = 0) (c f : Int) : factP c f (X ++ [e]) = .ok a [] := by
  obtain ⟨n, Y, rfl, hn, -, hY, -⟩ := atom_fwd h
  unfold factP
  rw [List.cons_append, take_hit (by rw [hn]; decide)]
  simp only
  rw [hY c f e [] (by omega)]
  simp only
  rw [take_hit (by rw [he]; decide)]
end Go.Proofs.YtchhophblejmeaaGreatDoor
