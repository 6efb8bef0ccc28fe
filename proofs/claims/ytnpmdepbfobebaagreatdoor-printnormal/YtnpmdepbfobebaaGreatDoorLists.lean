/- Lists in memory, whatever their elements: what holds of one as memory turns elsewhere; a list of one's own that grows by append; a row that is filled place by place. -/
import Derived.Test.YtnpmdepbfobebaaGreatDoorOver
import Derived.Test.YtnpmdepbfobebaaGreatDoorAppendAny
import Derived.WalkKit
namespace Go.Proofs.YtnpmdepbfobebaaGreatDoor
set_option linter.unusedSimpArgs false
set_option linter.unusedVariables false
open Go.RowKit

/-- How elements lie in memory: their cells, and what must hold of what these lead to, in the blocks of F alone. -/
structure El (α : Type) where
  cells : α → List Value
  size : Nat
  pos : 0 < size
  len : ∀ x, (cells x).length = size
  ok : World → (Nat → Prop) → α → Prop
  one : ∀ {w : World} {F : Nat → Prop} {x : α}, ok w F x → ∀ u ∈ cells x, u.oneCell' = true
  move : ∀ {w w' : World} {F G : Nat → Prop} {x : α}, ok w F x → (∀ b, b < w.heap.size → F b → G b ∧ w'.heap[b]? = w.heap[b]?) → ok w' G x

/-- The slice v leads to the list l, all in blocks of F. -/
def Lst {α : Type} (E : El α) (w : World) (F : Nat → Prop) (v : Value) (l : List α) : Prop :=
  ∃ ao cap, v = .slice ao l.length cap ∧ l.length ≤ cap ∧ (ao = none → l.length = 0 ∧ cap = 0) ∧ l.length < 1073741824 ∧ (∀ x ∈ l, E.ok w F x) ∧
    (0 < l.length → ∃ b off, ao = some ⟨b, off, none⟩ ∧ b < w.heap.size ∧ F b ∧ ∀ i x, l[i]? = some x → ∀ j u, (E.cells x)[j]? = some u → w.cell? ⟨b, off + i * E.size + j, none⟩ = some u)

theorem lt_same {w w' : World} {b : Nat} (hb : b < w.heap.size) (h : w'.heap[b]? = w.heap[b]?) : b < w'.heap.size := by
  rcases Nat.lt_or_ge b w'.heap.size with h1 | h1
  · exact h1
  · rw [Array.getElem?_eq_none h1, Array.getElem?_eq_getElem hb] at h; cases h

theorem Lst.move {α : Type} {E : El α} {w w' : World} {F G : Nat → Prop} {v : Value} {l : List α} (h : Lst E w F v l) (hm : ∀ b, b < w.heap.size → F b → G b ∧ w'.heap[b]? = w.heap[b]?) : Lst E w' G v l := by
  obtain ⟨ao, cap, e, h1, h2, h3, h4, h5⟩ := h
  refine ⟨ao, cap, e, h1, h2, h3, fun x hx => E.move (h4 x hx) hm, fun hp => ?_⟩
  obtain ⟨b, off, e2, hb, hF, hc⟩ := h5 hp
  obtain ⟨hG, hs⟩ := hm b hb hF
  exact ⟨b, off, e2, lt_same hb hs, hG, fun i x hx j u hu => by rw [World.cell?_of_block (w := w) hs]; exact hc i x hx j u hu⟩

/-- The slice v leads to the list l. -/
abbrev Has {α : Type} (E : El α) (w : World) (v : Value) (l : List α) : Prop := Lst E w (fun _ => True) v l

theorem Has.kept {α : Type} {E : El α} {w w' : World} {v : Value} {l : List α} (h : Has E w v l) (hb : Below w.heap.size w w') : Has E w' v l :=
  h.move fun b hlt _ => ⟨trivial, hb.block b hlt⟩
theorem Lst.kept {α : Type} {E : El α} {w w' : World} {v : Value} {l : List α} (h : Lst E w (fun _ => True) v l) (hb : Below w.heap.size w w') : Lst E w' (fun _ => True) v l := Has.kept h hb
theorem El.kept {α : Type} (E : El α) {w w' : World} {x : α} (h : E.ok w (fun _ => True) x) (hb : Below w.heap.size w w') : E.ok w' (fun _ => True) x :=
  E.move h fun b hlt _ => ⟨trivial, hb.block b hlt⟩
theorem El.all {α : Type} (E : El α) {w : World} {F : Nat → Prop} {x : α} (h : E.ok w F x) : E.ok w (fun _ => True) x :=
  E.move h fun b hlt _ => ⟨trivial, rfl⟩
theorem Lst.all {α : Type} {E : El α} {w : World} {F : Nat → Prop} {v : Value} {l : List α} (h : Lst E w F v l) : Has E w v l :=
  h.move fun b hlt _ => ⟨trivial, rfl⟩

theorem Lst.shape {α : Type} {E : El α} {w : World} {F : Nat → Prop} {v : Value} {l : List α} (h : Lst E w F v l) : ∃ ao cap, v = .slice ao l.length cap ∧ l.length ≤ cap ∧ (ao = none → l.length = 0 ∧ cap = 0) ∧ l.length < 1073741824 := by
  obtain ⟨ao, cap, e, h1, h2, h3, _⟩ := h
  exact ⟨ao, cap, e, h1, h2, h3⟩
theorem Lst.ok {α : Type} {E : El α} {w : World} {F : Nat → Prop} {v : Value} {l : List α} (h : Lst E w F v l) {x : α} (hx : x ∈ l) : E.ok w F x := by
  obtain ⟨ao, cap, e, h1, h2, h3, h4, h5⟩ := h
  exact h4 x hx
theorem Lst.nil {α : Type} (E : El α) (w : World) (F : Nat → Prop) : Lst E w F (.slice none 0 0) [] :=
  ⟨none, 0, rfl, Nat.le_refl _, fun _ => ⟨rfl, rfl⟩, by simp, by simp, fun h => by simp at h⟩
/-- Where its elements lie. -/
theorem Lst.row {α : Type} {E : El α} {w : World} {F : Nat → Prop} {ao : Option Addr} {n cap : Nat} {l : List α} (h : Lst E w F (.slice ao n cap) l) (hp : 0 < l.length) :
    ∃ b off, ao = some ⟨b, off, none⟩ ∧ b < w.heap.size ∧ F b ∧ ∀ i x, l[i]? = some x → ∀ j u, (E.cells x)[j]? = some u → w.cell? ⟨b, off + i * E.size + j, none⟩ = some u := by
  obtain ⟨ao', cap', e, h1, h2, h3, h4, h5⟩ := h
  cases e
  exact h5 hp

/-- A list of one's own, in a block at base or behind: what its elements lead to lies there too, elsewhere. -/
def Grow {α : Type} (E : El α) (e : TypeId) (base : Nat) (w : World) (v : Value) (l : List α) : Prop :=
  w.ownsRow base e E.size v l.length (l.flatMap E.cells) ∧ ∀ x ∈ l, E.ok w (fun b => base ≤ b ∧ v.ownBlock ≠ some b) x

theorem Grow.nil {α : Type} (E : El α) (e : TypeId) (base : Nat) (w : World) : Grow E e base w (.slice none 0 0) [] :=
  ⟨World.ownsRow_nil _ _ _ _, by simp⟩
theorem Grow.above {α : Type} {E : El α} {e : TypeId} {base : Nat} {w w' : World} {v : Value} {l : List α} (h : Grow E e base w v l) (hs : ∀ b, base ≤ b → b < w.heap.size → w'.heap[b]? = w.heap[b]?) : Grow E e base w' v l := by
  refine ⟨⟨h.1.1, ?_⟩, fun x hx => E.move (h.2 x hx) fun b hlt hF => ⟨hF, hs b hF.1 hlt⟩⟩
  rcases h.1.2 with h0 | ⟨g, cap, cur, hv, hbase, hblk, rest⟩
  · exact .inl h0
  · exact .inr ⟨g, cap, cur, hv, hbase, by rw [hs g hbase (Array.getElem?_eq_some_iff.1 hblk).1]; exact hblk, rest⟩
theorem Grow.kept {α : Type} {E : El α} {e : TypeId} {base : Nat} {w w' : World} {v : Value} {l : List α} (h : Grow E e base w v l) (hb : Below w.heap.size w w') : Grow E e base w' v l :=
  h.above fun b _ hlt => hb.block b hlt
theorem Grow.mono {α : Type} {E : El α} {e : TypeId} {base base' : Nat} {w : World} {v : Value} {l : List α} (h : Grow E e base w v l) (hb : base' ≤ base) : Grow E e base' w v l :=
  ⟨own_mono6 hb h.1, fun x hx => E.move (h.2 x hx) fun b _ hF => ⟨⟨Nat.le_trans hb hF.1, hF.2⟩, rfl⟩⟩
theorem Grow.shape {α : Type} {E : El α} {e : TypeId} {base : Nat} {w : World} {v : Value} {l : List α} (h : Grow E e base w v l) : ∃ ao cap, v = .slice ao l.length cap ∧ l.length ≤ cap ∧ (ao = none → l.length = 0 ∧ cap = 0) := by
  obtain ⟨ao, cap, e, h1, h2, _⟩ := own_shape6 h.1
  exact ⟨ao, cap, e, h1, h2⟩

/-- What was made behind all that was there when the list lay in its block lies elsewhere. -/
theorem Grow.behind {α : Type} {E : El α} {e : TypeId} {base : Nat} {w w' : World} {v : Value} {l : List α} (h : Grow E e base w v l) (hb : base ≤ w.heap.size) {β : Type} (D : El β) {x : β} (hx : D.ok w' (fun b => w.heap.size ≤ b) x) : D.ok w' (fun b => base ≤ b ∧ v.ownBlock ≠ some b) x :=
  D.move hx fun b _ hF => ⟨⟨Nat.le_trans hb hF, fun e => by have := own_lt6 h.1 b e; omega⟩, rfl⟩

theorem Grow.push {α : Type} {E : El α} {e : TypeId} {base : Nat} {w w' : World} {v : Value} {l : List α} (h : Grow E e base w v l) {x : α} (hx : E.ok w (fun b => base ≤ b ∧ v.ownBlock ≠ some b) x) {g cap n H : Nat} (hn : l.length = n) (hH : w.heap.size = H)
    (ho : w'.ownsRow base e E.size (.slice (some ⟨g, 0, none⟩) (n + 1) cap) (n + 1) (l.flatMap E.cells ++ E.cells x)) (hgr : w.grownBy w' v.ownBlock) (hat : v.ownBlock = some g ∨ g = H) :
    Grow E e base w' (.slice (some ⟨g, 0, none⟩) (n + 1) cap) (l ++ [x]) := by
  subst hn
  have keep : ∀ y, E.ok w (fun b => base ≤ b ∧ v.ownBlock ≠ some b) y → E.ok w' (fun b => base ≤ b ∧ (Value.slice (some ⟨g, 0, none⟩) (l.length + 1) cap).ownBlock ≠ some b) y := fun y hy =>
    E.move hy fun b hlt hF => ⟨⟨hF.1, fun e => by
      simp only [Value.ownBlock, Option.some.injEq] at e
      rcases hat with h1 | h1
      · rw [h1, e] at hF; exact hF.2 rfl
      · omega⟩, hgr.block b hlt fun e => hF.2 e.symm⟩
  refine ⟨?_, fun y hy => ?_⟩
  · rw [List.length_append, List.flatMap_append]
    simpa using ho
  · rcases List.mem_append.1 hy with h1 | h1
    · exact keep y (h.2 y h1)
    · simp only [List.mem_singleton] at h1; subst h1; exact keep _ hx
/-- A block below base is as it was behind an append to the list. -/
theorem Grow.low {α : Type} {E : El α} {e : TypeId} {base : Nat} {w w' : World} {v : Value} {l : List α} (h : Grow E e base w v l) (hgr : w.grownBy w' v.ownBlock) {b : Nat} (hb : b < base) (hlt : b < w.heap.size) : w'.heap[b]? = w.heap[b]? :=
  hgr.block b hlt fun e => by have := own_new h.1 b e.symm; omega

theorem flatE_len {α : Type} (E : El α) (l : List α) : (l.flatMap E.cells).length = l.length * E.size := by
  induction l with
  | nil => simp
  | cons a r ih => rw [List.flatMap_cons, List.length_append, ih, E.len, List.length_cons, Nat.add_mul]; omega
theorem flatE_at {α : Type} (E : El α) : ∀ (l : List α) (i j : Nat) (x : α), l[i]? = some x → j < E.size → (l.flatMap E.cells)[i * E.size + j]? = (E.cells x)[j]?
  | [], i, j, x, h, _ => by simp at h
  | a :: r, 0, j, x, h, hj => by
    simp only [List.getElem?_cons_zero, Option.some.injEq] at h
    subst h
    rw [List.flatMap_cons, Nat.zero_mul, Nat.zero_add, List.getElem?_append_left (by rw [E.len]; exact hj)]
  | a :: r, i + 1, j, x, h, hj => by
    rw [List.getElem?_cons_succ] at h
    rw [List.flatMap_cons, List.getElem?_append_right (by rw [E.len, Nat.add_mul]; omega), E.len, ← flatE_at E r i j x h hj]
    congr 1
    rw [Nat.add_mul]; omega

theorem Grow.list {α : Type} {E : El α} {e : TypeId} {base : Nat} {w : World} {v : Value} {l : List α} (h : Grow E e base w v l) (hl : l.length < 1073741824) : Has E w v l := by
  obtain ⟨ao, cap, rfl, h1, h2, hg⟩ := own_shape6 h.1
  refine ⟨ao, cap, rfl, h1, h2, hl, fun x hx => E.all (h.2 x hx), fun hp => ?_⟩
  cases ao with
  | none => exact absurd (h2 rfl).1 (by omega)
  | some ad =>
    obtain ⟨g, rfl, hb⟩ := hg ad rfl
    refine ⟨g, 0, rfl, own_lt6 h.1 g rfl, trivial, fun i x hx j u hu => ?_⟩
    rw [Nat.zero_add]
    refine own_at h.1 ?_
    have hj : j < E.size := by have := (List.getElem?_eq_some_iff.1 hu).1; rw [E.len] at this; exact this
    rw [flatE_at E l i j x hx hj]; exact hu

/-- All of the list lies at base or behind. -/
theorem Grow.new {α : Type} {E : El α} {e : TypeId} {base : Nat} {w : World} {v : Value} {l : List α} (h : Grow E e base w v l) (hl : l.length < 1073741824) : Lst E w (fun b => base ≤ b) v l := by
  obtain ⟨ao, cap, e1, h1, h2, h3, h4, h5⟩ := h.list hl
  refine ⟨ao, cap, e1, h1, h2, h3, fun x hx => E.move (h.2 x hx) fun b _ hF => ⟨hF.1, rfl⟩, fun hp => ?_⟩
  obtain ⟨b, off, e2, hb, _, hc⟩ := h5 hp
  refine ⟨b, off, e2, hb, ?_, hc⟩
  subst e2
  exact own_new h.1 b (by rw [e1]; rfl)

/-- A row of n places in block g, the first of which hold the list l. -/
def Fill {α : Type} (E : El α) (e : TypeId) (w : World) (g n : Nat) (l : List α) : Prop :=
  ∃ cur : Array Value, w.heap[g]? = some (.cells cur e (0, 0)) ∧ cur.size = n * E.size ∧ l.length ≤ n ∧ ∀ i x, l[i]? = some x → ∀ j u, (E.cells x)[j]? = some u → cur[i * E.size + j]? = some u

theorem Fill.lt {α : Type} {E : El α} {e : TypeId} {w : World} {g n : Nat} {l : List α} (h : Fill E e w g n l) : g < w.heap.size := by
  obtain ⟨cur, h1, _⟩ := h
  exact (Array.getElem?_eq_some_iff.1 h1).1
theorem Fill.kept {α : Type} {E : El α} {e : TypeId} {w w' : World} {g n : Nat} {l : List α} (h : Fill E e w g n l) (hb : Below w.heap.size w w') : Fill E e w' g n l := by
  have hlt := h.lt
  obtain ⟨cur, h1, h2⟩ := h
  exact ⟨cur, by rw [hb.block g hlt]; exact h1, h2⟩
theorem Fill.same {α : Type} {E : El α} {e : TypeId} {w w' : World} {g n : Nat} {l : List α} (h : Fill E e w g n l) (hb : w'.heap[g]? = w.heap[g]?) : Fill E e w' g n l := by
  obtain ⟨cur, h1, h2⟩ := h
  exact ⟨cur, by rw [hb]; exact h1, h2⟩
/-- Each of its cells can be read and written. -/
theorem Fill.cell {α : Type} {E : El α} {e : TypeId} {w : World} {g n : Nat} {l : List α} (h : Fill E e w g n l) {k j : Nat} (hk : k < n) (hj : j < E.size) : (∃ y, w.cell? ⟨g, k * E.size + j, none⟩ = some y) ∧ w.frozen? ⟨g, k * E.size + j, none⟩ = false := by
  obtain ⟨cur, h1, h2, h3⟩ := h
  have hlt : k * E.size + j < cur.size := by
    rw [h2]
    calc k * E.size + j < k * E.size + E.size := by omega
      _ = (k + 1) * E.size := by rw [Nat.add_mul, Nat.one_mul]
      _ ≤ n * E.size := Nat.mul_le_mul_right _ hk
  exact ⟨⟨cur[k * E.size + j], by simp [World.cell?, h1, Array.getElem?_eq_getElem hlt]⟩, by simp [World.frozen?, h1]⟩
/-- Block g's cells from place at on, written one by one. -/
def setAll (w : World) (g at' : Nat) : List Value → World
  | [] => w
  | v :: r => setAll (w.setCell ⟨g, at', none⟩ v) g (at' + 1) r
def setArr (cur : Array Value) (at' : Nat) : List Value → Array Value
  | [] => cur
  | v :: r => setArr (cur.set! at' v) (at' + 1) r
theorem setAll_block : ∀ (vs : List Value) (w : World) (g at' : Nat) (cur : Array Value) (e : TypeId), w.heap[g]? = some (.cells cur e (0, 0)) → (setAll w g at' vs).heap[g]? = some (.cells (setArr cur at' vs) e (0, 0))
  | [], w, g, at', cur, e, h => h
  | v :: r, w, g, at', cur, e, h => by
    refine setAll_block r _ g (at' + 1) _ e ?_
    simp [World.setCell, Array.getElem?_modify, h]
theorem setArr_size : ∀ (vs : List Value) (cur : Array Value) (at' : Nat), (setArr cur at' vs).size = cur.size
  | [], cur, at' => rfl
  | v :: r, cur, at' => by unfold setArr; rw [setArr_size r]; simp
theorem setArr_out : ∀ (vs : List Value) (cur : Array Value) (at' i : Nat), i < at' ∨ at' + vs.length ≤ i → (setArr cur at' vs)[i]? = cur[i]?
  | [], cur, at', i, _ => rfl
  | v :: r, cur, at', i, h => by
    unfold setArr
    rw [setArr_out r _ _ _ (by simp only [List.length_cons] at h; omega), Array.set!_eq_setIfInBounds, Array.getElem?_setIfInBounds_ne (by simp only [List.length_cons] at h; omega)]
theorem setArr_in : ∀ (vs : List Value) (cur : Array Value) (at' j : Nat) (u : Value), at' + vs.length ≤ cur.size → vs[j]? = some u → (setArr cur at' vs)[at' + j]? = some u
  | [], cur, at', j, u, _, h => by simp at h
  | v :: r, cur, at', 0, u, hs, h => by
    simp only [List.getElem?_cons_zero, Option.some.injEq] at h
    subst h
    unfold setArr
    rw [Nat.add_zero, setArr_out r _ _ _ (.inl (by omega))]
    simp only [List.length_cons] at hs
    simp [show at' < cur.size by omega]
  | v :: r, cur, at', j + 1, u, hs, h => by
    rw [List.getElem?_cons_succ] at h
    unfold setArr
    rw [show at' + (j + 1) = at' + 1 + j by omega]
    exact setArr_in r _ _ j u (by simp only [List.length_cons] at hs; simp; omega) h
theorem Fill.set {α : Type} {E : El α} {e : TypeId} {w : World} {g n : Nat} {l : List α} (h : Fill E e w g n l) {k : Nat} (hk : l.length = k) (hn : k < n) (x : α) : Fill E e (setAll w g (k * E.size) (E.cells x)) g n (l ++ [x]) := by
  obtain ⟨cur, h1, h2, h3, h4⟩ := h
  have hmul : k * E.size + E.size ≤ n * E.size := by
    have : (k + 1) * E.size ≤ n * E.size := Nat.mul_le_mul_right _ hn
    rw [Nat.add_mul, Nat.one_mul] at this; exact this
  refine ⟨_, setAll_block _ _ _ _ _ _ h1, by rw [setArr_size, h2], by simp; omega, fun i y hi j u hu => ?_⟩
  have hj : j < E.size := by have := (List.getElem?_eq_some_iff.1 hu).1; rw [E.len] at this; exact this
  rcases Nat.lt_or_ge i l.length with hl | hl
  · rw [List.getElem?_append_left hl] at hi
    have : i * E.size + E.size ≤ k * E.size := by
      have : (i + 1) * E.size ≤ k * E.size := Nat.mul_le_mul_right _ (by omega)
      rw [Nat.add_mul, Nat.one_mul] at this; exact this
    rw [setArr_out _ _ _ _ (.inl (by omega))]
    exact h4 i y hi j u hu
  · have hik : i = k := by
      have := (List.getElem?_eq_some_iff.1 hi).1
      simp at this
      omega
    subst hik
    rw [← hk, List.getElem?_append_right (Nat.le_refl _)] at hi
    simp at hi
    subst hi
    exact setArr_in _ _ _ _ _ (by rw [E.len, h2]; exact hmul) hu
theorem Fill.list {α : Type} {E : El α} {e : TypeId} {w : World} {g n : Nat} {l : List α} {F : Nat → Prop} (h : Fill E e w g n l) (hl : l.length = n) (hok : ∀ x ∈ l, E.ok w F x) (hF : F g) (hz : n < 1073741824) : Lst E w F (.slice (some ⟨g, 0, none⟩) n n) l := by
  have hlt := h.lt
  obtain ⟨cur, h1, h2, h3, h4⟩ := h
  subst hl
  refine ⟨_, _, rfl, Nat.le_refl _, fun h => (by cases h), hz, hok, fun _ => ⟨g, 0, rfl, hlt, hF, fun i x hx j u hu => ?_⟩⟩
  simp [World.cell?, h1, h4 i x hx j u hu]

/-- A list in a new block of its own (a literal, the arguments of a variadic call). -/
theorem has_new {α : Type} (E : El α) (w : World) (t : TypeId) (l : List α) (arr : Array Value) (harr : arr.toList = l.flatMap E.cells) {F : Nat → Prop} (hF : F w.heap.size) (hok : ∀ x ∈ l, E.ok (w.alloc (.cells arr t)) F x) (hl : l.length < 1073741824) :
    Lst E (w.alloc (.cells arr t)) F (.slice (some ⟨w.heap.size, 0, none⟩) l.length l.length) l := by
  refine ⟨_, _, rfl, Nat.le_refl _, fun h => (by cases h), hl, hok, fun _ => ⟨w.heap.size, 0, rfl, by simp, hF, fun i x hx j u hu => ?_⟩⟩
  have hj : j < E.size := by have := (List.getElem?_eq_some_iff.1 hu).1; rw [E.len] at this; exact this
  have h := flatE_at E l i j x hx hj
  rw [hu, ← harr, Array.getElem?_toList] at h
  have hh : (w.alloc (.cells arr t)).heap[w.heap.size]? = some (.cells arr t) := heap_alloc_new w _
  rw [Nat.zero_add]
  unfold World.cell?
  rw [hh]
  simpa using h
end Go.Proofs.YtnpmdepbfobebaaGreatDoor
