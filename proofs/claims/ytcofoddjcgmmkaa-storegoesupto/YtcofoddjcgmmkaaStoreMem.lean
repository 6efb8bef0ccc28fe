/- A Store in memory: its eight fields, the rows and maps that they lead to, the boxes of what takes a row back; what each statement of bring does to it. -/
import Derived.Test.YtcofoddjcgmmkaaProg
import Derived.Test.YtcofoddjcgmmkaaValMap
import Derived.DeepKeys4
import Derived.Deep.MidRow
namespace Go.Proofs.Ytcofoddjcgmmkaa
set_option linter.unusedSimpArgs false
set_option linter.unusedVariables false
open Go.RowKit Go.Maps
open Go.WideMaps (KeyLaw)

/-- A list of numbers as a map's key. -/
def litI (c : List Int) : Lit := .string (keyBytes (c.map (Lit.int .i64)))

structure Loc where
  va : Value
  vr : Value
  vb : Value
  vk : Value
  m1 : Nat
  m2 : Nat
  m3 : Nat
  n1 : Nat
  n2 : Nat
  n3 : Nat

structure Sto where
  ar : List Int
  C : List (List Int)
  bs : List Int
  ks : List Value
  born : Int
  N : Lit → Nat → Prop
  O : Lit → List Int
  W : Lit → List Int

def ArIs (w : World) (own : Own) (v : Value) (ar : List Int) : Prop :=
  ∃ ao cap, v = .slice ao ar.length cap ∧ (ar = [] ∨ ∃ b off, ao = some ⟨b, off, none⟩ ∧ own b = some .ar ∧ ∀ i a, ar[i]? = some a → w.cell? ⟨b, off + i, none⟩ = some (.int .i64 a))

def boxAt (w : World) (own : Own) (b : Nat) (cs : List Value) : Prop := own b = some .box ∧ ∃ t, w.heap[b]? = some (.cells cs.toArray t (0, 0))

/-- What takes the row c with the number i back. -/
def BackIs (w : World) (own : Own) (p i : Nat) (c : List Int) (v : Value) : Prop :=
  ∃ b2 b5 b3 b4 q, v = .func (.func 44) #[] #[.pointer (some ⟨b2, 0, none⟩), .pointer (some ⟨b5, 0, none⟩), .pointer (some ⟨b3, 0, none⟩), .pointer (some ⟨b4, 0, none⟩)] ∧
    c[0]? = some q ∧ boxAt w own b2 [.pointer (some ⟨p, 0, none⟩)] ∧ boxAt w own b5 [.int .i64 q] ∧ boxAt w own b3 (ints c) ∧ boxAt w own b4 [.int .i64 i]

abbrev T8 : TypeId := 65

structure Raw (w : World) (own : Own) (p : Nat) (L : Loc) (S : Sto) : Prop where
  me : w.heap[p]? = some (.cells #[L.va, L.vr, L.vb, L.vk, .int .i64 S.born, .map (some L.m1), .map (some L.m2), .map (some L.m3)] T8 (0, 0))
  tme : own p = some .me
  ar : ArIs w own L.va S.ar
  rows : RowIs w own .rows 56 9 L.vr S.C.length (S.C.flatMap ints)
  births : RowIs w own .births 3 1 L.vb S.bs.length (ints S.bs)
  backs : RowIs w own .backs 1 1 L.vk S.ks.length S.ks
  bk : ∀ i v, S.ks[i]? = some v → ∃ c, S.C[i]? = some c ∧ BackIs w own p i c v
  tnums : own L.m1 = some .nums
  nums : MapIs Try.prog 56 3 w L.m1 L.n1 S.N
  of : LMap Try.prog 3 3 w own .ofm .ofl L.m2 L.n2 S.O
  wh : LMap Try.prog 78 3 w own .whm .whl L.m3 L.n3 S.W

section
variable {w w' w0 w1 : World} {own own' : Own} {p : Nat} {L : Loc} {S : Sto} {A : Tag → Prop}

theorem ArIs.keep {v : Value} {ar : List Int} (h : ArIs w own v ar) (hT : Turn A own own' w w') (hA : ¬ A .ar) : ArIs w' own' v ar := by
  obtain ⟨ao, cap, h1, h2⟩ := h
  refine ⟨ao, cap, h1, ?_⟩
  rcases h2 with h2 | ⟨b, off, h3, h4, h5⟩
  · exact .inl h2
  · cases ar with
    | nil => exact .inl rfl
    | cons a r =>
      have hlt : b < w.heap.size := lt_of_cell (h5 0 a rfl)
      refine .inr ⟨b, off, h3, by rw [hT.ext b hlt]; exact h4, fun i x hi => ?_⟩
      rw [World.cell?_of_block (w := w) (hT.block hlt (fun t ht => by rw [h4] at ht; cases ht; exact hA))]
      exact h5 i x hi

theorem boxAt.keep {b : Nat} {cs : List Value} (h : boxAt w own b cs) (hT : Turn A own own' w w') (hA : ¬ A .box) : boxAt w' own' b cs := by
  obtain ⟨h1, t, h2⟩ := h
  have hlt := lt_of_block h2
  exact ⟨by rw [hT.ext b hlt]; exact h1, t, by rw [hT.block hlt (fun t ht => by rw [h1] at ht; cases ht; exact hA)]; exact h2⟩
theorem boxAt.cell {b j : Nat} {cs : List Value} {u : Value} (h : boxAt w own b cs) (hj : cs[j]? = some u) : w.cell? ⟨b, j, none⟩ = some u := by
  obtain ⟨_, t, h2⟩ := h
  simp [World.cell?, h2, hj]
theorem boxAt.range {b : Nat} {cs : List Value} (h : boxAt w own b cs) : w.rangeAt b 0 cs := fun j v hv => by rw [Nat.zero_add]; exact h.cell hv

theorem BackIs.keep {i : Nat} {c : List Int} {v : Value} (h : BackIs w own p i c v) (hT : Turn A own own' w w') (hA : ¬ A .box) : BackIs w' own' p i c v := by
  obtain ⟨b2, b5, b3, b4, q, h1, h2, h3, h4, h5, h6⟩ := h
  exact ⟨b2, b5, b3, b4, q, h1, h2, h3.keep hT hA, h4.keep hT hA, h5.keep hT hA, h6.keep hT hA⟩

theorem Raw.plt (h : Raw w own p L S) : p < w.heap.size := lt_of_block h.me
theorem Raw.cell (h : Raw w own p L S) {j : Nat} {u : Value} (hj : #[L.va, L.vr, L.vb, L.vk, .int .i64 S.born, .map (some L.m1), .map (some L.m2), .map (some L.m3)][j]? = some u) : w.cell? ⟨p, j, none⟩ = some u := by
  simp only [World.cell?, h.me]; exact hj
theorem Raw.c0 (h : Raw w own p L S) : w.cell? ⟨p, 0, none⟩ = some L.va := h.cell rfl
theorem Raw.c1 (h : Raw w own p L S) : w.cell? ⟨p, 1, none⟩ = some L.vr := h.cell rfl
theorem Raw.c2 (h : Raw w own p L S) : w.cell? ⟨p, 2, none⟩ = some L.vb := h.cell rfl
theorem Raw.c3 (h : Raw w own p L S) : w.cell? ⟨p, 3, none⟩ = some L.vk := h.cell rfl
theorem Raw.c4 (h : Raw w own p L S) : w.cell? ⟨p, 4, none⟩ = some (.int .i64 S.born) := h.cell rfl
theorem Raw.c5 (h : Raw w own p L S) : w.cell? ⟨p, 5, none⟩ = some (.map (some L.m1)) := h.cell rfl
theorem Raw.c6 (h : Raw w own p L S) : w.cell? ⟨p, 6, none⟩ = some (.map (some L.m2)) := h.cell rfl
theorem Raw.c7 (h : Raw w own p L S) : w.cell? ⟨p, 7, none⟩ = some (.map (some L.m3)) := h.cell rfl
theorem Raw.fz (h : Raw w own p L S) (j : Nat) : w.frozen? ⟨p, j, none⟩ = false := by simp [World.frozen?, h.me]

theorem Raw.keep (h : Raw w own p L S) (hT : Turn A own own' w w') (hA : ∀ t, ¬ A t) : Raw w' own' p L S where
  me := by rw [hT.block h.plt (fun t _ => hA t)]; exact h.me
  tme := by rw [hT.ext p h.plt]; exact h.tme
  ar := h.ar.keep hT (hA _)
  rows := h.rows.keep hT (hA _)
  births := h.births.keep hT (hA _)
  backs := h.backs.keep hT (hA _)
  bk := fun i v hv => by obtain ⟨c, h1, h2⟩ := h.bk i v hv; exact ⟨c, h1, h2.keep hT (hA _)⟩
  tnums := by rw [hT.ext _ h.nums.lt]; exact h.tnums
  nums := h.nums.same (hT.block h.nums.lt (fun t _ => hA t))
  of := h.of.keep hT (hA _) (fun _ => hA _)
  wh := h.wh.keep hT (hA _) (fun _ => hA _)

theorem Raw.below (h : Raw w own p L S) (hb : Below w.heap.size w w') : Raw w' own p L S := h.keep (A := fun _ => False) (Turn.below hb) (fun _ => id)

/-- Tags on new blocks. -/
theorem Turn.tag (own : Own) (w : World) {b : Nat} (t : Tag) (hb : w.heap.size ≤ b) : Turn A own (own.at b t) w w := ⟨Only.refl _ _, fun k hk => Own.at_other _ _ (by omega)⟩

theorem me_set {w : World} {p j : Nat} {a : Array Value} {t : TypeId} (h : w.heap[p]? = some (.cells a t (0, 0))) (u : Value) : (w.setCell ⟨p, j, none⟩ u).heap[p]? = some (.cells (a.setIfInBounds j u) t (0, 0)) := by
  simp [World.setCell, Array.getElem?_modify, h]

theorem numsKeep (h : Raw w own p L S) (hT : Turn A own own' w w') (hA : ¬ A .nums) : MapIs Try.prog 56 3 w' L.m1 L.n1 S.N :=
  h.nums.same (hT.block h.nums.lt (fun t ht => by rw [h.tnums] at ht; cases ht; exact hA))

theorem Raw.me1 (h : Raw w own p L S) (hT : Turn A own own' w w1) (hA : ¬ A .me) : w1.heap[p]? = some (.cells #[L.va, L.vr, L.vb, L.vk, .int .i64 S.born, .map (some L.m1), .map (some L.m2), .map (some L.m3)] T8 (0, 0)) := by
  rw [hT.block h.plt (fun t ht => by rw [h.tme] at ht; cases ht; exact hA)]; exact h.me

/-- s.rows = append(s.rows, c). -/
theorem Raw.push_rows (h : Raw w own p L S) {c : List Int} (h0 : Below w.heap.size w w0) (hg : w0.grownBy w1 L.vr.ownBlock) {g cap n : Nat} (hn : n = S.C.length)
    (hown : w1.ownsRow 0 56 9 (.slice (some ⟨g, 0, none⟩) (n + 1) cap) (n + 1) (S.C.flatMap ints ++ ints c)) (hat : L.vr.ownBlock = some g ∨ w.heap.size ≤ g) :
    Turn (fun t => t = .rows) own (own.at g .rows) w w1 ∧ w1.cell? ⟨p, 1, none⟩ = some L.vr ∧ w1.frozen? ⟨p, 1, none⟩ = false ∧
    Raw (w1.setCell ⟨p, 1, none⟩ (.slice (some ⟨g, 0, none⟩) (n + 1) cap)) (own.at g .rows) p { L with vr := .slice (some ⟨g, 0, none⟩) (n + 1) cap } { S with C := S.C ++ [c] } ∧
    Turn (fun t => t = .rows ∨ t = .me) own (own.at g .rows) w (w1.setCell ⟨p, 1, none⟩ (.slice (some ⟨g, 0, none⟩) (n + 1) cap)) := by
  subst hn
  obtain ⟨hr, hT1⟩ := h.rows.pushed h0 hg hown hat
  have hme := h.me1 hT1 (by simp)
  have hp1 : (own.at g .rows) p = some .me := by rw [hT1.ext p h.plt]; exact h.tme
  have hTs : Turn (fun t => t = .me) (own.at g .rows) (own.at g .rows) w1 (w1.setCell ⟨p, 1, none⟩ (.slice (some ⟨g, 0, none⟩) (S.C.length + 1) cap)) := (Turn.refl (fun t => t = .me) _ _).setCell hp1 (by simp) _
  have hT : Turn (fun t => t = .rows ∨ t = .me) own (own.at g .rows) w (w1.setCell ⟨p, 1, none⟩ (.slice (some ⟨g, 0, none⟩) (S.C.length + 1) cap)) := (hT1.mono (fun _ e => .inl e)).trans (hTs.mono (fun _ e => .inr e))
  refine ⟨hT1, by simp [World.cell?, hme], by simp [World.frozen?, hme], ⟨?_, hp1, h.ar.keep hT (by simp), ?_, h.births.keep hT (by simp), h.backs.keep hT (by simp), fun i v hv => ?_, by rw [hT.ext _ h.nums.lt]; exact h.tnums, (numsKeep (L := L) (S := S) h hT (by simp) : MapIs Try.prog 56 3 _ L.m1 L.n1 S.N), h.of.keep hT (by simp) (by simp), h.wh.keep hT (by simp) (by simp)⟩, hT⟩
  · rw [me_set hme]; simp
  · have := hr.keep hTs (by simp)
    simpa using this
  · obtain ⟨c', h1, h2⟩ := h.bk i v hv
    exact ⟨c', by rw [List.getElem?_append_left (List.getElem?_eq_some_iff.1 h1).1]; exact h1, h2.keep hT (by simp)⟩

/-- s.births = append(s.births, b). -/
theorem Raw.push_births (h : Raw w own p L S) {x : Int} (h0 : Below w.heap.size w w0) (hg : w0.grownBy w1 L.vb.ownBlock) {g cap n : Nat} (hn : n = S.bs.length)
    (hown : w1.ownsRow 0 3 1 (.slice (some ⟨g, 0, none⟩) (n + 1) cap) (n + 1) (ints S.bs ++ [.int .i64 x])) (hat : L.vb.ownBlock = some g ∨ w.heap.size ≤ g) :
    Turn (fun t => t = .births) own (own.at g .births) w w1 ∧ w1.cell? ⟨p, 2, none⟩ = some L.vb ∧ w1.frozen? ⟨p, 2, none⟩ = false ∧
    Raw (w1.setCell ⟨p, 2, none⟩ (.slice (some ⟨g, 0, none⟩) (n + 1) cap)) (own.at g .births) p { L with vb := .slice (some ⟨g, 0, none⟩) (n + 1) cap } { S with bs := S.bs ++ [x] } ∧
    Turn (fun t => t = .births ∨ t = .me) own (own.at g .births) w (w1.setCell ⟨p, 2, none⟩ (.slice (some ⟨g, 0, none⟩) (n + 1) cap)) := by
  subst hn
  obtain ⟨hr, hT1⟩ := h.births.pushed h0 hg hown hat
  have hme := h.me1 hT1 (by simp)
  have hp1 : (own.at g .births) p = some .me := by rw [hT1.ext p h.plt]; exact h.tme
  have hTs : Turn (fun t => t = .me) (own.at g .births) (own.at g .births) w1 (w1.setCell ⟨p, 2, none⟩ (.slice (some ⟨g, 0, none⟩) (S.bs.length + 1) cap)) := (Turn.refl (fun t => t = .me) _ _).setCell hp1 (by simp) _
  have hT : Turn (fun t => t = .births ∨ t = .me) own (own.at g .births) w (w1.setCell ⟨p, 2, none⟩ (.slice (some ⟨g, 0, none⟩) (S.bs.length + 1) cap)) := (hT1.mono (fun _ e => .inl e)).trans (hTs.mono (fun _ e => .inr e))
  refine ⟨hT1, by simp [World.cell?, hme], by simp [World.frozen?, hme], ⟨?_, hp1, h.ar.keep hT (by simp), h.rows.keep hT (by simp), ?_, h.backs.keep hT (by simp), fun i v hv => ?_, by rw [hT.ext _ h.nums.lt]; exact h.tnums, (numsKeep (L := L) (S := S) h hT (by simp) : MapIs Try.prog 56 3 _ L.m1 L.n1 S.N), h.of.keep hT (by simp) (by simp), h.wh.keep hT (by simp) (by simp)⟩, hT⟩
  · rw [me_set hme]; simp
  · have := hr.keep hTs (by simp)
    simpa using this
  · obtain ⟨c', h1, h2⟩ := h.bk i v hv
    exact ⟨c', h1, h2.keep hT (by simp)⟩

/-- s.backs = append(s.backs, f). -/
theorem Raw.push_backs (h : Raw w own p L S) {x : Value} {c : List Int} (hc : S.C[S.ks.length]? = some c) (hx : BackIs w own p S.ks.length c x) (h0 : Below w.heap.size w w0) (hg : w0.grownBy w1 L.vk.ownBlock) {g cap n : Nat} (hn : n = S.ks.length)
    (hown : w1.ownsRow 0 1 1 (.slice (some ⟨g, 0, none⟩) (n + 1) cap) (n + 1) (S.ks ++ [x])) (hat : L.vk.ownBlock = some g ∨ w.heap.size ≤ g) :
    Turn (fun t => t = .backs) own (own.at g .backs) w w1 ∧ w1.cell? ⟨p, 3, none⟩ = some L.vk ∧ w1.frozen? ⟨p, 3, none⟩ = false ∧
    Raw (w1.setCell ⟨p, 3, none⟩ (.slice (some ⟨g, 0, none⟩) (n + 1) cap)) (own.at g .backs) p { L with vk := .slice (some ⟨g, 0, none⟩) (n + 1) cap } { S with ks := S.ks ++ [x] } ∧
    Turn (fun t => t = .backs ∨ t = .me) own (own.at g .backs) w (w1.setCell ⟨p, 3, none⟩ (.slice (some ⟨g, 0, none⟩) (n + 1) cap)) := by
  subst hn
  obtain ⟨hr, hT1⟩ := h.backs.pushed h0 hg hown hat
  have hme := h.me1 hT1 (by simp)
  have hp1 : (own.at g .backs) p = some .me := by rw [hT1.ext p h.plt]; exact h.tme
  have hTs : Turn (fun t => t = .me) (own.at g .backs) (own.at g .backs) w1 (w1.setCell ⟨p, 3, none⟩ (.slice (some ⟨g, 0, none⟩) (S.ks.length + 1) cap)) := (Turn.refl (fun t => t = .me) _ _).setCell hp1 (by simp) _
  have hT : Turn (fun t => t = .backs ∨ t = .me) own (own.at g .backs) w (w1.setCell ⟨p, 3, none⟩ (.slice (some ⟨g, 0, none⟩) (S.ks.length + 1) cap)) := (hT1.mono (fun _ e => .inl e)).trans (hTs.mono (fun _ e => .inr e))
  refine ⟨hT1, by simp [World.cell?, hme], by simp [World.frozen?, hme], ⟨?_, hp1, h.ar.keep hT (by simp), h.rows.keep hT (by simp), h.births.keep hT (by simp), ?_, fun i v hv => ?_, by rw [hT.ext _ h.nums.lt]; exact h.tnums, (numsKeep (L := L) (S := S) h hT (by simp) : MapIs Try.prog 56 3 _ L.m1 L.n1 S.N), h.of.keep hT (by simp) (by simp), h.wh.keep hT (by simp) (by simp)⟩, hT⟩
  · rw [me_set hme]; simp
  · have := hr.keep hTs (by simp)
    simpa using this
  · rcases Nat.lt_or_ge i S.ks.length with hi | hi
    · have hv' : S.ks[i]? = some v := by have := hv; simp only at this; rwa [List.getElem?_append_left hi] at this
      obtain ⟨c', h1, h2⟩ := h.bk i v hv'
      exact ⟨c', h1, h2.keep hT (by simp)⟩
    · have hi2 : i = S.ks.length := by
        have := (List.getElem?_eq_some_iff.1 hv).1
        simp at this; omega
      subst hi2
      simp only [List.getElem?_concat_length, Option.some.injEq] at hv
      subst hv
      exact ⟨c, hc, hx.keep hT (by simp)⟩

/-- s.born++. -/
theorem Raw.set_born (h : Raw w own p L S) (x : Int) : Raw (w.setCell ⟨p, 4, none⟩ (.int .i64 x)) own p L { S with born := x } ∧ Turn (fun t => t = .me) own own w (w.setCell ⟨p, 4, none⟩ (.int .i64 x)) := by
  have hT : Turn (fun t => t = .me) own own w (w.setCell ⟨p, 4, none⟩ (.int .i64 x)) := (Turn.refl (fun t => t = .me) _ _).setCell h.tme (by simp) _
  refine ⟨⟨?_, h.tme, h.ar.keep hT (by simp), h.rows.keep hT (by simp), h.births.keep hT (by simp), h.backs.keep hT (by simp), fun i v hv => ?_, h.tnums, (numsKeep (L := L) (S := S) h hT (by simp) : MapIs Try.prog 56 3 _ L.m1 L.n1 S.N), h.of.keep hT (by simp) (by simp), h.wh.keep hT (by simp) (by simp)⟩, hT⟩
  · rw [me_set h.me]; simp
  · obtain ⟨c', h1, h2⟩ := h.bk i v hv
    exact ⟨c', h1, h2.keep hT (by simp)⟩

/-- A new map of numbers. -/
theorem Raw.set_nums (h : Raw w own p L S) {n1 : Nat} {N : Lit → Nat → Prop} (hM : MapIs Try.prog 56 3 w' L.m1 n1 N) (hO : Only (fun k => k = L.m1) w w') :
    Raw w' own p { L with n1 := n1 } { S with N := N } ∧ Turn (fun t => t = .nums) own own w w' := by
  have hT : Turn (fun t => t = .nums) own own w w' := ⟨hO.mono (fun k _ e => ⟨.nums, by rw [e]; exact h.tnums, rfl⟩), fun _ _ => rfl⟩
  refine ⟨⟨h.me1 hT (by simp), h.tme, h.ar.keep hT (by simp), h.rows.keep hT (by simp), h.births.keep hT (by simp), h.backs.keep hT (by simp), fun i v hv => ?_, h.tnums, hM, h.of.keep hT (by simp) (by simp), h.wh.keep hT (by simp) (by simp)⟩, hT⟩
  obtain ⟨c', h1, h2⟩ := h.bk i v hv
  exact ⟨c', h1, h2.keep hT (by simp)⟩

theorem Raw.set_of (h : Raw w own p L S) {n2 : Nat} {O : Lit → List Int} {l : Lit} (hM : LMap Try.prog 3 3 w' own' .ofm .ofl L.m2 n2 O) (hT : Turn (fun t => t = .ofl l ∨ t = .ofm) own own' w w') :
    Raw w' own' p { L with n2 := n2 } { S with O := O } := by
  refine ⟨h.me1 hT (by simp), by rw [hT.ext p h.plt]; exact h.tme, h.ar.keep hT (by simp), h.rows.keep hT (by simp), h.births.keep hT (by simp), h.backs.keep hT (by simp), fun i v hv => ?_, by rw [hT.ext _ h.nums.lt]; exact h.tnums, (numsKeep (L := L) (S := S) h hT (by simp) : MapIs Try.prog 56 3 _ L.m1 L.n1 S.N), hM, h.wh.keep hT (by simp) (by simp)⟩
  obtain ⟨c', h1, h2⟩ := h.bk i v hv
  exact ⟨c', h1, h2.keep hT (by simp)⟩

theorem Raw.set_wh (h : Raw w own p L S) {n3 : Nat} {W : Lit → List Int} {l : Lit} (hM : LMap Try.prog 78 3 w' own' .whm .whl L.m3 n3 W) (hT : Turn (fun t => t = .whl l ∨ t = .whm) own own' w w') :
    Raw w' own' p { L with n3 := n3 } { S with W := W } := by
  refine ⟨h.me1 hT (by simp), by rw [hT.ext p h.plt]; exact h.tme, h.ar.keep hT (by simp), h.rows.keep hT (by simp), h.births.keep hT (by simp), h.backs.keep hT (by simp), fun i v hv => ?_, by rw [hT.ext _ h.nums.lt]; exact h.tnums, (numsKeep (L := L) (S := S) h hT (by simp) : MapIs Try.prog 56 3 _ L.m1 L.n1 S.N), h.of.keep hT (by simp) (by simp), hM⟩
  obtain ⟨c', h1, h2⟩ := h.bk i v hv
  exact ⟨c', h1, h2.keep hT (by simp)⟩
end

/-! Keys. -/
theorem lawCells : KeyLaw Try.prog 56 := deep_law_laid (m := 20) (by kernel_rfl) (by decide) (of_decide_eq_true (by kernel_rfl)) (by kernel_rfl) (by kernel_rfl)
theorem lawSpot : KeyLaw Try.prog 78 := deep_law_laid (m := 20) (by kernel_rfl) (by decide) (of_decide_eq_true (by kernel_rfl)) (by kernel_rfl) (by kernel_rfl)
theorem lawInt : Keyed Try.prog 3 := int_keyed Try.underlying3
theorem zeroInt (w : World) : (zeroValue 3).run Try.prog w = .ok (.int .i64 0) w := by kernel_rfl
theorem zeroInts (w : World) : (zeroValue 22).run Try.prog w = .ok (.slice none 0 0) w := by kernel_rfl
end Go.Proofs.Ytcofoddjcgmmkaa
