/- A map from keys to values, as a call made it, said of memory; blocks that bear tags; rows and maps of rows in tagged blocks. Nothing of the program's own text. -/
import Derived.Test.YtgligipgjakecaaDoorIdsBase
import Derived.WideKeyEntry
namespace Go.Proofs.YtgligipgjakecaaDoor
set_option linter.unusedSimpArgs false
set_option linter.unusedVariables false
open Go.RowKit Go.Maps
open Go.WideMaps (KeyLaw)
open Go.ChangeMaps (setBlock heap_setBlock_same heap_setBlock_other)

/-- An element that stands for itself. -/
def valElem (v : Value) : Option (DataW Value × List MemPlace) := some (.held v, [])

section
variable {P : Program} {tk te t : TypeId} {w w' : World} {m n : Nat} {V : Lit → Option Value}

/-- Block m is a map of at most n entries: the key l has the value V l. -/
def MapVal (P : Program) (tk : TypeId) (w : World) (m n : Nat) (V : Lit → Option Value) : Prop :=
  ∃ D : DataW Value, w.ownsMap P tk valElem m n D ∧ (∀ l v, V l = some v → Maps.has D l = true ∧ ∀ z, D.atKey l z = .held v) ∧ (∀ l, V l = none → Maps.has D l = false)

theorem MapVal.made (P : Program) (tk : TypeId) (w : World) : MapVal P tk (w.alloc (.map #[] 0)) w.heap.size 0 (fun _ => none) :=
  ⟨.map [], World.ownsMap_made w P tk _, fun _ _ h => by simp at h, fun _ _ => rfl⟩

theorem MapVal.block (h : MapVal P tk w m n V) : ∃ es clock, w.heap[m]? = some (.map es clock) := by
  obtain ⟨D, ⟨es, clock, h1, _⟩, _⟩ := h
  exact ⟨es, clock, h1⟩
theorem MapVal.lt (h : MapVal P tk w m n V) : m < w.heap.size := by
  obtain ⟨D, h1, _⟩ := h
  exact h1.lt
theorem MapVal.same (h : MapVal P tk w m n V) (hb : w'.heap[m]? = w.heap[m]?) : MapVal P tk w' m n V := by
  obtain ⟨D, ⟨es, clock, h1, h4⟩, h2, h3⟩ := h
  exact ⟨D, ⟨es, clock, by rw [hb]; exact h1, h4⟩, h2, h3⟩
theorem MapVal.mono {n' : Nat} (h : MapVal P tk w m n V) (hn : n ≤ n') : MapVal P tk w m n' V := by
  obtain ⟨D, h1, h2, h3⟩ := h
  exact ⟨D, h1.mono hn, h2, h3⟩

theorem MapVal.look (h : MapVal P tk w m n V) (K : Keyed P tk) (ht : P.underlying t = some (.map tk te)) {z : Value} (hz : (zeroValue te).run P w = .ok z w)
    {key : Value} {l : Lit} (hkey : keyOf P tk key = some l) : (Instr.lookup t (.map (some m)) key false).run P w = .ok ((V l).getD z) w := by
  obtain ⟨D, h1, h2, h3⟩ := h
  obtain ⟨v, ps, hrun, hv⟩ := h1.lookup K ht hz (zd := .held z) (zp := []) rfl hkey
  rw [hrun]
  simp only [valElem, Option.some.injEq, Prod.mk.injEq] at hv
  cases hV : V l with
  | none =>
    have := h3 l hV
    rw [Maps.atKey_of_not_has this] at hv
    simp only [DataW.held.injEq] at hv
    rw [hv.1]; rfl
  | some u =>
    rw [(h2 l u hV).2] at hv
    simp only [DataW.held.injEq] at hv
    rw [hv.1]; rfl

theorem MapVal.look_ok (h : MapVal P tk w m n V) (K : Keyed P tk) (ht : P.underlying t = some (.map tk te)) {z : Value} (hz : (zeroValue te).run P w = .ok z w)
    {key : Value} {l : Lit} (hkey : keyOf P tk key = some l) : (Instr.lookup t (.map (some m)) key true).run P w = .ok (.tuple #[(V l).getD z, .bool (V l).isSome]) w := by
  obtain ⟨D, h1, h2, h3⟩ := h
  obtain ⟨v, ps, hrun, hv⟩ := h1.look_ok K ht hz (zd := .held z) (zp := []) rfl hkey
  rw [hrun]
  simp only [valElem, Option.some.injEq, Prod.mk.injEq] at hv
  cases hV : V l with
  | none =>
    have := h3 l hV
    rw [Maps.atKey_of_not_has this] at hv
    simp only [DataW.held.injEq] at hv
    rw [hv.1, this]; rfl
  | some u =>
    rw [(h2 l u hV).2] at hv
    simp only [DataW.held.injEq] at hv
    rw [hv.1, (h2 l u hV).1]; rfl

open Classical in
/-- One key's value set. -/
noncomputable def setV (V : Lit → Option Value) (l : Lit) (u : Option Value) : Lit → Option Value := fun l' => if l' = l then u else V l'
theorem setV_same (V : Lit → Option Value) (l : Lit) (u : Option Value) : setV V l u l = u := by simp [setV]
theorem setV_other (V : Lit → Option Value) {l l' : Lit} (u : Option Value) (h : l' ≠ l) : setV V l u l' = V l' := by simp [setV, h]

theorem MapVal.store (h : MapVal P tk w m n V) (K : Keyed P tk) (ht : P.underlying t = some (.map tk te)) (hn : n < maxLen)
    {key : Value} {l : Lit} (hkey : keyOf P tk key = some l) (u : Value) :
    ∃ w', (Instr.mapUpdate t (.map (some m)) key u).run P w = .ok () w' ∧ MapVal P tk w' m (n + 1) (setV V l (some u)) ∧ Only (fun k => k = m) w w' := by
  obtain ⟨D, g1, g2, g3⟩ := h
  obtain ⟨w', hrun, hown, hturn⟩ := g1.store K ht hn hkey (val := u) (d := .held u) (ps := []) rfl
  have hg := hturn.grown
  refine ⟨w', hrun, ⟨_, hown, ?_, ?_⟩, hg.os, hg.tape, hg.output, hg.size, fun k hk hne => hg.block k hk (by simpa using hne)⟩
  · intro l' v hv
    by_cases e : l' = l
    · subst e
      rw [setV_same] at hv
      cases hv
      exact ⟨has_put_same g1.isMap (K.key hkey) _, fun z => atKey_put_same g1.isMap (K.key hkey) _ _⟩
    · rw [setV_other _ _ e] at hv
      obtain ⟨a1, a2⟩ := g2 l' v hv
      exact ⟨by rw [has_put_other e]; exact a1, fun z => by rw [atKey_put_other e]; exact a2 z⟩
  · intro l' hl'
    by_cases e : l' = l
    · subst e; rw [setV_same] at hl'; cases hl'
    · rw [setV_other _ _ e] at hl'; rw [has_put_other e]; exact g3 l' hl'

theorem MapVal.drop (h : MapVal P tk w m n V) (K : Keyed P tk) (ht : P.underlying t = some (.map tk te)) {key : Value} {l : Lit} (hkey : keyOf P tk key = some l) (ty : TypeId) :
    ∃ w', (Builtin.delete_ #[t, tk] ty #[.map (some m), key]).run P w = .ok (.tuple #[]) w' ∧ MapVal P tk w' m n (setV V l none) ∧ Only (fun k => k = m) w w' := by
  obtain ⟨D, g1, g2, g3⟩ := h
  obtain ⟨w', hrun, hown, hturn⟩ := g1.drop K ht hkey ty
  have hg := hturn.grown
  refine ⟨w', hrun, ⟨_, hown, ?_, ?_⟩, hg.os, hg.tape, hg.output, hg.size, fun k hk hne => hg.block k hk (by simpa using hne)⟩
  · intro l' v hv
    by_cases e : l' = l
    · subst e; rw [setV_same] at hv; cases hv
    · rw [setV_other _ _ e] at hv
      obtain ⟨a1, a2⟩ := g2 l' v hv
      exact ⟨by rw [has_del_other e]; exact a1, fun z => by rw [atKey_del_other e]; exact a2 z⟩
  · intro l' hl'
    by_cases e : l' = l
    · subst e; exact has_del_same
    · rw [setV_other _ _ e] at hl'; rw [has_del_other e]; exact g3 l' hl'

theorem entry_unique {l : List MapEntry} (hp : (l.map (·.key)).Nodup) {a b : MapEntry} (ha : a ∈ l) (hb : b ∈ l) (h : a.key = b.key) : a = b := by
  obtain ⟨i, hi⟩ := List.mem_iff_getElem?.1 ha
  obtain ⟨j, hj⟩ := List.mem_iff_getElem?.1 hb
  have hil : i < (l.map (·.key)).length := by rw [List.length_map]; exact (List.getElem?_eq_some_iff.1 hi).1
  have e : (l.map (·.key))[i]? = (l.map (·.key))[j]? := by rw [List.getElem?_map, List.getElem?_map, hi, hj]; simp [h]
  have := (List.getElem?_inj hil hp).1 e
  subst this
  rw [hi] at hj
  exact Option.some.inj hj

/-- 'm[k] = append(m[k], ..)': the entry is found or made, then written. -/
theorem MapVal.entry (h : MapVal P tk w m n V) (K : KeyLaw P tk) (ht : P.underlying t = some (.map tk te)) (hn : n < maxLen) {z : Value} (hz : ∀ u : World, (zeroValue te).run P u = .ok z u)
    {key : Value} {l : Lit} (hkey : keyOf P tk key = some l) :
    ∃ st w1, (Instr.mapEntry t (.map (some m)) key).run P w = .ok (.tuple #[(V l).getD z, goInt st]) w1 ∧ Only (fun k => k = m) w w1 ∧
      ∀ w2 u, w2.heap[m]? = w1.heap[m]? → ∃ w3, (Instr.entryStore t (.map (some m)) (goInt st) u).run P w2 = .ok () w3 ∧ MapVal P tk w3 m (n + 1) (setV V l (some u)) ∧ Only (fun k => k = m) w2 w3 := by
  have hh := h
  obtain ⟨D, g1, g2, g3⟩ := h
  obtain ⟨es, clock, hb, F, hs, rfl⟩ := g1
  obtain ⟨v0, st, es1, clock1, hrun, hv0, hst⟩ := WideElems.entry_then_store K ht hz hb F hkey
  have hlook := hh.look (Keyed.of_law K) ht (hz w) hkey
  have hv : v0 = (V l).getD z := by
    rcases Maps.fit_look false (Keyed.of_law K) ht (hz w) hb F hkey with ⟨hr, hno, _⟩ | ⟨e0, y, hm0, hk0, hr, _⟩
    · rw [hr] at hlook
      simp only [Result.ok.injEq, and_true] at hlook
      rcases hv0 with ⟨e0, h1, h2, _⟩ | ⟨_, h2⟩
      · exact absurd h2 (hno e0 h1)
      · rw [h2]; simpa using hlook
    · rw [hr] at hlook
      rcases hv0 with ⟨e1, h1, h2, h3⟩ | ⟨h2, _⟩
      · have : e1 = e0 := by
          exact entry_unique F.stamped.2.2 h1 hm0 (h2.trans hk0.symm)
        subst this
        rw [h3]; simpa using hlook
      · exact absurd hk0 (h2 e0 hm0)
  refine ⟨st, setBlock w m (.map es1 clock1), by rw [hrun, hv], ⟨rfl, rfl, rfl, by simp [setBlock], fun k _ hk => heap_setBlock_other hb _ hk⟩, ?_⟩
  intro w2 u hw2
  obtain ⟨es', clock', hr2, hr3⟩ := hst w2 u (by rw [hw2]; exact heap_setBlock_same hb _)
  obtain ⟨w4, hr4, hM4, _⟩ := hh.store (Keyed.of_law K) ht hn hkey u
  rw [hr3] at hr4
  simp only [Result.ok.injEq, true_and] at hr4
  have hb2 : w2.heap[m]? = some (.map es1 clock1) := by rw [hw2]; exact heap_setBlock_same hb _
  refine ⟨_, hr2, hM4.same ?_, ⟨rfl, rfl, rfl, by simp [setBlock], fun k _ hk => heap_setBlock_other hb2 _ hk⟩⟩
  rw [← hr4, heap_setBlock_same hb2, heap_setBlock_same hb]
end

/-! Tagged blocks. -/
inductive Tag where
  | me | ar | rows | births | backs | nums | ofm | whm | box
  | ofl (l : Lit)
  | whl (l : Lit)

abbrev Own := Nat → Option Tag
def Own.at (own : Own) (g : Nat) (t : Tag) : Own := fun k => if k = g then some t else own k
theorem Own.at_same (own : Own) (g : Nat) (t : Tag) : own.at g t g = some t := by simp [Own.at]
theorem Own.at_other (own : Own) {g k : Nat} (t : Tag) (h : k ≠ g) : own.at g t k = own k := by simp [Own.at, h]

/-- From w to w' only blocks with tags of A were written; old blocks keep their tags. -/
structure Turn (A : Tag → Prop) (own own' : Own) (w w' : World) : Prop where
  only : Only (fun k => ∃ t, own k = some t ∧ A t) w w'
  ext : ∀ k, k < w.heap.size → own' k = own k

theorem Turn.refl (A : Tag → Prop) (own : Own) (w : World) : Turn A own own w w := ⟨Only.refl _ _, fun _ _ => rfl⟩
theorem Turn.mono {A B : Tag → Prop} {own own' : Own} {w w' : World} (h : Turn A own own' w w') (hB : ∀ t, A t → B t) : Turn B own own' w w' :=
  ⟨h.only.mono (fun _ _ ⟨t, h1, h2⟩ => ⟨t, h1, hB t h2⟩), h.ext⟩
theorem Turn.trans {A : Tag → Prop} {own own' own'' : Own} {w w' w'' : World} (h : Turn A own own' w w') (k : Turn A own' own'' w' w'') : Turn A own own'' w w'' := by
  have hs := h.only.size
  refine ⟨⟨k.only.os.trans h.only.os, k.only.tape.trans h.only.tape, k.only.output.trans h.only.output, Nat.le_trans hs k.only.size, fun i hi hn => ?_⟩, fun i hi => (k.ext i (Nat.lt_of_lt_of_le hi hs)).trans (h.ext i hi)⟩
  rw [k.only.block i (Nat.lt_of_lt_of_le hi hs) (fun ⟨t, h1, h2⟩ => hn ⟨t, by rw [← h.ext i hi]; exact h1, h2⟩), h.only.block i hi hn]
theorem Turn.below {A : Tag → Prop} {own : Own} {w w' : World} (h : Below w.heap.size w w') : Turn A own own w w' := ⟨Only.of_below h _, fun _ _ => rfl⟩
theorem Turn.alloc {A : Tag → Prop} {own own' : Own} {a w : World} (h : Turn A own own' a w) (o : Obj) : Turn A own own' a (w.alloc o) := h.trans (Turn.below ((Below.refl _ _).alloc (Nat.le_refl _) _))
theorem Turn.drew {A : Tag → Prop} {own own' : Own} {a w : World} (h : Turn A own own' a w) : Turn A own own' a w.drew := ⟨h.only.drew, h.ext⟩
theorem Turn.setCell {A : Tag → Prop} {own own' : Own} {a w : World} (h : Turn A own own' a w) {q : Addr} {t : Tag} (hq : own' q.block = some t) (hA : A t) (u : Value) : Turn A own own' a (w.setCell q u) := by
  have hs : Only (fun k => ∃ t, own' k = some t ∧ A t) w (w.setCell q u) := (Only.refl _ w).setCell ⟨t, hq, hA⟩ u
  exact h.trans ⟨hs, fun _ _ => rfl⟩

/-- A block that is there and bears a tag outside A stays. -/
theorem Turn.block {A : Tag → Prop} {own own' : Own} {w w' : World} (h : Turn A own own' w w') {k : Nat} (hk : k < w.heap.size) (hA : ∀ t, own k = some t → ¬ A t) : w'.heap[k]? = w.heap[k]? :=
  h.only.block k hk (fun ⟨t, h1, h2⟩ => hA t h1 h2)

theorem lt_of_block {w : World} {k : Nat} {o : Obj} (h : w.heap[k]? = some o) : k < w.heap.size := (Array.getElem?_eq_some_iff.1 h).1

section
variable {e : TypeId} {size : Nat} {w w' w0 w1 : World} {own own' : Own} {tag : Tag} {v : Value} {n : Nat} {xs : List Value} {A : Tag → Prop}

/-- The slice value v owns xs, in a block with the tag. -/
def RowIs (w : World) (own : Own) (tag : Tag) (e : TypeId) (size : Nat) (v : Value) (n : Nat) (xs : List Value) : Prop :=
  w.ownsRow 0 e size v n xs ∧ ∀ g, v.ownBlock = some g → own g = some tag

theorem RowIs.nil (w : World) (own : Own) (tag : Tag) (e : TypeId) (size : Nat) : RowIs w own tag e size (.slice none 0 0) 0 [] := ⟨World.ownsRow_nil _ _ _ _, fun g h => by simp [Value.ownBlock] at h⟩

theorem RowIs.keep (h : RowIs w own tag e size v n xs) (hT : Turn A own own' w w') (hA : ¬ A tag) : RowIs w' own' tag e size v n xs := by
  obtain ⟨⟨h1, h2⟩, h3⟩ := h
  rcases h2 with ⟨rfl, h0⟩ | ⟨g, cap, cur, rfl, hb, hh, rest⟩
  · exact ⟨⟨h1, .inl ⟨rfl, h0⟩⟩, fun g h => by simp [Value.ownBlock] at h⟩
  · have hg := h3 g rfl
    have hlt := lt_of_block hh
    refine ⟨⟨h1, .inr ⟨g, cap, cur, rfl, hb, ?_, rest⟩⟩, fun g' h => ?_⟩
    · rw [hT.block hlt (fun t ht => by rw [hg] at ht; cases ht; exact hA)]; exact hh
    · simp only [Value.ownBlock, Option.some.injEq] at h
      subst h
      rw [hT.ext _ hlt]; exact hg

/-- Behind an append. -/
theorem RowIs.pushed (h : RowIs w own tag e size v n xs) (h0 : Below w.heap.size w w0) (hg : w0.grownBy w1 v.ownBlock) {g cap n' : Nat} {xs' : List Value} (hown : w1.ownsRow 0 e size (.slice (some ⟨g, 0, none⟩) n' cap) n' xs')
    (hat : v.ownBlock = some g ∨ w.heap.size ≤ g) : RowIs w1 (own.at g tag) tag e size (.slice (some ⟨g, 0, none⟩) n' cap) n' xs' ∧ Turn (fun t => t = tag) own (own.at g tag) w w1 := by
  refine ⟨⟨hown, fun g' hg' => ?_⟩, ⟨?_, fun k hk => ?_⟩⟩
  · simp only [Value.ownBlock, Option.some.injEq] at hg'
    subst hg'; exact Own.at_same _ _ _
  · refine ⟨hg.os.trans h0.os, hg.tape.trans h0.tape, hg.output.trans h0.output, Nat.le_trans h0.size hg.size, fun k hk hn => ?_⟩
    rw [hg.block k (Nat.lt_of_lt_of_le hk h0.size) (fun e1 => hn ⟨tag, h.2 k e1.symm, rfl⟩), h0.block k hk]
  · by_cases e1 : k = g
    · subst e1
      rw [Own.at_same]
      rcases hat with h1 | h1
      · exact (h.2 k h1).symm
      · omega
    · exact Own.at_other _ _ e1

theorem RowIs.cellAt (h : RowIs w own tag e size v n xs) {j : Nat} {u : Value} (hj : xs[j]? = some u) : ∃ g cap, v = .slice (some ⟨g, 0, none⟩) n cap ∧ w.cell? ⟨g, j, none⟩ = some u ∧ n ≤ cap ∧ own g = some tag := by
  obtain ⟨⟨h1, h2⟩, h3⟩ := h
  have hlt : j < xs.length := (List.getElem?_eq_some_iff.1 hj).1
  rcases h2 with ⟨rfl, h0⟩ | ⟨g, cap, cur, rfl, hb, hh, r1, r2, r3, r4⟩
  · subst h0; omega
  · refine ⟨g, cap, rfl, ?_, r1, h3 g rfl⟩
    have e2 : cur.toList[j]? = (cur.toList.take (n * size))[j]? := (List.getElem?_take_of_lt (by omega)).symm
    have e3 : cur[j]? = some u := by rw [← Array.getElem?_toList, e2, r4, hj]
    simp [World.cell?, hh, e3]
theorem RowIs.form (h : RowIs w own tag e size v n xs) : ∃ ao cap, v = .slice ao n cap ∧ (0 < n → ∃ g, ao = some ⟨g, 0, none⟩) ∧ n ≤ cap := by
  rcases h.1.2 with ⟨rfl, h0⟩ | ⟨g, cap, cur, rfl, hb, hh, r1, r2, r3, r4⟩
  · exact ⟨none, 0, by rw [h0], fun h => by omega, by omega⟩
  · exact ⟨_, cap, rfl, fun _ => ⟨g, rfl⟩, r1⟩
end

section
variable {P : Program} {tk te ty t : TypeId} {w w' : World} {own own' : Own} {m n : Nat} {L : Lit → List Int} {tl : Lit → Tag} {tm : Tag} {A : Tag → Prop}
abbrev ints (l : List Int) : List Value := l.map (Value.int .i64)

/-- Block m is a map of lists of numbers: the key l has the list L l, none where it is empty; each list in a block with its own tag. -/
def LMap (P : Program) (tk ty : TypeId) (w : World) (own : Own) (tm : Tag) (tl : Lit → Tag) (m n : Nat) (L : Lit → List Int) : Prop :=
  own m = some tm ∧ ∃ V, MapVal P tk w m n V ∧ ∀ l, ((V l = none ∧ L l = []) ∨ ∃ v, V l = some v ∧ L l ≠ [] ∧ RowIs w own (tl l) ty 1 v (L l).length (ints (L l)))

theorem LMap.lt (h : LMap P tk ty w own tm tl m n L) : m < w.heap.size := by
  obtain ⟨_, V, hV, _⟩ := h
  exact hV.lt

theorem LMap.keep (h : LMap P tk ty w own tm tl m n L) (hT : Turn A own own' w w') (hA : ¬ A tm) (hL : ∀ l, ¬ A (tl l)) : LMap P tk ty w' own' tm tl m n L := by
  obtain ⟨h1, V, hV, hR⟩ := h
  refine ⟨by rw [hT.ext m hV.lt]; exact h1, V, hV.same (hT.block hV.lt (fun t ht => by rw [h1] at ht; cases ht; exact hA)), fun l => ?_⟩
  rcases hR l with h2 | ⟨v, h2, h3, h4⟩
  · exact .inl h2
  · exact .inr ⟨v, h2, h3, h4.keep hT (hL l)⟩

theorem LMap.made (P : Program) (tk ty : TypeId) (w : World) (own : Own) (tm : Tag) (tl : Lit → Tag) (h : own w.heap.size = some tm) : LMap P tk ty (w.alloc (.map #[] 0)) own tm tl w.heap.size 0 (fun _ => []) :=
  ⟨h, _, MapVal.made P tk w, fun l => .inl ⟨rfl, rfl⟩⟩

/-- What a key has: its list's slice, nil where there is none. -/
theorem LMap.look (h : LMap P tk ty w own tm tl m n L) (K : Keyed P tk) (ht : P.underlying t = some (.map tk te)) (hz : (zeroValue te).run P w = .ok (.slice none 0 0) w) {key : Value} {l : Lit} (hkey : keyOf P tk key = some l) :
    ∃ v, (Instr.lookup t (.map (some m)) key false).run P w = .ok v w ∧ RowIs w own (tl l) ty 1 v (L l).length (ints (L l)) := by
  obtain ⟨h1, V, hV, hR⟩ := h
  refine ⟨_, hV.look K ht hz hkey, ?_⟩
  rcases hR l with ⟨h2, h3⟩ | ⟨v, h2, h3, h4⟩
  · rw [h2, h3]; exact RowIs.nil _ _ _ _ _
  · rw [h2]; exact h4

theorem LMap.look_all (h : LMap P tk ty w own tm tl m n L) (K : Keyed P tk) (ht : P.underlying t = some (.map tk te)) (hz : ∀ W : World, (zeroValue te).run P W = .ok (.slice none 0 0) W) {key : Value} {l : Lit} (hkey : keyOf P tk key = some l) :
    ∃ v, (∀ W : World, W.heap[m]? = w.heap[m]? → (Instr.lookup t (.map (some m)) key false).run P W = .ok v W) ∧ RowIs w own (tl l) ty 1 v (L l).length (ints (L l)) := by
  obtain ⟨h1, V, hV, hR⟩ := h
  refine ⟨_, fun W hW => (hV.same hW).look K ht (hz W) hkey, ?_⟩
  rcases hR l with ⟨h2, h3⟩ | ⟨v, h2, h3, h4⟩
  · rw [h2, h3]; exact RowIs.nil _ _ _ _ _
  · rw [h2]; exact h4

open Classical in
noncomputable def setL (L : Lit → List Int) (l : Lit) (x : List Int) : Lit → List Int := fun l' => if l' = l then x else L l'
theorem setL_same (L : Lit → List Int) (l : Lit) (u : List Int) : setL L l u l = u := by simp [setL]
theorem setL_other (L : Lit → List Int) {l l' : Lit} (u : List Int) (h : l' ≠ l) : setL L l u l' = L l' := by simp [setL, h]

/-- The rows, behind a store of a new slice at the key. -/
theorem LMap.rows_after {V : Lit → Option Value} (htl : ∀ a b, tl a = tl b → a = b) {B : Tag → Prop} {l : Lit} {v : Value} {zs : List Int} (hz : zs ≠ [])
    (hR : ∀ l, ((V l = none ∧ L l = []) ∨ ∃ v, V l = some v ∧ L l ≠ [] ∧ RowIs w own (tl l) ty 1 v (L l).length (ints (L l)))) (hT : Turn B own own' w w') (hB : ∀ l', l' ≠ l → ¬ B (tl l'))
    (hv : RowIs w' own' (tl l) ty 1 v zs.length (ints zs)) :
    ∀ l', ((setV V l (some v) l' = none ∧ setL L l zs l' = []) ∨ ∃ v', setV V l (some v) l' = some v' ∧ setL L l zs l' ≠ [] ∧ RowIs w' own' (tl l') ty 1 v' (setL L l zs l').length (ints (setL L l zs l'))) := by
  intro l'
  by_cases e : l' = l
  · subst e
    rw [setV_same, setL_same]
    exact .inr ⟨v, rfl, hz, hv⟩
  · rw [setV_other _ _ e, setL_other _ _ e]
    rcases hR l' with h2 | ⟨v, h2, h3, h4⟩
    · exact .inl h2
    · exact .inr ⟨v, h2, h3, h4.keep hT (hB l' e)⟩
end
section
variable {P : Program} {tk te ty t : TypeId} {w w' : World} {own own' : Own} {m n : Nat} {L : Lit → List Int} {tl : Lit → Tag} {tm : Tag} {A : Tag → Prop}

/-- 'm[k] = append(m[k], x)' by a look-up and a store. -/
theorem LMap.put (h : LMap P tk ty w own tm tl m n L) (K : Keyed P tk) (ht : P.underlying t = some (.map tk te)) (hn : n < maxLen) (htl : ∀ a b, tl a = tl b → a = b) (htm : ∀ l, tl l ≠ tm) {key : Value} {l : Lit} (hkey : keyOf P tk key = some l)
    {v : Value} (hv : RowIs w own (tl l) ty 1 v (L l).length (ints (L l))) {w0 w1 : World} (h0 : Below w.heap.size w w0) (hg : w0.grownBy w1 v.ownBlock) {g cap : Nat} {x : Int}
    (hown : w1.ownsRow 0 ty 1 (.slice (some ⟨g, 0, none⟩) ((L l).length + 1) cap) ((L l).length + 1) (ints (L l) ++ [.int .i64 x])) (hat : v.ownBlock = some g ∨ w.heap.size ≤ g) :
    ∃ w2, (Instr.mapUpdate t (.map (some m)) key (.slice (some ⟨g, 0, none⟩) ((L l).length + 1) cap)).run P w1 = .ok () w2 ∧ LMap P tk ty w2 (own.at g (tl l)) tm tl m (n + 1) (setL L l (L l ++ [x])) ∧
      Turn (fun t => t = tl l ∨ t = tm) own (own.at g (tl l)) w w2 ∧ (∀ k, k ≠ m → w2.heap[k]? = w1.heap[k]?) ∧ w2.heap.size = w1.heap.size := by
  obtain ⟨h1, V, hV, hR⟩ := h
  obtain ⟨hr, hT1⟩ := hv.pushed h0 hg hown hat
  have hm1 : w1.heap[m]? = w.heap[m]? := hT1.block hV.lt (fun t ht => by rw [h1] at ht; cases ht; exact fun e => htm l e.symm)
  obtain ⟨w2, hrun, hM, hO⟩ := (hV.same hm1).store (t := t) K ht hn hkey (.slice (some ⟨g, 0, none⟩) ((L l).length + 1) cap)
  have hom : own.at g (tl l) m = some tm := by rw [hT1.ext m hV.lt]; exact h1
  have hT2 : Turn (fun t => t = tm) (own.at g (tl l)) (own.at g (tl l)) w1 w2 := ⟨hO.mono (fun k _ e => ⟨tm, by rw [e]; exact hom, rfl⟩), fun _ _ => rfl⟩
  have hr2 := hr.keep hT2 (fun e => htm l e)
  have hT : Turn (fun t => t = tl l ∨ t = tm) own (own.at g (tl l)) w w2 := (hT1.mono (fun _ e => .inl e)).trans (hT2.mono (fun _ e => .inr e))
  have hsz : w2.heap.size = w1.heap.size := by
    have := hrun
    have hk : (setBlock w1 m (.map #[] 0)).heap.size = w1.heap.size := by simp [setBlock]
    obtain ⟨D, ⟨es, clock, hb, F, hs, rfl⟩, g2, g3⟩ := hV.same hm1
    obtain ⟨es', clock', hrun', _⟩ := Maps.fit_store (R' := valElem) K ht hb F (Nat.lt_of_le_of_lt hs hn) (fun _ _ _ _ hz => hz) hkey (val := .slice (some ⟨g, 0, none⟩) ((L l).length + 1) cap) (yv := (.held _, [])) rfl
    rw [hrun'] at this
    simp only [Result.ok.injEq, true_and] at this
    rw [← this]; simp [setBlock]
  refine ⟨w2, hrun, ⟨by rw [hT.ext m hV.lt]; exact h1, _, hM, ?_⟩, hT, fun k hk => ?_, hsz⟩
  · refine LMap.rows_after htl (by simp) hR hT (fun l' hl' e => ?_) (by simpa using hr2)
    rcases e with e | e
    · exact hl' (htl _ _ e)
    · exact htm _ e
  · rcases Nat.lt_or_ge k w1.heap.size with hlt | hge
    · exact hO.block k hlt hk
    · rw [Array.getElem?_eq_none hge, Array.getElem?_eq_none (by omega)]

/-- 'm[k] = append(m[k], x)' by the entry. -/
theorem LMap.entry (h : LMap P tk ty w own tm tl m n L) (K : KeyLaw P tk) (ht : P.underlying t = some (.map tk te)) (hz : ∀ u : World, (zeroValue te).run P u = .ok (.slice none 0 0) u) (hn : n < maxLen) (htl : ∀ a b, tl a = tl b → a = b) (htm : ∀ l, tl l ≠ tm) {key : Value} {l : Lit} (hkey : keyOf P tk key = some l) :
    ∃ v st w1, (Instr.mapEntry t (.map (some m)) key).run P w = .ok (.tuple #[v, goInt st]) w1 ∧ RowIs w1 own (tl l) ty 1 v (L l).length (ints (L l)) ∧ Turn (fun t => t = tm) own own w w1 ∧ Only (fun k => k = m) w w1 ∧
      ∀ (w0 w2 : World) (g cap : Nat) (x : Int), Below w1.heap.size w1 w0 → w0.grownBy w2 v.ownBlock → w2.ownsRow 0 ty 1 (.slice (some ⟨g, 0, none⟩) ((L l).length + 1) cap) ((L l).length + 1) (ints (L l) ++ [.int .i64 x]) → (v.ownBlock = some g ∨ w1.heap.size ≤ g) →
        ∃ w3, (Instr.entryStore t (.map (some m)) (goInt st) (.slice (some ⟨g, 0, none⟩) ((L l).length + 1) cap)).run P w2 = .ok () w3 ∧ LMap P tk ty w3 (own.at g (tl l)) tm tl m (n + 1) (setL L l (L l ++ [x])) ∧
          Turn (fun t => t = tl l ∨ t = tm) own (own.at g (tl l)) w w3 := by
  obtain ⟨h1, V, hV, hR⟩ := h
  obtain ⟨st, w1, hrun, hO, hst⟩ := hV.entry K ht hn hz hkey
  have hT0 : Turn (fun t => t = tm) own own w w1 := ⟨hO.mono (fun k _ e => ⟨tm, by rw [e]; exact h1, rfl⟩), fun _ _ => rfl⟩
  have hv : RowIs w own (tl l) ty 1 ((V l).getD (.slice none 0 0)) (L l).length (ints (L l)) := by
    rcases hR l with ⟨h2, h3⟩ | ⟨v, h2, h3, h4⟩
    · rw [h2, h3]; exact RowIs.nil _ _ _ _ _
    · rw [h2]; exact h4
  have hv1 := hv.keep hT0 (fun e => htm l e)
  refine ⟨_, st, w1, hrun, hv1, hT0, hO, fun w0 w2 g cap x h0 hg hown hat => ?_⟩
  obtain ⟨hr, hT1⟩ := hv1.pushed h0 hg hown hat
  have hml : m < w1.heap.size := Nat.lt_of_lt_of_le hV.lt hO.size
  have hm1 : w2.heap[m]? = w1.heap[m]? := hT1.block hml (fun t ht => by rw [h1] at ht; cases ht; exact fun e => htm l e.symm)
  obtain ⟨w3, hrun3, hM, hO3⟩ := hst w2 (.slice (some ⟨g, 0, none⟩) ((L l).length + 1) cap) hm1
  have hom : own.at g (tl l) m = some tm := by rw [hT1.ext m hml]; exact h1
  have hT2 : Turn (fun t => t = tm) (own.at g (tl l)) (own.at g (tl l)) w2 w3 := ⟨hO3.mono (fun k _ e => ⟨tm, by rw [e]; exact hom, rfl⟩), fun _ _ => rfl⟩
  have hr2 := hr.keep hT2 (fun e => htm l e)
  have hT : Turn (fun t => t = tl l ∨ t = tm) own (own.at g (tl l)) w w3 := (hT0.mono (fun _ e => .inr e)).trans ((hT1.mono (fun _ e => .inl e)).trans (hT2.mono (fun _ e => .inr e)))
  refine ⟨w3, hrun3, ⟨by rw [hT.ext m hV.lt]; exact h1, _, hM, ?_⟩, hT⟩
  refine LMap.rows_after htl (by simp) hR hT (fun l' hl' e => ?_) (by simpa using hr2)
  rcases e with e | e
  · exact hl' (htl _ _ e)
  · exact htm _ e
end
end Go.Proofs.YtgligipgjakecaaDoor
