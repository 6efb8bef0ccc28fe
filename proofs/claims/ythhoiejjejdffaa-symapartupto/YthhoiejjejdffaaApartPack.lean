/- sym.Compare draws and makes boxes alone; the order that it tells is a total one. A row of numbers that the sort lays anew, as a list of the caller's own; ids sorted by their constants. The document's Table: Sorted and Ranks are the same lists as sym's. The law's numbers: lists of numbers written over, each grown by one, all looked at. The document's Table: Ranks; and edictlaw01's ints. The function that Sorted hands to the sort: of two ids it tells how their constants compare; it draws and makes boxes alone. (*Table).Sorted: a new list of all ids, in the order of their constants; nothing that was there is changed. (*Table).Ranks: a new list that tells for each id its place in the order; and the two lists as rows. Twelve lists of numbers in a list of their own: what edictlaw01's SymApart keeps. slices.SortFunc, handed ids and Sorted's function: the ids in the order of their constants. The tables of SymApart: how many constants they have, and the order of three. Lists of constants put together. Lists of strings put together, and an Ids of them: what SymApart keeps. edictlaw01.SymApart returns true at every two lists of bulk at most 1048576. -/
import Derived.Test.YthhoiejjejdffaaProg
import Derived.Test.YthhoiejjejdffaaCmp
import Derived.Shelf.GgSortFunc.SW
import Derived.Shelf.SlSortCmp.Insertion
import Derived.Test.YthhoiejjejdffaaTable
import Derived.Test.YthhoiejjejdffaaRTab4
import Derived.Test.YthhoiejjejdffaaRefSort
import Derived.Test.YthhoiejjejdffaaRefCmp
import Derived.Test.YthhoiejjejdffaaRIds
import Derived.Test.YthhoiejjejdffaaPushsKeep
import Derived.Test.YthhoiejjejdffaaIdsBase
import Derived.Test.YthhoiejjejdffaaAllCon
import Derived.Deep.OwnRows
import Derived.Test.YthhoiejjejdffaaFilled
import Derived.Test.YthhoiejjejdffaaSortILay
import Derived.Shelf.SlSortCmp.NoneTotal
import Derived.Test.YthhoiejjejdffaaEnds
import Derived.Test.YthhoiejjejdffaaAppendAny
import Derived.Deep.RegionHeld3

namespace Go.Proofs.Ythhoiejjejdffaa
set_option linter.unusedSimpArgs false
set_option linter.unusedVariables false
open Go.RowKit Go.Sort Go.Proofs

theorem compare_laid (a b : Con) (w : World) :
    Calls Try.prog 46 #[a.val, b.val] w fun e w' => e = .returned (.int .i64 (cmpC a b)) ∧ ∃ q os', w' = grow (w.drewN q) os' := by
  obtain ⟨k, n, s⟩ := a
  obtain ⟨k', n', s'⟩ := b
  unfold Con.val
  by_cases h1 : (k == k') = true
  · have e1 : (k != k') = false := by simpa using h1
    by_cases h2 : (n == n') = true
    · have e2 : (n != n') = false := by simpa using h2
      go_enter Try.func46, Try.ntmps46
      go_wp2_with (go_at_call 70; refine (cmpStr_any _ _ _).mono ?_; rintro e w' ⟨rfl, rfl⟩)
      go_ret
      exact ⟨by simp only [cmpC, h1, h2]; rfl, 0, _, by rw [alloc_eq_grow, alloc_eq_grow, grow_grow]; rfl⟩
    · have h2' : (n == n') = false := by simpa using h2
      have e2 : (n != n') = true := by simpa using h2
      go_enter Try.func46, Try.ntmps46
      go_wp2_with (go_at_call 69; refine (cmpInt64_any _ _ _).mono ?_; rintro e w' ⟨rfl, rfl⟩)
      go_ret
      exact ⟨by simp only [cmpC, h1, h2']; rfl, 0, _, by rw [alloc_eq_grow, alloc_eq_grow, grow_grow]; rfl⟩
  · have h1' : (k == k') = false := by simpa using h1
    have e1 : (k != k') = true := by simpa using h1
    go_enter Try.func46, Try.ntmps46
    go_wp2_with (go_at_call 68; refine (cmpInt_any _ _ _).mono ?_; rintro e w' ⟨rfl, rfl⟩)
    go_ret
    exact ⟨by simp only [cmpC, h1']; rfl, 0, _, by rw [alloc_eq_grow, alloc_eq_grow, grow_grow]; rfl⟩

theorem cmpC_swo : SWO (ltOf cmpC) where
  irrefl x := by unfold ltOf; rw [cmpC_refl]; rfl
  trans x y z h k := by
    unfold ltOf at *
    simp only [decide_eq_true_eq] at *
    have h1 := cmpC_trans x y z (by omega) (by omega)
    have h2 := cmpC_anti x z
    rcases Int.lt_or_le (cmpC x z) 0 with h3 | h3
    · exact h3
    · have h4 : cmpC z x ≤ 0 := by omega
      have h5 := cmpC_trans z x y h4 (by omega)
      have h6 := cmpC_anti y z
      omega
  ntrans x y z h k := by
    unfold ltOf at *
    simp only [decide_eq_false_iff_not] at *
    have h1 := cmpC_anti x y
    have h2 := cmpC_anti y z
    have h3 := cmpC_anti x z
    have := cmpC_trans z y x (by omega) (by omega)
    omega

theorem cmpC_total (x y : Con) (h : ltOf cmpC x y = false) (k : ltOf cmpC y x = false) : x = y := by
  unfold ltOf at *
  simp only [decide_eq_false_iff_not] at *
  have h1 := cmpC_anti x y
  obtain ⟨a, b, c⟩ := (cmpC_zero x y).1 (by omega)
  obtain ⟨k1, n1, s1⟩ := x
  obtain ⟨k2, n2, s2⟩ := y
  simp only at a b c
  rw [a, b, toList_inj c]


structure Gx where
  q : Nat
  os : Array Obj
instance : Inhabited Gx := ⟨⟨0, #[]⟩⟩
/-- The world w, some draws on, new blocks behind it. -/
def gro (w : World) (x : Gx) : World := grow (w.drewN x.q) x.os

theorem gro_below (w : World) (x : Gx) : Below w.heap.size w (gro w x) :=
  ⟨rfl, rfl, rfl, by simp [gro, grow, World.drewN], fun k hk => by simp only [gro, grow, World.drewN]; rw [Array.getElem?_append_left hk]⟩

theorem gro_cell {w : World} {a : Addr} {v : Value} (h : w.cell? a = some v) (x : Gx) : (gro w x).cell? a = some v := kept_cell (gro_below w x) h

theorem gro_gro (w : World) (x : Gx) (q : Nat) (os : Array Obj) : grow ((gro w x).drewN q) os = gro w ⟨x.q + q, x.os ++ os⟩ := by
  unfold gro
  show grow (grow ((w.drewN x.q).drewN q) x.os) os = _
  rw [grow_grow]
  simp only [World.drewN, Nat.add_assoc]

section
variable {P : Program} {id : Nat} {Q : Exit → Act → World → Prop} {a : Act} {w : World} {l : List Oper}
theorem wp_region_gro (hm : P.follows .mixedOrders = true) (hB : Region.lexB .any l.toArray = true)
    (h : wpQuiet P l.toArray (fun w' => ∃ x, w' = gro w x) (fun a' => ∀ w', (∃ x, w' = gro w x) → Q .normal a' w') l a) : (Code.region id l.toArray true).wp P Q a w :=
  wp_region_quiet (C := fun w' => ∃ x, w' = gro w x) hm hB ⟨⟨1, #[]⟩, by simp [gro, grow]; rfl⟩ (by simpa using h)
end

theorem compare_gro (a b : Con) (w : World) (x : Gx) :
    Calls Try.prog 46 #[a.val, b.val] (gro w x) fun e w' => e = .returned (.int .i64 (cmpC a b)) ∧ ∃ y, w' = gro w y :=
  (compare_laid a b (gro w x)).mono fun _ _ ⟨he, q, os, hw⟩ => ⟨he, ⟨x.q + q, x.os ++ os⟩, hw.trans (gro_gro w x q os)⟩
end Go.Proofs.Ythhoiejjejdffaa

namespace Go.Proofs.Ythhoiejjejdffaa
set_option linter.unusedSimpArgs false
set_option linter.unusedVariables false
open Go.RowKit Go.Maps Go.Sort Go.Proofs

section
variable {α : Type} [Inhabited α]
theorem own_holds1 {w : World} {base g n cap : Nat} {e : TypeId} {l : List α} (enc : α → Value)
    (h : w.ownsRow base e 1 (.slice (some ⟨g, 0, none⟩) n cap) n (l.map enc)) (hl : l.length = n) : Holds enc w g 0 l.toArray ∧ g < w.heap.size := by
  rcases h.2 with ⟨h', _⟩ | ⟨g', cap', cur, hs, hbase, hb, h1, h2, h3, h4⟩
  · cases h'
  cases hs
  refine ⟨?_, (Array.getElem?_eq_some_iff.1 hb).1⟩
  intro j hj
  refine ⟨?_, by simp [World.frozen?, hb]⟩
  have hj' : j < n * 1 := by simpa [hl] using hj
  have e1 : (cur.toList.take (n * 1))[j]? = (l.map enc)[j]? := by rw [h4]
  rw [List.getElem?_take_of_lt hj', List.getElem?_map] at e1
  simp only [World.cell?, hb, Nat.zero_add]
  simp only [Option.isSome_none, Bool.false_eq_true, if_false]
  rw [← Array.getElem?_toList, e1]
  have hj2 : j < l.length := by simpa using hj
  rw [List.getElem?_eq_getElem hj2, getElem!_pos _ j hj]
  simp

theorem own_sorted1 {w : World} {base g n cap m : Nat} {e : TypeId} {os : Array Obj} {xs : List Value} {l : List α} (enc : α → Value)
    (h : w.ownsRow base e 1 (.slice (some ⟨g, 0, none⟩) n cap) n xs) (hl : l.length = n) : (sortWorld enc w g 0 m l.toArray os).ownsRow base e 1 (.slice (some ⟨g, 0, none⟩) n cap) n (l.map enc) := by
  rcases h.2 with ⟨h', _⟩ | ⟨g', cap', cur, hs, hbase, hb, h1, h2, h3, h4⟩
  · cases h'
  cases hs
  have hg : g < w.heap.size := (Array.getElem?_eq_some_iff.1 hb).1
  refine ⟨by simp [hl], .inr ⟨g, cap, putCells enc 0 l.toArray cur, rfl, hbase, ?_, h1, h2, by simp [putCells, h3], ?_⟩⟩
  · unfold sortWorld
    rw [heap_grow_old _ _ (by simpa [putRow, mapBlock, Sort.ahead] using hg)]
    simp [putRow, mapBlock, Sort.ahead, Array.getElem?_modify, hb, onCells]
  · apply List.ext_getElem?
    intro j
    by_cases hj : j < l.length
    · rw [List.getElem?_take_of_lt (by omega), Array.getElem?_toList]
      simp [putCells, hj, show j < cur.size by omega]
    · rw [List.getElem?_take_eq_none (by omega), List.getElem?_eq_none (by simp; omega)]

theorem only_sorted1 {g m : Nat} {w : World} {os : Array Obj} {d : Array α} (enc : α → Value) : Only (fun k => k = g) w (sortWorld enc w g 0 m d os) := by
  refine ⟨rfl, rfl, rfl, ?_, fun j hj hne => ?_⟩
  · simp [sortWorld, putRow, mapBlock, Sort.ahead, grow]
  · unfold sortWorld
    rw [heap_grow_old _ _ (by simpa [putRow, mapBlock, Sort.ahead] using hj)]
    have : g ≠ j := fun e => hne e.symm
    simp [putRow, mapBlock, Sort.ahead, Array.getElem?_modify, this]
end

/-- The order of ids by their constants. -/
def cfI (ks : List Con) (x y : Fin ks.length) : Int := cmpC ks[x] ks[y]
def encF {n : Nat} (x : Fin n) : Value := .int .i64 (x.val : Int)
def encI (x : Nat) : Value := .int .i64 (x : Int)
def fins (n : Nat) : List (Fin n) := List.ofFn fun i => i
theorem fins_len (n : Nat) : (fins n).length = n := by simp [fins]
theorem fins_val (n : Nat) : (fins n).map (·.val) = List.range n := by
  apply List.ext_getElem
  · simp [fins]
  · intro i h1 h2; simp [fins]

theorem cfI_swo (ks : List Con) : SWO (ltOf (cfI ks)) where
  irrefl x := cmpC_swo.irrefl _
  trans x y z h k := cmpC_swo.trans _ _ _ h k
  ntrans x y z h k := cmpC_swo.ntrans _ _ _ h k

theorem cfI_total {ks : List Con} (hnd : ks.Nodup) (x y : Fin ks.length) (h : ltOf (cfI ks) x y = false) (k : ltOf (cfI ks) y x = false) : x = y := by
  have := cmpC_total ks[x] ks[y] h k
  apply Fin.ext
  exact (List.getElem_inj (h₀ := x.2) (h₁ := y.2) hnd).1 this

/-- L is all ids below ks' length, in the order of their constants. -/
structure IdSort (ks : List Con) (L : List Nat) : Prop where
  perm : L.Perm (List.range ks.length)
  srt : L.Pairwise fun i j => ∀ a b, ks[i]? = some a → ks[j]? = some b → cmpC a b = -1

def sortL (ks : List Con) : List Nat := ((fins ks.length).mergeSort fun x y => !(ltOf (cfI ks)) y x).map (·.val)
theorem sortL_len (ks : List Con) : (sortL ks).length = ks.length := by simp [sortL, fins_len]

theorem sortL_is {ks : List Con} (hnd : ks.Nodup) : IdSort ks (sortL ks) := by
  unfold sortL
  have hperm := List.mergeSort_perm (fins ks.length) fun x y => !(ltOf (cfI ks)) y x
  refine ⟨?_, ?_⟩
  · rw [← fins_val]; exact hperm.map _
  · have hs := List.pairwise_mergeSort (le := fun x y => !(ltOf (cfI ks)) y x) (fun a b c h k => by
      simp only [Bool.not_eq_true'] at *
      exact (cfI_swo ks).ntrans _ _ _ k h) (fun a b => by
      cases h : ltOf (cfI ks) b a with
      | false => rfl
      | true =>
        simp only [Bool.not_true, Bool.false_or, Bool.not_eq_true']
        cases k : ltOf (cfI ks) a b with
        | false => rfl
        | true => have := (cfI_swo ks).trans _ _ _ h k; rw [(cfI_swo ks).irrefl] at this; cases this) (fins ks.length)
    have hn : (fins ks.length).Nodup := by
      have : ((fins ks.length).map (·.val)).Nodup := by rw [fins_val]; exact List.nodup_range
      exact (List.pairwise_map.1 this).imp fun h e => h (congrArg _ e)
    have hn2 := hperm.nodup_iff.2 hn
    rw [List.pairwise_map]
    refine List.Pairwise.imp₂ ?_ hs hn2
    intro x y h1 h2 a b ha hb
    simp only [Bool.not_eq_true'] at h1
    have ea : a = ks[x] := by rw [List.getElem?_eq_getElem x.2] at ha; exact (Option.some.inj ha).symm
    have eb : b = ks[y] := by rw [List.getElem?_eq_getElem y.2] at hb; exact (Option.some.inj hb).symm
    subst ea eb
    have h3 : ltOf (cfI ks) x y = true := by
      cases h4 : ltOf (cfI ks) x y with
      | true => rfl
      | false => exact absurd (cfI_total hnd x y h4 h1) h2
    have h5 : cmpC ks[x] ks[y] < 0 := of_decide_eq_true h3
    have h6 := cmpC_rng ks[x] ks[y]
    omega

theorem IdSort.mem {ks : List Con} {L : List Nat} (h : IdSort ks L) {i : Nat} : i ∈ L ↔ i < ks.length := by rw [h.perm.mem_iff, List.mem_range]
theorem IdSort.nodup {ks : List Con} {L : List Nat} (h : IdSort ks L) : L.Nodup := h.perm.nodup_iff.2 List.nodup_range
theorem IdSort.len {ks : List Con} {L : List Nat} (h : IdSort ks L) : L.length = ks.length := by rw [h.perm.length_eq, List.length_range]
theorem IdSort.at {ks : List Con} {L : List Nat} (h : IdSort ks L) {i : Nat} (hi : i < ks.length) : L.idxOf i < L.length ∧ L[L.idxOf i]? = some i := by
  have h1 := List.idxOf_lt_length_of_mem (h.mem.2 hi)
  exact ⟨h1, by rw [List.getElem?_eq_getElem h1, List.getElem_idxOf]⟩
theorem IdSort.back {ks : List Con} {L : List Nat} (h : IdSort ks L) {k i : Nat} (hk : L[k]? = some i) : L.idxOf i = k := by
  obtain ⟨h1, h2⟩ := List.getElem?_eq_some_iff.1 hk
  have hi : i < ks.length := h.mem.1 (h2 ▸ List.getElem_mem h1)
  obtain ⟨h3, h4⟩ := h.at hi
  rw [List.getElem?_eq_getElem h3] at h4
  exact (List.getElem_inj h.nodup).1 ((Option.some.inj h4).trans h2.symm)
/-- An id stands ahead of another just where its constant comes ahead. -/
theorem IdSort.ahead {ks : List Con} {L : List Nat} (h : IdSort ks L) {i j : Nat} {a b : Con} (hi : ks[i]? = some a) (hj : ks[j]? = some b) : (L.idxOf j < L.idxOf i) ↔ cmpC b a = -1 := by
  have h1 : i < ks.length := (List.getElem?_eq_some_iff.1 hi).1
  have h2 : j < ks.length := (List.getElem?_eq_some_iff.1 hj).1
  obtain ⟨p1, p2⟩ := h.at h1
  obtain ⟨q1, q2⟩ := h.at h2
  have hs := List.pairwise_iff_getElem.1 h.srt
  have e1 : L[L.idxOf i] = i := List.getElem_idxOf p1
  have e2 : L[L.idxOf j] = j := List.getElem_idxOf q1
  rcases Nat.lt_trichotomy (L.idxOf j) (L.idxOf i) with hlt | heq | hgt
  · have := hs _ _ q1 p1 hlt
    rw [e1, e2] at this
    exact ⟨fun _ => this b a hj hi, fun _ => hlt⟩
  · have : i = j := by
      have h3 := e1
      simp only [← heq] at h3
      rw [e2] at h3; exact h3.symm
    subst this
    rw [hi] at hj
    cases hj
    rw [cmpC_refl]
    exact ⟨fun h => absurd h (by omega), fun h => absurd h (by omega)⟩
  · have := hs _ _ p1 q1 hgt
    rw [e1, e2] at this
    have h3 := this a b hi hj
    have h4 := cmpC_anti a b
    exact ⟨fun h => absurd h (by omega), fun h => absurd h (by omega)⟩
end Go.Proofs.Ythhoiejjejdffaa

namespace Go.Proofs.Ythhoiejjejdffaa
set_option linter.unusedSimpArgs false
set_option linter.unusedVariables false
open Go.RowKit Go.Maps Go.Sort

variable {base : Nat} {w w' : World} {p : Nat} {v : Value} {ks : List Con}

/-- A list of numbers in memory made since w. -/
structure NL (w W : World) (v : Value) (xs : List Nat) : Prop where
  row : W.ownsRow w.heap.size 3 1 v xs.length (xs.map encI)
  bel : Below w.heap.size w W
theorem NL.nil (w : World) : NL w w (.slice none 0 0) [] := ⟨World.ownsRow_nil _ _ _ _, Below.refl _ _⟩
theorem NL.shape {W : World} {xs : List Nat} (h : NL w W v xs) : ∃ a cap, v = .slice a xs.length cap := by
  rcases h.row.2 with ⟨rfl, h0⟩ | ⟨g, cap, cur, rfl, _⟩
  · exact ⟨none, 0, by rw [h0]⟩
  · exact ⟨_, cap, rfl⟩
theorem NL.grow {W W' : World} {xs : List Nat} (h : NL w W v xs) (hb : Below W.heap.size W W') : NL w W' v xs := ⟨own_keptS h.row hb, h.bel.trans (hb.mono h.bel.size)⟩
theorem NL.push {W W4 : World} {xs : List Nat} (h : NL w W v xs) {tmp : Obj} {k : Nat} {gg cap' : Nat} (hown : W4.ownsRow w.heap.size 3 1 (.slice (some ⟨gg, 0, none⟩) (xs.length + 1) cap') (xs.length + 1) (xs.map encI ++ [encI k]))
    (hg : (W.alloc tmp).grownBy W4 v.ownBlock) : NL w W4 (.slice (some ⟨gg, 0, none⟩) (xs.length + 1) cap') (xs ++ [k]) := by
  refine ⟨?_, ?_⟩
  · rw [List.map_append, List.length_append]; exact hown
  · have hb := h.bel.alloc h.bel.size tmp
    exact hb.grown hg hb.size (fun q hq => (h.row.lt q hq).1)

theorem own_mono0 {b b' : Nat} {W : World} {e : TypeId} {n : Nat} {xs : List Value} (h : W.ownsRow b e 1 v n xs) (hb : b' ≤ b) : W.ownsRow b' e 1 v n xs := by
  refine ⟨h.1, ?_⟩
  rcases h.2 with h0 | ⟨g, cap, cur, hv, hbase, rest⟩
  · exact .inl h0
  · exact .inr ⟨g, cap, cur, hv, by omega, rest⟩

theorem int_new {w : World} {k : Nat} : ∀ j u, [encI k][j]? = some u → (w.alloc (.cells #[.int .i64 (k : Int)] 3)).cell? ((⟨w.heap.size, 0, none⟩ : Addr).add j) = some u :=
  World.news_of_block (cs := #[.int .i64 (k : Int)]) (t := 3) (fr := (0, 0)) (heap_alloc_new w _)

theorem Try.infoI2 : (Try.prog.info? 3).map (fun i => (i.zero, i.size, i.bytes)) = some (some (.int .i64 0), 1, 8) := by kernel_rfl

/-- The constants in their order, by the ids in their order. -/
def keysOf (ks : List Con) (L : List Nat) : List Con := L.map fun i => ks[i]?.getD Con.zero

theorem keys_range (ks : List Con) : keysOf ks (List.range ks.length) = ks := by
  apply List.ext_getElem
  · simp [keysOf]
  · intro i h1 h2; simp [keysOf, h2]

theorem keys_perm {L : List Nat} (h : IdSort ks L) : (keysOf ks L).Perm ks := by
  have := h.perm.map (fun i => ks[i]?.getD Con.zero)
  rw [show (List.range ks.length).map (fun i => ks[i]?.getD Con.zero) = ks from keys_range ks] at this
  exact this

theorem keys_srt {L : List Nat} (h : IdSort ks L) : Srt (keysOf ks L) := by
  unfold Srt keysOf
  rw [List.pairwise_map]
  refine List.Pairwise.imp_of_mem ?_ h.srt
  intro i j hi hj hs
  have h1 : i < ks.length := h.mem.1 hi
  have h2 : j < ks.length := h.mem.1 hj
  rw [List.getElem?_eq_getElem h1, List.getElem?_eq_getElem h2]
  have := hs ks[i] ks[j] (List.getElem?_eq_getElem h1) (List.getElem?_eq_getElem h2)
  unfold leC
  simp only [Option.getD_some, decide_eq_true_eq]
  omega

theorem sorted_keys {L : List Nat} (h : IdSort ks L) {K : List Con} (hp : K.Perm ks) (hs : Srt K) : K = keysOf ks L := sorted_unique (hp.trans (keys_perm h).symm) hs (keys_srt h)

/-- The rank of a constant is how many come ahead of it. -/
theorem rank_count {L : List Nat} (h : IdSort ks L) {i : Nat} {c : Con} (hi : ks[i]? = some c) : ks.countP (fun d => decide (cmpC d c < 0)) = L.idxOf i := by
  have hil : i < ks.length := (List.getElem?_eq_some_iff.1 hi).1
  obtain ⟨h1, h2⟩ := h.at hil
  rw [← (keys_perm h).countP_eq]
  unfold keysOf
  rw [List.countP_map]
  have hsplit := List.take_append_drop (L.idxOf i) L
  rw [← hsplit, List.countP_append]
  have ha : ∀ j ∈ L, (cmpC (ks[j]?.getD Con.zero) c < 0) ↔ L.idxOf j < L.idxOf i := by
    intro j hj
    have hjl : j < ks.length := h.mem.1 hj
    rw [List.getElem?_eq_getElem hjl, Option.getD_some, h.ahead hi (List.getElem?_eq_getElem hjl)]
    have := cmpC_rng ks[j] c
    omega
  have t1 : (L.take (L.idxOf i)).countP ((fun d => decide (cmpC d c < 0)) ∘ fun i => ks[i]?.getD Con.zero) = (L.take (L.idxOf i)).length := by
    rw [List.countP_eq_length]
    intro j hj
    obtain ⟨q, hq⟩ := List.getElem?_of_mem hj
    rw [List.getElem?_take] at hq
    split at hq
    · next hlt =>
      have hjm := List.mem_of_getElem? hq
      simp only [Function.comp, decide_eq_true_eq]
      rw [ha j hjm, h.back hq]
      exact hlt
    · cases hq
  have t2 : (L.drop (L.idxOf i)).countP ((fun d => decide (cmpC d c < 0)) ∘ fun i => ks[i]?.getD Con.zero) = 0 := by
    rw [List.countP_eq_zero]
    intro j hj
    obtain ⟨q, hq⟩ := List.getElem?_of_mem hj
    rw [List.getElem?_drop] at hq
    have hjm := List.mem_of_getElem? hq
    simp only [Function.comp, decide_eq_true_eq]
    rw [ha j hjm, h.back hq]
    omega
  rw [t1, t2, List.length_take]
  rw [hsplit]
  omega

set_option maxRecDepth 100000 in
set_option maxHeartbeats 2000000 in
theorem tsorted_any (h : RTab base w p v ks) (hl : ks.length ≤ 65536) (hnd : ks.Nodup) (hok : ∀ c ∈ ks, c.ok) :
    Calls Try.prog 61 #[.pointer (some ⟨p, 0, none⟩)] w fun e w' => ∃ v', e = .returned v' ∧ Hid (NL w w' v' (sortL ks)) := by
  obtain ⟨i0, hi0, hz0, hz1, hz2⟩ := info_parts Try.infoI2
  have hIS := sortL_is hnd
  obtain ⟨a, cap, hva, _, hI⟩ := holds_cons h.row hok (by omega)
  have c0 := h.c0
  rw [hva] at c0
  have HS := hide (refSort_any a ks.length cap ks w hI.1 (by omega))
  have HFd : Hid (∀ (W : World) (q : Nat) (c : Con), Below w.heap.size w W → ks[q]? = some c → Calls Try.prog 51 #[.pointer (some ⟨p, 0, none⟩), .agg #[.int .i64 c.k, .int .i64 c.n, .string c.s]] W fun e w' => e = .returned (.int .i64 (q : Int)) ∧ Below W.heap.size W w') := fun W q c hb hq => tfind_any (h.grow hb) hl c q (.inr ⟨q, rfl, hq, fun j hj e => by have := nodupC_at hnd e hq; omega⟩)
  have HIS := hide hIS
  obtain ⟨len, hlen⟩ : ∃ len, len = ks.length := ⟨_, rfl⟩
  have HL := hide hlen
  rw [← hlen] at hl c0 HS
  clear hlen h hIS hI hva
  go_enter Try.func61, Try.ntmps61
  go_upto_region 2 with (go_at_call 73; refine HS.out.mono ?_; rintro e W1 ⟨vK, K, rfl, hH, hs, hp, hb⟩; have HH := hide hH; have HB1 := hide hb; have HK : Hid (K = keysOf ks (sortL ks)) := sorted_keys HIS.out hp hs; have HKL : Hid (K.length = len) := (by show _ = _; rw [HL.out]; exact hp.length_eq); clear hH hs hp hb HS)
  have hshp : ∃ aK cK, vK = .slice aK len cK := by
    rcases HH.out.2 with ⟨rfl, h0⟩ | ⟨g, cap, cur, rfl, _⟩
    · exact ⟨none, 0, by rw [← HKL.out, h0]⟩
    · exact ⟨_, _, by rw [HKL.out]⟩
  obtain ⟨aK, cK, rfl⟩ := hshp
  go_wp2
  go_loopw [4, 5] (fun t i wr => ∃ (j : Nat) (b : Option Addr) (cp : Nat), j ≤ len ∧ i = .int .i64 j ∧ t = .slice b j cp ∧ Hid (NL W1 wr (.slice b j cp) ((sortL ks).take j))) (fun _ i _ => len - (intOf i).toNat)
  case atStart => exact ⟨0, none, 0, by omega, rfl, rfl, NL.nil W1⟩
  case round =>
    obtain ⟨j, b, cp, hj, rfl, rfl, HN⟩ := hrel
    have HLL : Hid ((sortL ks).length = len) := by show _ = _; rw [HL.out]; exact sortL_len ks
    have HTk : Hid (((sortL ks).take j).length = j) := by show _ = _; rw [List.length_take, HLL.out]; omega
    by_cases hlt : j < len
    · have hjl : (j : Int) < (len : Int) := by omega
      obtain ⟨q, hq⟩ : ∃ q, (sortL ks)[j]? = some q := ⟨_, List.getElem?_eq_getElem (by rw [HLL.out]; exact hlt)⟩
      have hql : q < ks.length := HIS.out.mem.1 (List.mem_of_getElem? hq)
      obtain ⟨c, hc⟩ : ∃ c, ks[q]? = some c := ⟨_, List.getElem?_eq_getElem hql⟩
      have hKj : K[j]? = some c := by rw [HK.out]; unfold keysOf; rw [List.getElem?_map, hq]; simp [hc]
      obtain ⟨g, cap', hv', hcc⟩ := con_cell HH.out hKj
      simp only [Value.slice.injEq] at hv'
      obtain ⟨rfl, -, -⟩ := hv'
      obtain ⟨x0, x1, x2⟩ := conAt_kept hcc HN.out.bel
      have HF := hide (HFd.out wr q c (HB1.out.trans (HN.out.bel.mono HB1.out.size)) hc)
      have HNx : Hid ((sortL ks).take (j + 1) = (sortL ks).take j ++ [q]) := by show _ = _; rw [List.take_add_one, hq]; rfl
      have hws := HN.out.bel.size
      clear hcc hKj hc hq
      go_wp2_with (first
        | (go_at_call 51; refine HF.out.mono ?_; rintro e W2 ⟨rfl, hb2⟩; have HN2 := hide (HN.out.grow hb2); have hws2 : W1.heap.size ≤ W2.heap.size := Nat.le_trans hws hb2.size; have hrow := (HN.out.grow hb2).row; rw [HTk.out] at hrow; have HRow := hide hrow; clear hb2 HF hrow)
        | (at_builtin; refine wpList_append_lies _ rfl _ _ 45 rfl W1.heap.size 3 i0 (.int .i64 0) 1 8 Try.underlying45 hi0 hz0 hz1 hz2 rfl (by decide) (.slice b j cp) j (((sortL ks).take j).map encI) rfl (HRow.out.alloc _) ⟨W2.heap.size, 0, none⟩ 1 1 [encI q] rfl rfl int_new (by simp [encI, Value.oneCell']) (by decide) (by unfold maxLen; omega) (by omega) (by rw [World.size_alloc]; omega) (W2.heap.size + 1) (by rw [World.size_alloc]) ?_; intro gg cap' W4 hown1 hgrow hat hlt1; have hS4 := HN2.out.push (by rw [HTk.out]; exact hown1) hgrow; rw [HTk.out] at hS4; have HS4 := hide hS4; clear hown1 hgrow hat hlt1 hS4))
      go_roundw
      case rel => exact ⟨j + 1, _, cap', by omega, by go_num, rfl, by rw [HNx.out]; exact HS4⟩
      case measure => simp [intOf]; omega
    · obtain rfl : j = len := by omega
      have hjl : ¬ (j : Int) < (j : Int) := by omega
      have HX : Hid (NL W1 wr (.slice b j cp) (sortL ks)) := by
        have := HN.out
        rw [List.take_of_length_le (by rw [HLL.out]; exact Nat.le_refl _)] at this
        exact this
      go_wp2
      go_ret
      refine ⟨_, rfl, ⟨own_mono0 HX.out.row HB1.out.size, HB1.out.trans (HX.out.bel.mono HB1.out.size)⟩⟩
end Go.Proofs.Ythhoiejjejdffaa

namespace Go.Proofs.Ythhoiejjejdffaa
set_option linter.unusedSimpArgs false
set_option linter.unusedVariables false
open Go.RowKit Go.Maps

/-- A slice in a cell. -/
def elSl : El Value where
  cells v := [v]
  size := 1
  pos := by decide
  len _ := rfl
  ok _ _ v := v.oneCell' = true
  one h u hu := by simp only [List.mem_singleton] at hu; rw [hu]; exact h
  move h _ := h
theorem Try.infoSl1 : (Try.prog.info? 45).map (fun i => (i.zero, i.size, i.bytes)) = some (some (.slice none 0 0), 1, 24) := by kernel_rfl

theorem growI_other {α : Type} {E : El α} {e : TypeId} {base : Nat} {w w' : World} {v : Value} {l : List α} {row : Option Nat} (hE : ∀ x ∈ l, ∀ (V : World) F, E.ok V F x) (h : Grow E e base w v l) (hg : w.grownBy w' row) (hne : v.ownBlock = none ∨ v.ownBlock ≠ row) : Grow E e base w' v l := ⟨h.1.kept hg hne, fun x hx => hE x hx _ _⟩
theorem growI_ok {e : TypeId} {base : Nat} {w : World} {v : Value} {l : List Int} (h : Grow elInt e base w v l) : ∀ x ∈ l, ∀ (V : World) F, elInt.ok V F x := fun x hx _ _ => h.2 x hx
theorem grown_refl (w : World) (row : Option Nat) : w.grownBy w row := ⟨rfl, rfl, rfl, Nat.le_refl _, fun _ _ _ => rfl⟩
theorem grown_cell {w w' : World} {row : Option Nat} (hg : w.grownBy w' row) {b i : Nat} {u : Value} (hc : w.cell? ⟨b, i, none⟩ = some u) (hne : row ≠ some b) : w'.cell? ⟨b, i, none⟩ = some u := by
  have hlt : b < w.heap.size := by
    rcases Nat.lt_or_ge b w.heap.size with h | h
    · exact h
    · unfold World.cell? at hc; rw [Array.getElem?_eq_none h] at hc; cases hc
  rw [World.cell?_of_block (w := w) (hg.block b hlt fun e => hne e.symm)]
  exact hc

/-- The lists that the slices vs, which stand in block b, lead to are one's own; the first k hold their marks alone. -/
structure Alo (base b : Nat) (w : World) (vs : List Value) (k : Nat) : Prop where
  out : ∀ (i : Nat) (v : Value), vs[i]? = some v → w.cell? ⟨b, i, none⟩ = some v
  own : ∀ (i : Nat) (v : Value), vs[i]? = some v → ∃ l, Grow elInt 3 base w v l ∧ l.length ≤ 1048576 ∧ (i < k → ∀ y ∈ l, y = -100 - (i : Int))
/-- They lie apart. -/
structure Apt (b : Nat) (vs : List Value) : Prop where
  ne : ∀ (i : Nat) (v : Value), vs[i]? = some v → v.ownBlock ≠ some b
  pw : ∀ (i j : Nat) (u v : Value), i ≠ j → vs[i]? = some u → vs[j]? = some v → u.ownBlock = none ∨ u.ownBlock ≠ v.ownBlock

theorem Alo.put {base b : Nat} {w w' : World} {vs : List Value} {k k' i : Nat} {v : Value} {l : List Int} (h : Alo base b w vs k) (hA : Apt b vs) (hi : vs[i]? = some v) (hg : w.grownBy w' v.ownBlock) (hG : Grow elInt 3 base w' v l) (hl : l.length ≤ 1048576) (hk : ∀ j, j ≠ i → j < k' → j < k) (hm : i < k' → ∀ y ∈ l, y = -100 - (i : Int)) : Alo base b w' vs k' := by
  refine ⟨fun j u hj => grown_cell hg (h.out j u hj) (hA.ne i v hi), fun j u hj => ?_⟩
  by_cases e : j = i
  · subst e
    rw [hi] at hj
    cases hj
    exact ⟨l, hG, hl, hm⟩
  · obtain ⟨m, h1, h2, h3⟩ := h.own j u hj
    exact ⟨m, growI_other (growI_ok h1) h1 hg (hA.pw j i u v e hj hi), h2, fun hj => h3 (hk j e hj)⟩
theorem Alo.kept {base b : Nat} {w w' : World} {vs : List Value} {k : Nat} (h : Alo base b w vs k) (hb : Below w.heap.size w w') : Alo base b w' vs k :=
  ⟨fun i v hi => kept_cell hb (h.out i v hi), fun i v hi => by obtain ⟨l, h1, h2⟩ := h.own i v hi; exact ⟨l, h1.kept hb, h2⟩⟩
theorem Grow.setI {e : TypeId} {base : Nat} {w : World} {g cap n : Nat} {l : List Int} (h : Grow elInt e base w (.slice (some ⟨g, 0, none⟩) n cap) l) {j : Nat} (hj : j < l.length) {x : Int} (hx : I64 x) :
    (∃ y, w.cell? ⟨g, j, none⟩ = some (.int .i64 y)) ∧ w.frozen? ⟨g, j, none⟩ = false ∧ Grow elInt e base (w.setCell ⟨g, j, none⟩ (.int .i64 x)) (.slice (some ⟨g, 0, none⟩) n cap) (l.set j x) ∧ base ≤ g ∧ w.grownBy (w.setCell ⟨g, j, none⟩ (.int .i64 x)) (some g) := by
  obtain ⟨⟨y, -, h1⟩, h2, h3, h4⟩ := h.setInt hj hx
  have hn := grow_num h
  subst hn
  exact ⟨⟨y, h1⟩, h2, h3, h4, (h.1.stored j (.int .i64 x)).2⟩
theorem imarks_succ {x : Int} {n i : Nat} {m : List Int} (h : m.length = n ∧ ∀ j, j < i → m[j]? = some x) (hi : i < n) : (m.set i x).length = n ∧ ∀ j, j < i + 1 → (m.set i x)[j]? = some x := by
  refine ⟨by rw [List.length_set]; exact h.1, fun j hj => ?_⟩
  rw [List.getElem?_set]
  by_cases hij : i = j
  · rw [if_pos hij, if_pos (by rw [h.1]; exact hi)]
  · rw [if_neg hij]; exact h.2 j (by omega)
theorem imarks_all {x : Int} {n : Nat} {m : List Int} (h : m.length = n ∧ ∀ j, j < n → m[j]? = some x) : ∀ y ∈ m, y = x := by
  intro y hy
  obtain ⟨j, hj⟩ := List.getElem?_of_mem hy
  have h1 := h.2 j (by rw [← h.1]; exact (List.getElem?_eq_some_iff.1 hj).1)
  rw [hj] at h1
  exact Option.some.inj h1
theorem grow_cellI {e : TypeId} {base : Nat} {w : World} {g cap n : Nat} {l : List Int} (h : Grow elInt e base w (.slice (some ⟨g, 0, none⟩) n cap) l) {x : Int} (hx : ∀ y ∈ l, y = x) {j : Nat} (hj : j < n) : w.cell? ⟨g, j, none⟩ = some (.int .i64 x) := by
  have hn := grow_num h
  subst hn
  obtain ⟨⟨y, hy, h1⟩, -⟩ := h.setInt hj (x := 0) ⟨by decide, by decide⟩
  rw [hx y (List.mem_of_getElem? hy)] at h1
  exact h1

theorem Alo.above {base b S : Nat} {w w' : World} {vs : List Value} {k : Nat} {row : Option Nat} (h : Alo base b w vs k) (hg : w.grownBy w' row) (hr : ∀ t, row = some t → S ≤ t) (hb : b < S) (hv : ∀ (i : Nat) (v : Value), vs[i]? = some v → ∀ t, v.ownBlock = some t → t < S) : Alo base b w' vs k :=
  ⟨fun i v hi => grown_cell hg (h.out i v hi) (fun e => by have := hr b e; omega), fun i v hi => by
    obtain ⟨l, h1, h2⟩ := h.own i v hi
    refine ⟨l, growI_other (growI_ok h1) h1 hg ?_, h2⟩
    rcases Option.eq_none_or_eq_some v.ownBlock with h3 | ⟨t, h3⟩
    · exact .inl h3
    · exact .inr fun e => by have h4 := hv i v hi t h3; have h5 := hr t (by rw [← e]; exact h3); omega⟩
theorem sl_at {e : TypeId} {base : Nat} {w : World} {g cap n : Nat} {l : List Value} (h : Grow elSl e base w (.slice (some ⟨g, 0, none⟩) n cap) l) {i : Nat} {x : Value} (hx : l[i]? = some x) : w.cell? ⟨g, i, none⟩ = some x := by
  have h1 := flatE_at elSl l i 0 x hx (by decide)
  simp only [elSl, Nat.mul_one, Nat.add_zero, List.getElem?_cons_zero] at h1
  have h2 := grow_num h
  subst h2
  exact own_at h.1 h1
theorem own_apart2 {v v1 lv : Value} {S T : Nat} (ho : v.ownBlock = v1.ownBlock ∨ ∀ k, v.ownBlock = some k → T ≤ k) (h1 : ∀ k, v1.ownBlock = some k → k < S) (hl : ∀ k, lv.ownBlock = some k → S ≤ k ∧ k < T) : v.ownBlock = none ∨ v.ownBlock ≠ lv.ownBlock := by
  rcases Option.eq_none_or_eq_some v.ownBlock with h3 | ⟨k, h3⟩
  · exact .inl h3
  · refine .inr fun e => ?_
    have h4 := hl k (by rw [← e]; exact h3)
    rcases ho with h5 | h5
    · have := h1 k (by rw [← h5]; exact h3); omega
    · have := h5 k h3; omega

/-- The longer lists so far. -/
structure Lgr (base S : Nat) (w : World) (vs ws : List Value) (lv : Value) : Prop where
  grow : Grow elSl 45 S w lv ws
  own : ∀ (i : Nat) (u : Value), ws[i]? = some u → ∃ (v : Value) (m : List Int), vs[i]? = some v ∧ Grow elInt 3 base w u m ∧ m.length ≤ 1048577 ∧ (∀ y ∈ m, y = -100 - (i : Int)) ∧ (u.ownBlock = v.ownBlock ∨ ∀ k, u.ownBlock = some k → S ≤ k) ∧ (u.ownBlock = none ∨ u.ownBlock ≠ lv.ownBlock)

theorem Lgr.kept {base S : Nat} {w w' : World} {vs ws : List Value} {lv : Value} (h : Lgr base S w vs ws lv) (hb : Below w.heap.size w w') : Lgr base S w' vs ws lv :=
  ⟨h.grow.kept hb, fun i u hi => by obtain ⟨v, m, h1, h2, h3⟩ := h.own i u hi; exact ⟨v, m, h1, h2.kept hb, h3⟩⟩
/-- An append behind the list that stands at place ws.length. -/
theorem Lgr.other {base S b : Nat} {w w' : World} {vs ws : List Value} {lv v : Value} (h : Lgr base S w vs ws lv) (hA : Apt b vs) (hi : vs[ws.length]? = some v) (hv : ∀ k, v.ownBlock = some k → k < S) (hg : w.grownBy w' v.ownBlock) : Lgr base S w' vs ws lv := by
  refine ⟨growI_other (fun x hx _ _ => h.grow.2 x hx) h.grow hg ?_, fun i u hu => ?_⟩
  · rcases Option.eq_none_or_eq_some lv.ownBlock with h3 | ⟨k, h3⟩
    · exact .inl h3
    · exact .inr fun e => by have h4 := own_new h.grow.1 k h3; have h5 := hv k (by rw [← e]; exact h3); omega
  · obtain ⟨x, m, h1, h2, h3, h4, h5, h6⟩ := h.own i u hu
    have hlt := (List.getElem?_eq_some_iff.1 hu).1
    refine ⟨x, m, h1, growI_other (growI_ok h2) h2 hg ?_, h3, h4, h5, h6⟩
    rcases h5 with h5 | h5
    · rw [h5]; exact hA.pw i _ x v (by omega) h1 hi
    · rcases Option.eq_none_or_eq_some u.ownBlock with h7 | ⟨k, h7⟩
      · exact .inl h7
      · exact .inr fun e => by have h8 := h5 k h7; have h9 := hv k (by rw [← e]; exact h7); omega
/-- The new list put behind. -/
theorem Lgr.push {base S : Nat} {w w' : World} {vs ws : List Value} {lv lv' u v : Value} {m : List Int} (h : Lgr base S w vs ws lv) (hg : w.grownBy w' lv.ownBlock) (hG : Grow elSl 45 S w' lv' (ws ++ [u])) (hat : lv'.ownBlock = lv.ownBlock ∨ ∀ k, lv'.ownBlock = some k → w.heap.size ≤ k)
    (hi : vs[ws.length]? = some v) (hu : Grow elInt 3 base w u m) (hm : m.length ≤ 1048577) (hy : ∀ y ∈ m, y = -100 - (ws.length : Int)) (ho : u.ownBlock = v.ownBlock ∨ ∀ k, u.ownBlock = some k → S ≤ k) (hn : u.ownBlock = none ∨ u.ownBlock ≠ lv.ownBlock) : Lgr base S w' vs (ws ++ [u]) lv' := by
  have hne : ∀ (x : Value) (l : List Int), Grow elInt 3 base w x l → (x.ownBlock = none ∨ x.ownBlock ≠ lv.ownBlock) → (x.ownBlock = none ∨ x.ownBlock ≠ lv'.ownBlock) := fun x l hx h1 => by
    rcases h1 with h1 | h1
    · exact .inl h1
    · rcases hat with h2 | h2
      · rw [h2]; exact .inr h1
      · rcases Option.eq_none_or_eq_some x.ownBlock with h3 | ⟨k, h3⟩
        · exact .inl h3
        · exact .inr fun e => by have h4 := own_lt6 hx.1 k h3; have h5 := h2 k (by rw [← e]; exact h3); omega
  refine ⟨hG, fun i x hx => ?_⟩
  rcases Nat.lt_or_ge i ws.length with hlt | hge
  · rw [List.getElem?_append_left hlt] at hx
    obtain ⟨y, l, h1, h2, h3, h4, h5, h6⟩ := h.own i x hx
    exact ⟨y, l, h1, growI_other (growI_ok h2) h2 hg h6, h3, h4, h5, hne x l h2 h6⟩
  · rw [List.getElem?_append_right hge] at hx
    obtain ⟨hz, hx2⟩ : i - ws.length = 0 ∧ u = x := by
      rcases Nat.eq_zero_or_pos (i - ws.length) with h0 | h0
      · rw [h0] at hx; exact ⟨h0, Option.some.inj hx⟩
      · rw [List.getElem?_eq_none (by simp; omega)] at hx; cases hx
    subst hx2
    obtain rfl : i = ws.length := by omega
    exact ⟨v, m, hi, growI_other (growI_ok hu) hu hg hn, hm, hy, ho, hne u m hu hn⟩

/-- The blocks of the lists. -/
def ownS (vs : List Value) (k : Nat) : Prop := ∃ (i : Nat) (v : Value), vs[i]? = some v ∧ v.ownBlock = some k

set_option maxRecDepth 100000 in
set_option maxHeartbeats 2000000 in
theorem numbers_only {base b c : Nat} {w : World} {vs : List Value} (h : Alo base b w vs 0) (hA : Apt b vs) (hl : vs.length ≤ 1048576) (hb : base ≤ w.heap.size) :
    Calls Try.prog 19 #[.slice (some ⟨b, 0, none⟩) vs.length c] w fun e w' => e = .returned (.bool true) ∧ Below base w w' ∧ Only (ownS vs) w w' := by
  obtain ⟨is, his, hs0, hs1, hs2⟩ := info_parts Try.infoSl1
  obtain ⟨ii, hii, hz0, hz1, hz2⟩ := info_parts Try.infoI2
  obtain ⟨n, hn⟩ : ∃ n, vs.length = n := ⟨_, rfl⟩
  rw [hn] at hl ⊢
  have HN := hide hn
  have HH := hide h
  have HA := hide hA
  have HBb := hide hb
  have HLow : Hid (∀ (i : Nat) (v : Value), vs[i]? = some v → ∀ k, v.ownBlock = some k → k < w.heap.size) := fun i v hi k hk => by obtain ⟨l, h1, -⟩ := h.own i v hi; exact own_lt6 h1.1 k hk
  have HBl : Hid (0 < n → b < w.heap.size) := fun hp => by
    obtain ⟨v, hv⟩ : ∃ v, vs[0]? = some v := ⟨_, List.getElem?_eq_getElem (by omega)⟩
    have hc := h.out 0 v hv
    rcases Nat.lt_or_ge b w.heap.size with h | h
    · exact h
    · unfold World.cell? at hc; rw [Array.getElem?_eq_none h] at hc; cases hc
  clear h hA hb hn
  go_enter Try.func19, Try.ntmps19
  go_wp2
  go_loopw [3] (fun y wl => ∃ i : Nat, i ≤ n ∧ y = .int .i64 i ∧ Hid (Alo base b wl vs i) ∧ Hid (Below base w wl) ∧ Hid (Only (ownS vs) w wl)) (fun y _ => n - (intOf y).toNat)
  case atStart => exact ⟨0, by omega, rfl, HH, Below.refl _ _, Only.refl _ _⟩
  case round =>
    clear HH
    obtain ⟨i, hi, rfl, HH, HB, HO⟩ := hrel
    by_cases hlt : i < n
    · have hi1 : (i : Int) < (n : Int) := by omega
      have hi0 : (0 : Int) ≤ (i : Int) := by omega
      obtain ⟨v, hv⟩ : ∃ v, vs[i]? = some v := ⟨_, List.getElem?_eq_getElem (by rw [HN.out]; exact hlt)⟩
      have HV := hide hv
      obtain ⟨l, hg, hll, -⟩ := HH.out.own i v hv
      obtain ⟨a1, c1, hv1, -, -⟩ := hg.shape
      obtain ⟨q, hq⟩ : ∃ q, l.length = q := ⟨_, rfl⟩
      rw [hq] at hv1 hll
      subst hv1
      have HG := hide hg
      have HQ := hide hq
      clear hg hv hq
      go_wp2
      go_loopw [4] (fun y wl => ∃ (j : Nat) (m : List Int), j ≤ q ∧ y = .int .i64 j ∧ Hid (m.length = q ∧ ∀ t, t < j → m[t]? = some (-100 - (i : Int))) ∧ Hid (Grow elInt 3 base wl (.slice a1 q c1) m) ∧ Hid (Alo base b wl vs i) ∧ Hid (Below base w wl) ∧ Hid (Only (ownS vs) w wl)) (fun y _ => q - (intOf y).toNat)
      case atStart => exact ⟨0, l, by omega, rfl, ⟨HQ.out, fun j hj => absurd hj (Nat.not_lt_zero j)⟩, HG, HH, HB, HO⟩
      case round =>
        clear HG HH HB HQ HO
        obtain ⟨j, m, hj, rfl, HM, HG, HH, HB, HO⟩ := hrel
        have x0 := HH.out.out i _ HV.out
        by_cases hlt2 : j < q
        · have hj1 : (j : Int) < (q : Int) := by omega
          have hj0 : (0 : Int) ≤ (j : Int) := by omega
          obtain ⟨g, cap, hgv, hbg, -⟩ := HG.out.1.form (by rw [HM.out.1]; omega)
          rw [HM.out.1] at hgv
          cases hgv
          obtain ⟨⟨y, y0⟩, f0, hs, hbg2, hgr⟩ := HG.out.setI (j := j) (by rw [HM.out.1]; exact hlt2) (x := -100 - (i : Int)) ⟨by omega, by omega⟩
          have HMs := hide (imarks_succ HM.out hlt2)
          have HS := hide hs
          have HAs := hide (HH.out.put HA.out HV.out hgr hs (by rw [HMs.out.1]; omega) (k' := i) (fun j _ hj => hj) (fun h => absurd h (Nat.lt_irrefl _)))
          have HBg := hide hbg
          clear hs hgr hbg hbg2
          go_wp2
          go_roundw
          case rel => exact ⟨j + 1, _, by omega, by go_num, HMs, HS, HAs, HB.out.setCell HBg.out _, HO.out.setCell (p := ⟨g, j, none⟩) ⟨i, _, HV.out, rfl⟩ _⟩
          case measure => simp [intOf]; omega
        · obtain rfl : q = j := by omega
          have hj1 : ¬ (q : Int) < (q : Int) := by omega
          have HAs := hide (HH.out.put HA.out HV.out (grown_refl _ _) HG.out (by rw [HM.out.1]; omega) (k' := i + 1) (fun j hj hk => by omega) (fun _ => imarks_all HM.out))
          go_wp2
          go_roundw
          case rel => exact ⟨i + 1, by omega, by go_num, HAs, HB, HO⟩
          case measure => simp [intOf]; omega
    · obtain rfl : n = i := by omega
      have hi1 : ¬ (n : Int) < (n : Int) := by omega
      go_wp2
      go_loopw [5, 6] (fun lv y wl => ∃ (i : Nat) (ws : List Value), i ≤ n ∧ y = .int .i64 i ∧ Hid (ws.length = i) ∧ Hid (Alo base b wl vs n) ∧ Hid (Lgr base w.heap.size wl vs ws lv) ∧ Hid (Below base w wl) ∧ Hid (Only (ownS vs) w wl)) (fun _ y _ => n - (intOf y).toNat)
      case atStart => exact ⟨0, [], by omega, rfl, rfl, HH, ⟨Grow.nil _ _ _ _, fun i u hu => by simp at hu⟩, HB, HO⟩
      case round =>
        clear HH HB HO
        obtain ⟨i, ws, hi, rfl, HW, HH, HL, HB, HO⟩ := hrel
        obtain ⟨la, lc, hlv, -, -⟩ := HL.out.grow.shape
        rw [HW.out] at hlv
        subst hlv
        by_cases hlt : i < n
        · have hi1 : (i : Int) < (n : Int) := by omega
          have hi0 : (0 : Int) ≤ (i : Int) := by omega
          obtain ⟨v, hv⟩ : ∃ v, vs[i]? = some v := ⟨_, List.getElem?_eq_getElem (by rw [HN.out]; exact hlt)⟩
          have HV := hide hv
          have y0 := HH.out.out i v hv
          obtain ⟨l, hg, hll, hmk⟩ := HH.out.own i v hv
          obtain ⟨a1, c1, hv1, -, -⟩ := hg.shape
          obtain ⟨q, hq⟩ : ∃ q, l.length = q := ⟨_, rfl⟩
          rw [hq] at hv1 hll
          subst hv1
          have HG := hide hg
          have HQ := hide hq
          have HMk := hide (hmk hlt)
          have hx64 : I64 (-100 - (i : Int)) := ⟨by omega, by omega⟩
          have HX := hide hx64
          have HYs : Hid (∀ z ∈ l ++ [-100 - (i : Int)], z = -100 - (i : Int)) := fun z hz => by
            rcases List.mem_append.1 hz with h | h
            · exact hmk hlt z h
            · simpa using h
          have HYl : Hid ((l ++ [-100 - (i : Int)]).length = q + 1) := by show _ = _; rw [List.length_append, hq]; rfl
          have HSi : Hid (w.heap.size ≤ wr.heap.size) := HB.out.size
          have HGa := hide (HG.out.kept (belo1 wr (.cells #[.int .i64 (-100 - (i : Int))] 3)))
          have HHa := hide (HH.out.kept (belo1 wr (.cells #[.int .i64 (-100 - (i : Int))] 3)))
          have HLa := hide (HL.out.kept (belo1 wr (.cells #[.int .i64 (-100 - (i : Int))] 3)))
          have HBa := hide (HB.out.alloc (Nat.le_trans HBb.out HB.out.size) (.cells #[.int .i64 (-100 - (i : Int))] 3))
          have HOa := hide (HO.out.alloc (.cells #[.int .i64 (-100 - (i : Int))] 3))
          have HLl : Hid (∀ k, (Value.slice la i lc).ownBlock = some k → w.heap.size ≤ k ∧ k < wr.heap.size) := fun k hk => ⟨own_new HL.out.grow.1 k hk, own_lt6 HL.out.grow.1 k hk⟩
          clear hg hv hq hmk hx64 HH HL HB HG
          go_wp2_with (first
            | (at_builtin; refine wpList_pushs_keep (w0 := w) elInt rfl _ _ 45 rfl base 3 ii _ 8 Try.underlying45 hii hz0 hz1 hz2 rfl (by decide) _ l rfl HGa.out [-100 - (i : Int)] 1 rfl wr.heap.size 1 rfl (fun j u hu => new_cells (w := wr) (cs := #[.int .i64 (-100 - (i : Int))]) j u hu) (fun z hz _ _ => by rw [HYs.out z hz]; exact HX.out) (by rw [HQ.out]; omega) HBa.out (Nat.le_trans HBb.out HBa.out.size) ?_; intro v3 W3 HX3 HG3 HB3 HGr3 HOw3; obtain ⟨g3, c3, hv3, -, -⟩ := HX3.out.1.form (by rw [HYl.out]; omega); rw [HYl.out] at hv3; subst hv3; have hz3 := belo1 W3 (.cells #[.slice (some ⟨g3, 0, none⟩) (q + 1) c3] 45); have HHc := hide ((HHa.out.put HA.out HV.out HGr3.out HG3.out (by rw [HQ.out]; omega) (k' := n) (fun j _ hj => hj) (fun _ => HMk.out)).kept hz3); have HOc := hide ((HOa.out.grown HGr3.out (fun k hk _ => ⟨i, _, HV.out, hk⟩)).alloc (.cells #[.slice (some ⟨g3, 0, none⟩) (q + 1) c3] 45)); have HLc := hide ((HLa.out.other HA.out (by rw [HW.out]; exact HV.out) (HLow.out i _ HV.out) HGr3.out).kept hz3); have HXc := hide (HX3.out.kept hz3); have HBc := hide (HB3.out.alloc (Nat.le_trans HBb.out HB3.out.size) (.cells #[.slice (some ⟨g3, 0, none⟩) (q + 1) c3] 45)); have hsz : w.heap.size ≤ (W3.alloc (.cells #[.slice (some ⟨g3, 0, none⟩) (q + 1) c3] 45)).heap.size := HBc.out.size; have HSz := hide hsz; have ho3 := HOw3.out; have hal := (belo1 wr (.cells #[.int .i64 (-100 - (i : Int))] 3)).size; have HOw : Hid ((Value.slice (some ⟨g3, 0, none⟩) (q + 1) c3).ownBlock = (Value.slice a1 q c1).ownBlock ∨ ∀ k, (Value.slice (some ⟨g3, 0, none⟩) (q + 1) c3).ownBlock = some k → wr.heap.size ≤ k) := ho3.imp id (fun h k hk => Nat.le_trans hal (h k hk)); clear hz3 hsz ho3 hal HX3 HG3 HB3 HGr3 HOw3 HGa HHa HLa HBa HOa)
            | (at_builtin; refine wpList_pushs_keep (w0 := W3.alloc (.cells #[.slice (some ⟨g3, 0, none⟩) (q + 1) c3] 45)) elSl rfl _ _ 53 rfl w.heap.size 45 is _ 24 Try.underlying53 his hs0 hs1 hs2 rfl (by decide) _ ws rfl HLc.out.grow [.slice (some ⟨g3, 0, none⟩) (q + 1) c3] 1 rfl W3.heap.size 1 rfl (fun j u hu => new_cells (w := W3) (cs := #[.slice (some ⟨g3, 0, none⟩) (q + 1) c3]) j u hu) (fun z hz _ _ => by rcases List.mem_append.1 hz with h | h; exact HLc.out.grow.2 z h; rw [List.mem_singleton.1 h]; rfl) (by rw [HW.out]; omega) (Below.refl _ _) HSz.out ?_; intro v4 W4 HX4 HG4 HB4 HGr4 HOw4; obtain ⟨g4, c4, hv4, -, -⟩ := HX4.out.1.form (by rw [List.length_append]; exact Nat.succ_pos _); rw [show (ws ++ [Value.slice (some ⟨g3, 0, none⟩) (q + 1) c3]).length = i + 1 by rw [List.length_append, HW.out]; rfl] at hv4; subst hv4))
          have HBl2 := hide (HBl.out (by omega))
          have HH4 := hide (HHc.out.above (S := w.heap.size) HGr4.out (fun t ht => (HLl.out t ht).1) HBl2.out HLow.out)
          have HL4 := hide (HLc.out.push HGr4.out HX4.out HOw4.out (v := .slice a1 q c1) (by rw [HW.out]; exact HV.out) HXc.out (by rw [HYl.out]; omega) (by rw [HW.out]; exact HYs.out) (HOw.out.imp id fun h k hk => Nat.le_trans HSi.out (h k hk)) (own_apart2 HOw.out (HLow.out i _ HV.out) HLl.out))
          have HOn := hide (HOc.out.grown HGr4.out (fun k hk hlt => absurd (HLl.out k hk).1 (by omega)))
          have HBn := hide (HBc.out.trans (HB4.out.mono HBb.out))
          have HWn : Hid ((ws ++ [Value.slice (some ⟨g3, 0, none⟩) (q + 1) c3]).length = i + 1) := by show _ = _; rw [List.length_append, HW.out]; rfl
          clear HX4 HG4 HB4 HGr4 HOw4 HHc HLc HXc HBc HOc
          go_wp2
          go_roundw
          case rel => exact ⟨i + 1, _, by omega, by go_num, HWn, HH4, HL4, HBn, HOn⟩
          case measure => simp [intOf]; omega
        · obtain rfl : n = i := by omega
          have hi1 : ¬ (n : Int) < (n : Int) := by omega
          obtain ⟨V, hV⟩ : ∃ V, V = wr := ⟨_, rfl⟩
          subst hV
          go_wp2
          go_loopw [7] (fun y wl => ∃ i : Nat, i ≤ n ∧ y = .int .i64 i ∧ Hid (Below base w wl) ∧ Hid (Below V.heap.size V wl)) (fun y _ => n - (intOf y).toNat)
          case atStart => exact ⟨0, by omega, rfl, HB, Below.refl _ _⟩
          case round =>
            clear HB
            obtain ⟨i, hi, rfl, HB, HBW⟩ := hrel
            by_cases hlt : i < n
            · have hi1 : (i : Int) < (n : Int) := by omega
              have hi0 : (0 : Int) ≤ (i : Int) := by omega
              obtain ⟨gl, cl, hgl, -, -⟩ := HL.out.grow.1.form (by rw [HW.out]; omega)
              rw [HW.out] at hgl
              cases hgl
              obtain ⟨v, hv⟩ : ∃ v, vs[i]? = some v := ⟨_, List.getElem?_eq_getElem (by rw [HN.out]; exact hlt)⟩
              obtain ⟨u, hu⟩ : ∃ u, ws[i]? = some u := ⟨_, List.getElem?_eq_getElem (by rw [HW.out]; exact hlt)⟩
              obtain ⟨l, hg, hll, hmk⟩ := HH.out.own i v hv
              obtain ⟨-, m, -, hgu, hlm, hmm, -, -⟩ := HL.out.own i u hu
              have HV0 := hide (HH.out.out i v hv)
              have HU0 := hide (sl_at HL.out.grow hu)
              obtain ⟨a1, c1, hv1, -, -⟩ := hg.shape
              obtain ⟨a2, c2, hv2, -, -⟩ := hgu.shape
              obtain ⟨q, hq⟩ : ∃ q, l.length = q := ⟨_, rfl⟩
              obtain ⟨r, hr⟩ : ∃ r, m.length = r := ⟨_, rfl⟩
              rw [hq] at hv1 hll
              rw [hr] at hv2 hlm
              subst hv1 hv2
              have HGl := hide hg
              have HGm := hide hgu
              have HQ := hide hq
              have HR := hide hr
              have HMl := hide (hmk hlt)
              have HMm := hide hmm
              have z0 := kept_cell HBW.out HU0.out
              clear hg hgu hq hr hmk hmm hv hu
              go_wp2
              go_loopw [8] (fun y wl => ∃ j : Nat, j ≤ r ∧ y = .int .i64 j ∧ Hid (Below base w wl) ∧ Hid (Below V.heap.size V wl)) (fun y _ => r - (intOf y).toNat)
              case atStart => exact ⟨0, by omega, rfl, HB, HBW⟩
              case round =>
                clear HB HBW z0
                obtain ⟨j, hj, rfl, HB, HBW⟩ := hrel
                have z0 := kept_cell HBW.out HU0.out
                have x0 := kept_cell HBW.out HV0.out
                by_cases hlt2 : j < r
                · have hj1 : (j : Int) < (r : Int) := by omega
                  have hj0 : (0 : Int) ≤ (j : Int) := by omega
                  obtain ⟨g2, k2, hg2, -, -⟩ := HGm.out.1.form (by rw [HR.out]; omega)
                  rw [HR.out] at hg2
                  cases hg2
                  have y0 := kept_cell HBW.out (grow_cellI HGm.out HMm.out hlt2)
                  by_cases hla : j < q
                  · have hk1 : (j : Int) < (q : Int) := by omega
                    obtain ⟨g1, k1, hg1, -, -⟩ := HGl.out.1.form (by rw [HQ.out]; omega)
                    rw [HQ.out] at hg1
                    cases hg1
                    have y1 := kept_cell HBW.out (grow_cellI HGl.out HMl.out hla)
                    go_wp2
                    go_roundw
                    case rel => exact ⟨j + 1, by omega, by go_num, HB, HBW⟩
                    case measure => simp [intOf]; omega
                  · have hk1 : ¬ (j : Int) < (q : Int) := by omega
                    go_wp2
                    go_roundw
                    case rel => exact ⟨j + 1, by omega, by go_num, HB, HBW⟩
                    case measure => simp [intOf]; omega
                · obtain rfl : r = j := by omega
                  have hj1 : ¬ (r : Int) < (r : Int) := by omega
                  go_wp2
                  go_roundw
                  case rel => exact ⟨i + 1, by omega, by go_num, HB, HBW⟩
                  case measure => simp [intOf]; omega
            · obtain rfl : n = i := by omega
              have hi1 : ¬ (n : Int) < (n : Int) := by omega
              go_wp2
              go_ret
              exact ⟨rfl, HB.out, HO.out.trans (Only.of_below HBW.out _)⟩
theorem numbers_any {base b c : Nat} {w : World} {vs : List Value} (h : Alo base b w vs 0) (hA : Apt b vs) (hl : vs.length ≤ 1048576) (hb : base ≤ w.heap.size) :
    Calls Try.prog 19 #[.slice (some ⟨b, 0, none⟩) vs.length c] w fun e w' => e = .returned (.bool true) ∧ Below base w w' :=
  (numbers_only h hA hl hb).mono fun _ _ ⟨a, b, _⟩ => ⟨a, b⟩
end Go.Proofs.Ythhoiejjejdffaa

namespace Go.Proofs.Ythhoiejjejdffaa
set_option linter.unusedSimpArgs false
set_option linter.unusedVariables false
open Go.RowKit Go.Maps Go.Sort

variable {base : Nat} {w w' : World} {p : Nat} {v : Value} {ks : List Con}

def ranksL (ks : List Con) : List Nat := (List.range ks.length).map fun i => (sortL ks).idxOf i

set_option maxRecDepth 100000 in
set_option maxHeartbeats 4000000 in
theorem tranks_any (h : RTab base w p v ks) (hl : ks.length ≤ 65536) (hnd : ks.Nodup) (hok : ∀ c ∈ ks, c.ok) :
    Calls Try.prog 62 #[.pointer (some ⟨p, 0, none⟩)] w fun e w' => ∃ v', e = .returned v' ∧ Hid (NL w w' v' (ranksL ks)) := by
  obtain ⟨i0, hi0, hz0, hz1, hz2⟩ := info_parts Try.infoI2
  have HIS := hide (sortL_is hnd)
  obtain ⟨a, cap, rfl⟩ := h.shape
  have c0 := h.c0
  have HC : Hid (∀ j s, ks[j]? = some s → ∃ g, a = some ⟨g, 0, none⟩ ∧ conAt w g (j * 3) s) := fun j s hj => h.at rfl hj
  have HCm : Hid (∀ (W : World) (d c : Con), d ∈ ks → c ∈ ks → ∀ z, Calls Try.prog 74 #[.agg #[.int .i64 d.k, .int .i64 d.n, .string d.s], .agg #[.int .i64 c.k, .int .i64 c.n, .string c.s]] (over W z) fun e w' => e = .returned (.int .i64 (cmpC d c)) ∧ ∃ y, w' = over W y) := fun W d c hd hc z => calls_over (refCompare_any d c (over W z) (by have := (hok d hd).2.2; unfold maxLen; omega) (by have := (hok c hc).2.2; unfold maxLen; omega))
  obtain ⟨len, hlen⟩ : ∃ len, len = ks.length := ⟨_, rfl⟩
  have HL := hide hlen
  rw [← hlen] at hl c0
  clear hlen h
  go_enter Try.func62, Try.ntmps62
  go_wp2
  go_loopw [3, 4] (fun t i wr => ∃ (j : Nat) (b : Option Addr) (cp : Nat), j ≤ len ∧ i = .int .i64 j ∧ t = .slice b j cp ∧ Hid (NL w wr (.slice b j cp) ((ranksL ks).take j))) (fun _ i _ => len - (intOf i).toNat)
  case atStart => exact ⟨0, none, 0, by omega, rfl, rfl, NL.nil w⟩
  case round =>
    obtain ⟨j, b, cp, hj, rfl, rfl, HN⟩ := hrel
    have HLL : Hid ((ranksL ks).length = len) := by show _ = _; rw [HL.out]; simp [ranksL]
    have HTk : Hid (((ranksL ks).take j).length = j) := by show _ = _; rw [List.length_take, HLL.out]; omega
    have c0' := kept_cell HN.out.bel c0
    by_cases hlt : j < len
    · have hjl : (j : Int) < (len : Int) := by omega
      obtain ⟨c, hc⟩ : ∃ c, ks[j]? = some c := ⟨_, List.getElem?_eq_getElem (by have := HL.out; omega)⟩
      obtain ⟨g, rfl, hcc⟩ := HC.out j c hc
      have HCC := hide hcc
      have HCj := hide hc
      have HNx : Hid ((ranksL ks).take (j + 1) = (ranksL ks).take j ++ [(sortL ks).idxOf j]) := by
        show _ = _
        have : (ranksL ks)[j]? = some ((sortL ks).idxOf j) := by unfold ranksL; rw [List.getElem?_map, List.getElem?_range (by have := HL.out; omega)]; rfl
        rw [List.take_add_one, this]; rfl
      clear hc hcc
      go_wp2
      generalize wr = wo at *
      go_loopw [5, 6] (fun t i wq => ∃ (q n : Nat), q ≤ len ∧ n ≤ q ∧ i = .int .i64 q ∧ t = .int .i64 n ∧ Hid ((ks.take q).countP (fun d => decide (cmpC d c < 0)) = n) ∧ Hid (Below wo.heap.size wo wq)) (fun _ i _ => len - (intOf i).toNat)
      case atStart => exact ⟨0, 0, by omega, by omega, rfl, rfl, rfl, Below.refl _ _⟩
      case round =>
        obtain ⟨q, n, hq, hnq, rfl, rfl, HCn, HB⟩ := hrel
        have c0q := kept_cell HB.out c0'
        by_cases hlq : q < len
        · have hql : (q : Int) < (len : Int) := by omega
          obtain ⟨d, hd⟩ : ∃ d, ks[q]? = some d := ⟨_, List.getElem?_eq_getElem (by have := HL.out; omega)⟩
          obtain ⟨g', hg', hdc⟩ := HC.out q d hd
          simp only [Option.some.injEq, Addr.mk.injEq, and_true] at hg'
          subst hg'
          have HBw : Hid (Below w.heap.size w wr) := HN.out.bel.trans (HB.out.mono HN.out.bel.size)
          obtain ⟨x0, x1, x2⟩ := conAt_kept hdc HBw.out
          obtain ⟨y0, y1, y2⟩ := conAt_kept HCC.out HBw.out
          have G := hide (HCm.out wr d c (List.mem_of_getElem? hd) (List.mem_of_getElem? HCj.out))
          have HCn2 : Hid ((ks.take (q + 1)).countP (fun d => decide (cmpC d c < 0)) = n + (if cmpC d c < 0 then 1 else 0)) := by
            show _ = _
            rw [List.take_add_one, hd, Option.toList_some, List.countP_append, List.countP_singleton, HCn.out]
            simp only [decide_eq_true_eq]
          clear hd hdc
          obtain ⟨y, hy⟩ : ∃ y, y = cmpC d c := ⟨_, rfl⟩
          rw [← hy] at G HCn2
          clear hy
          go_wp2
          refine wp_region_over (fun V => wr = V) (by kernel_rfl) (by kernel_rfl) rfl ?_
          rintro _ rfl
          have c0o := over_cell c0q
          have x0' := over_cell x0
          have x1' := over_cell x1
          have x2' := over_cell x2
          have y0' := over_cell y0
          have y1' := over_cell y1
          have y2' := over_cell y2
          clear x0 x1 x2 y0 y1 y2 c0q
          repeat (go_big_quiet_step ((go_at_call 74; exact G.out _)))
          refine wpQuiet_nil ?_
          rintro _ ⟨z, rfl⟩
          have HB2 : Hid (Below wo.heap.size wo (over wr z)) := HB.out.trans ((over_below _ z).mono HB.out.size)
          clear x0' x1' x2' y0' y1' y2' c0o G
          by_cases hneg : y < 0
          · rw [if_pos hneg] at HCn2
            go_wp2
            go_roundw
            case rel => exact ⟨q + 1, n + 1, by omega, by omega, by go_num, by go_num, HCn2, HB2⟩
            case measure => simp [intOf]; omega
          · rw [if_neg hneg] at HCn2
            go_wp2
            go_roundw
            case rel => exact ⟨q + 1, n, by omega, by omega, by go_num, rfl, HCn2, HB2⟩
            case measure => simp [intOf]; omega
        · obtain rfl : q = len := by omega
          have hql : ¬ (q : Int) < (q : Int) := by omega
          have HEq : Hid ((sortL ks).idxOf j = n) := by
            show _ = _
            rw [← rank_count HIS.out HCj.out, ← HCn.out, List.take_of_length_le (by rw [HL.out]; exact Nat.le_refl _)]
          have HN2 := hide (HN.out.grow HB.out)
          have hrow := HN2.out.row
          rw [HTk.out] at hrow
          have HRow := hide hrow
          have hws := HN2.out.bel.size
          clear hrow
          go_wp2_with (at_builtin; refine wpList_append_lies _ rfl _ _ 45 rfl w.heap.size 3 i0 (.int .i64 0) 1 8 Try.underlying45 hi0 hz0 hz1 hz2 rfl (by decide) (.slice b j cp) j (((ranksL ks).take j).map encI) rfl (HRow.out.alloc _) ⟨wr.heap.size, 0, none⟩ 1 1 [encI n] rfl rfl int_new (by simp [encI, Value.oneCell']) (by decide) (by unfold maxLen; omega) (by omega) (by rw [World.size_alloc]; omega) (wr.heap.size + 1) (by rw [World.size_alloc]) ?_; intro gg cap' W4 hown1 hgrow hat hlt1; have hS4 := HN2.out.push (by rw [HTk.out]; exact hown1) hgrow; rw [HTk.out] at hS4; have HS4 := hide hS4; clear hown1 hgrow hat hlt1 hS4)
          go_roundw
          case rel => exact ⟨j + 1, _, cap', by omega, by go_num, rfl, by rw [HNx.out, HEq.out]; exact HS4⟩
          case measure => simp [intOf]; omega
    · obtain rfl : j = len := by omega
      have hjl : ¬ (j : Int) < (j : Int) := by omega
      have HX : Hid (NL w wr (.slice b j cp) (ranksL ks)) := by
        have := HN.out
        rw [List.take_of_length_le (by rw [HLL.out]; exact Nat.le_refl _)] at this
        exact this
      go_wp2
      go_ret
      exact ⟨_, rfl, HX⟩

/-- A slice value leads to the n numbers f 0, f 1, .. -/
def NumsF (W : World) (a : Option Addr) (n : Nat) (f : Nat → Nat) : Prop := 0 < n → ∃ g, a = some ⟨g, 0, none⟩ ∧ ∀ i, i < n → W.cell? ⟨g, i, none⟩ = some (.int .i64 (f i : Nat))
theorem NumsF.kept {W W' : World} {a : Option Addr} {n : Nat} {f : Nat → Nat} (h : NumsF W a n f) (hb : Below W.heap.size W W') : NumsF W' a n f := fun h0 => by
  obtain ⟨g, hg, hc⟩ := h h0
  exact ⟨g, hg, fun i hi => kept_cell hb (hc i hi)⟩
theorem NL.nums {w W : World} {a : Option Addr} {n cap : Nat} {xs : List Nat} (h : NL w W (.slice a n cap) xs) (hn : xs.length = n) : NumsF W a n (fun i => xs.getD i 0) := fun h0 => by
  rcases h.row.2 with ⟨h1, h2⟩ | ⟨g, cap', cur, hv, _, hb, h1, h2, h3, h4⟩
  · omega
  · simp only [Value.slice.injEq] at hv
    refine ⟨g, hv.1, fun i hi => ?_⟩
    have e1 : (cur.toList.take (xs.length * 1))[i]? = (xs.map encI)[i]? := by rw [h4]
    rw [List.getElem?_take_of_lt (by omega), List.getElem?_map, Array.getElem?_toList] at e1
    simp only [World.cell?, hb]
    simp only [Option.isSome_none, Bool.false_eq_true, if_false]
    rw [e1, List.getD_eq_getElem?_getD, List.getElem?_eq_getElem (by omega)]
    rfl

set_option maxRecDepth 100000 in
set_option maxHeartbeats 1000000 in
theorem ints_same (a1 a2 : Option Addr) (n c1 c2 : Nat) (f : Nat → Nat) (w : World) (h1 : NumsF w a1 n f) (h2 : NumsF w a2 n f) (hn : n ≤ 65536) :
    Calls Try.prog 18 #[.slice a1 n c1, .slice a2 n c2] w fun e w' => e = .returned (.bool true) ∧ Below w.heap.size w w' := by
  have H1 := hide h1
  have H2 := hide h2
  clear h1 h2
  go_enter Try.func18, Try.ntmps18
  go_wp2
  go_loopw [5] (fun t wr => ∃ j : Nat, j ≤ n ∧ t = .int .i64 j ∧ Hid (Below w.heap.size w wr)) (fun t _ => n - (intOf t).toNat)
  case atStart => exact ⟨0, by omega, rfl, Below.refl _ _⟩
  case round =>
    obtain ⟨j, hj, rfl, HB⟩ := hrel
    by_cases hlt : j < n
    · have hi : (j : Int) < (n : Int) := by omega
      obtain ⟨b1, rfl, r1⟩ := H1.out (by omega)
      obtain ⟨b2, rfl, r2⟩ := H2.out (by omega)
      have e1 := kept_cell HB.out (r1 j hlt)
      have e2 := kept_cell HB.out (r2 j hlt)
      obtain ⟨y, hy⟩ : ∃ y, y = f j := ⟨_, rfl⟩
      rw [← hy] at e1 e2
      have q : ((y : Int) != (y : Int)) = false := by simp
      clear r1 r2 hy
      go_wp2
      go_quiet (fail)
      go_wp2
      go_roundw
      case rel => exact ⟨j + 1, by omega, by go_num, HB.out.trans (below_drewN _ _ _)⟩
      case measure => simp [intOf]; omega
    · obtain rfl : j = n := by omega
      have hi : ¬ (j : Int) < (j : Int) := by omega
      go_wp2
      go_ret
      exact ⟨rfl, HB.out⟩
end Go.Proofs.Ythhoiejjejdffaa

namespace Go.Proofs.Ythhoiejjejdffaa
set_option linter.unusedSimpArgs false
set_option linter.unusedVariables false
open Go.RowKit Go.Maps Go.Sort Go.Proofs

set_option maxRecDepth 100000 in
set_option maxHeartbeats 2000000 in
theorem cmpFn_gro {W : World} {base p m nn cap B : Nat} {ao : Option Addr} {ks : List Con} (hT : TableAt base W p m nn ao cap ks) (hl : ks.length ≤ 65536) (hB : W.cell? ⟨B, 0, none⟩ = some (.pointer (some ⟨p, 0, none⟩)))
    {i j : Nat} {a b : Con} (hi : ks[i]? = some a) (hj : ks[j]? = some b) :
    Calls Try.prog 45 #[.int .i64 i, .int .i64 j, .pointer (some ⟨B, 0, none⟩)] W fun e w' => e = .returned (.int .i64 (cmpC a b)) ∧ ∃ y, w' = gro W y := by
  have hilt : i < ks.length := (List.getElem?_eq_some_iff.1 hi).1
  have hjlt : j < ks.length := (List.getElem?_eq_some_iff.1 hj).1
  obtain ⟨g, cur, hao, _⟩ := hT.lies (by omega)
  have e0 := gro_cell (hT.cellAt (j := 0) lenCells hao hi rfl)
  have e1 := gro_cell (hT.cellAt (j := 1) lenCells hao hi rfl)
  have e2 := gro_cell (hT.cellAt (j := 2) lenCells hao hi rfl)
  have f0 := gro_cell (hT.cellAt (j := 0) lenCells hao hj rfl)
  have f1 := gro_cell (hT.cellAt (j := 1) lenCells hao hj rfl)
  have f2 := gro_cell (hT.cellAt (j := 2) lenCells hao hj rfl)
  simp only [Nat.add_zero] at e0 f0
  have c0 := gro_cell hT.c0
  have hb := gro_cell hB
  have HC := hide (fun x => compare_gro a b W x)
  obtain ⟨len, hlen⟩ : ∃ len, len = ks.length := ⟨_, rfl⟩
  rw [← hlen] at c0 hilt hjlt hl
  subst hao
  clear hlen hT hi hj hB
  have h1 : ¬ (i : Int) < 0 := by omega
  have h2 : (i : Int) < (len : Int) := by omega
  have h3 : ¬ (j : Int) < 0 := by omega
  have h4 : (j : Int) < (len : Int) := by omega
  go_enter Try.func45, Try.ntmps45
  go_wp2
  refine wp_region_gro (by kernel_rfl) (by kernel_rfl) ?_
  repeat (go_big_quiet_step ((go_at_call 46; exact HC.out _)))
  refine wpQuiet_nil ?_
  rintro _ ⟨v, rfl⟩
  go_wp2
  go_ret
  exact ⟨rfl, v, rfl⟩
end Go.Proofs.Ythhoiejjejdffaa

namespace Go.Proofs.Ythhoiejjejdffaa
set_option linter.unusedSimpArgs false
set_option linter.unusedVariables false
open Go.RowKit Go.Maps Go.Shelf Go.Sort
attribute [local go_sem] Oper.semAt_some

theorem Try.infoI : (Try.prog.info? 3).map (fun i => (i.zero, i.size, i.bytes)) = some (some (.int .i64 0), 1, 8) := by kernel_rfl

/-- Behind an append that fits and a store into the box of the list all other blocks are as they were. -/
theorem app_keeps {W w2 : World} {tmp : Obj} {g Bi k : Nat} {v' : Value} (hg : (W.alloc tmp).grownBy w2 (some g)) (hk : k < W.heap.size) (h1 : k ≠ g) (h2 : k ≠ Bi) : (w2.setCell ⟨Bi, 0, none⟩ v').heap[k]? = W.heap[k]? := by
  rw [Below.heap_setCell _ _ _ _ h2, hg.block k (by simp; omega) (by simpa using h1)]
  exact Below.heap_alloc _ _ _ hk

/-- What the sort of the ids is asked to do. -/
def SortIdsSaid : Prop := ∀ (W : World) (base n₀ p m nn cap B g cap' : Nat) (ao : Option Addr) (ks : List Con), TableAt base W p m nn ao cap ks → ks.Nodup → ks.length ≤ 65536 →
    W.cell? ⟨B, 0, none⟩ = some (.pointer (some ⟨p, 0, none⟩)) → W.ownsRow n₀ 3 1 (.slice (some ⟨g, 0, none⟩) ks.length cap') ks.length ((List.range ks.length).map encI) → g ≠ B →
    Calls Try.prog 44 #[.slice (some ⟨g, 0, none⟩) ks.length cap', .func (.func 45) #[] #[.pointer (some ⟨B, 0, none⟩)]] W fun e w' =>
      e = .returned (.tuple #[]) ∧ Hid (w'.ownsRow n₀ 3 1 (.slice (some ⟨g, 0, none⟩) ks.length cap') ks.length ((sortL ks).map encI) ∧ Only (fun k => k = g) W w')

set_option maxRecDepth 100000 in
set_option maxHeartbeats 4000000 in
theorem sorted_any (HSS : SortIdsSaid) {base : Nat} {w : World} {p m nn cap : Nat} {ao : Option Addr} {ks : List Con} (hT : TableAt base w p m nn ao cap ks) (hnd : ks.Nodup) (hl : ks.length ≤ 65536) :
    Calls Try.prog 13 #[.pointer (some ⟨p, 0, none⟩)] w fun e w' => ∃ g, e = .returned (.slice (some ⟨g, 0, none⟩) ks.length ks.length) ∧ w'.ownsRow w.heap.size 3 1 (.slice (some ⟨g, 0, none⟩) ks.length ks.length) ks.length ((sortL ks).map encI) ∧ Below w.heap.size w w' := by
  obtain ⟨i0, hi, hz0, hz1, hz2⟩ := info_parts Try.infoI
  obtain ⟨len, hlen⟩ : ∃ len, len = ks.length := ⟨_, rfl⟩
  have HLN := hide hlen
  have hplt := hT.plt
  have HT := hide hT
  have HL0 : ∀ W, Below w.heap.size w W → Calls Try.prog 12 #[.pointer (some ⟨p, 0, none⟩)] W fun e w' => e = .returned (.int .i64 len) ∧ w' = W := fun W hb => by rw [hlen]; exact lenCon_any (hT.grow hb)
  rw [← hlen] at hl ⊢
  replace HL0 := hide HL0
  clear hlen hT
  refine (callsIn_wide (n := 3)).1 ?_
  refine callsIn_of_wp_marks Try.func13 rfl trivial ?_ rfl
  simp only [Try.ntmps13, List.size_toArray, List.length_cons, List.length_nil, Nat.reduceAdd, Nat.reduceSub, Array.replicate_succ, Array.replicate_zero, List.push_toArray, List.append_toArray, List.nil_append, List.cons_append]
  gi_wp2_with (first
    | (refine ⟨trivial, ?_⟩; gi_at_call 12; refine (callsIn_wide.2 (HL0.out _ ((Below.refl _ _).alloc (Nat.le_refl _) _))).mono ?_; rintro e w' ⟨rfl, hw'⟩; have hw' := hw'.symm; subst hw')
    | (gi_at_make; refine wpListIn_make_own _ rfl _ _ 45 rfl w.heap.size 3 i0 (.int .i64 0) 1 Try.underlying45 hi hz0 hz1 _ _ _ len rfl rfl rfl (by rw [hz2]; omega) (by unfold maxLen; omega) (by simp) ?_; intro w1 hrow1 hg1; rw [World.size_alloc] at hrow1; have bt1 : Boxed w1 w.heap.size 36 (.pointer (some ⟨p, 0, none⟩)) := (Boxed.new w _ _).kept hg1 (by simp); have ct1 := fun o => (bt1.alloc o).cell)
    | (refine ⟨trivial, ?_⟩; gi_at_call 43; refine (callsIn_wide.2 (allCon_any p _)).mono ?_; rintro e w' ⟨rfl, rfl⟩))
  have bi1 : Boxed (w1.alloc (.cells #[.slice (some ⟨w.heap.size + 1, 0, none⟩) 0 len] 45)) w1.heap.size 45 (.slice (some ⟨w.heap.size + 1, 0, none⟩) 0 len) := Boxed.new _ _ _
  have hsz1 : w.heap.size + 1 < w1.heap.size := (hrow1.lt _ rfl).2
  have hB1 : Below w.heap.size w w1 := ((Below.refl _ w).alloc (Nat.le_refl _) _).grown hg1 (by simp) (by simp)
  have hrow2 := (hrow1.alloc (.cells #[.slice (some ⟨w.heap.size + 1, 0, none⟩) 0 len] 45)).alloc (.cells #[.pointer (some ⟨p, 0, none⟩)] 87)
  have hB2 := (hB1.alloc (by omega) (.cells #[.slice (some ⟨w.heap.size + 1, 0, none⟩) 0 len] 45)).alloc (by simp; omega) (.cells #[.pointer (some ⟨p, 0, none⟩)] 87)
  have bs2 : Boxed ((w1.alloc (.cells #[.slice (some ⟨w.heap.size + 1, 0, none⟩) 0 len] 45)).alloc (.cells #[.pointer (some ⟨p, 0, none⟩)] 87)) (w1.heap.size + 1) 87 (.pointer (some ⟨p, 0, none⟩)) := by
    have := Boxed.new (w1.alloc (.cells #[.slice (some ⟨w.heap.size + 1, 0, none⟩) 0 len] 45)) 87 (.pointer (some ⟨p, 0, none⟩))
    rwa [World.size_alloc] at this
  have bi2 := bi1.alloc (.cells #[.pointer (some ⟨p, 0, none⟩)] 87)
  have bt2 := (bt1.alloc (.cells #[.slice (some ⟨w.heap.size + 1, 0, none⟩) 0 len] 45)).alloc (.cells #[.pointer (some ⟨p, 0, none⟩)] 87)
  have hsz2 : ((w1.alloc (.cells #[.slice (some ⟨w.heap.size + 1, 0, none⟩) 0 len] 45)).alloc (.cells #[.pointer (some ⟨p, 0, none⟩)] 87)).heap.size = w1.heap.size + 2 := by simp
  clear bi1 bt1 ct1 hrow1 hg1 hB1
  generalize ((w1.alloc (.cells #[.slice (some ⟨w.heap.size + 1, 0, none⟩) 0 len] 45)).alloc (.cells #[.pointer (some ⟨p, 0, none⟩)] 87)) = W0 at *
  have hT0 := HT.out.grow hB2
  have hft := fun k hk => (HT.out.foot_lt (by decide) (k := k) hk).1
  refine wpIn_rangeFunc_ownF rfl (by omega) (gf := 65) (lb := #[.pointer (some ⟨w1.heap.size + 1, 0, none⟩)]) rfl trivial (enters_of Try.func65 (by kernel_rfl) rfl)
    (allCon_stops 2 (by omega) (n₀ := w.heap.size) W0 hT0 (by rw [← HLN.out]; omega) hB2.size (hft _ (.inl rfl)) (hft _ (.inr (.inl rfl))) (fun a e => hft _ (.inr (.inr ⟨a, e, rfl⟩))) bs2) kpI_t (kpI_b hB2.size) (Below.refl _ _) (fun _ => rfl)
    (fun pre W => (∃ v, Boxed W w1.heap.size 45 v ∧ W.ownsRow w.heap.size 3 1 v pre.length (pre.map fun x => encI x.1) ∧ v = .slice (some ⟨w.heap.size + 1, 0, none⟩) pre.length len) ∧ (Boxed W w.heap.size 36 (.pointer (some ⟨p, 0, none⟩)) ∧ Below w.heap.size w W))
    (fun _ _ _ => False)
    (OwnFrom.and (Own.from (holdsRow_own w.heap.size w1.heap.size _ _ 1 (fun pre : List (Nat × Con) => pre.length) (fun pre => pre.map fun x => encI x.1) (fun pre v => v = .slice (some ⟨w.heap.size + 1, 0, none⟩) pre.length len)) _) (OwnFrom.and (Own.from (boxed_own _ _ _) _) (ownFrom_below (Nat.le_refl _) hB2.size)))
    (fun _ _ _ _ _ hs _ _ => hs)
    ⟨⟨_, bi2, hrow2, rfl⟩, bt2, hB2⟩
    ?a1 ?assign ?body ?done ?stop
  case assign =>
    intro l x W K hK
    dsimp only [encC]
    gi_wp2
    exact hK
  case stop =>
    rintro D c pre W _ _ h _
    exact h.elim
  case body =>
    rintro l pre x W ⟨⟨v, hbx, hrow, rfl⟩, hbt, hB⟩ hlt
    have hcx := fun o => (hbx.alloc o).cell
    have hcx0 := hbx.cell
    have hlt2 : pre.length < len := by have := HLN.out; omega
    gi_wp2_with (gi_at_builtin; refine wpListIn_append_fits _ rfl _ _ 45 rfl w.heap.size 3 i0 1 Try.underlying45 hi hz1 (w.heap.size + 1) pre.length len _ rfl (hrow.alloc _) ⟨W.heap.size, 0, none⟩ 1 1 [.int .i64 (x.1 : Int)] rfl rfl (cell_one_new _ _ _) (by simp [Value.oneCell']) (by omega) ?_; intro w2 hown2 hgrow2; obtain ⟨hv1, hv2, hr2, hk2, hb2⟩ := hbx.appended (by decide) hrow hB.size (by omega) hown2 hgrow2; have hc1 := hv1.cell; have hf1 := hv1.frozen)
    refine ⟨hk2, ⟨hb2, fun v t hv => ?_⟩, ⟨_, hv2, ?_, ?_⟩, ?_, hB.trans hb2⟩
    · exact (app_keeps hgrow2 (Array.getElem?_eq_some_iff.1 hv).1 (by omega) (by omega)).trans hv
    · rw [List.map_append, List.length_append]; exact hr2
    · rw [List.length_append]; rfl
    · exact (app_keeps hgrow2 hbt.lt (by omega) (by omega)).trans hbt
  case done =>
    rintro D ys W hD rfl ⟨⟨v, hbx, hrow, rfl⟩, hbt, hB⟩ hK
    rw [uptoC_length, ← HLN.out] at hbx hrow
    have hmap : (uptoC ks len).map (fun x => encI x.1) = (List.range len).map encI := by simp [uptoC]
    rw [hmap] at hrow
    have hcb := hbx.cell
    have HS := HSS W base w.heap.size p m nn cap w.heap.size (w.heap.size + 1) len ao ks (HT.out.grow hB) hnd (by rw [← HLN.out]; exact hl) hbt.cell (by rw [← HLN.out]; exact hrow) (by omega)
    rw [← HLN.out] at HS
    replace HS := hide HS
    gi_wp2_with (refine ⟨trivial, ?_⟩; gi_at_call 44; refine (callsIn_wide.2 HS.out).mono ?_; rintro e W3 ⟨rfl, hp3⟩; obtain ⟨hrow3, ho3⟩ := hp3.out; have hbx3 : Boxed W3 w1.heap.size 45 (.slice (some ⟨w.heap.size + 1, 0, none⟩) len len) := (ho3.block _ hbx.lt (by omega)).trans hbx; have hcb3 := hbx3.cell; have HO := hide ho3; clear ho3 hp3)
    have hDl : D < W.heap.size := (Array.getElem?_eq_some_iff.1 hK).1
    have hK3 : W3.heap[D]? = some (.deferred (some [])) := (HO.out.block D hDl (by omega)).trans hK
    have hB3 : Below w.heap.size w W3 := hB.trans (HO.out.below hB.size (fun k hk => by omega))
    refine ⟨by simp, .inl ⟨_, _, rfl, run_takeDeferred hK3, ?_⟩⟩
    exact ⟨_, results_tmp rfl _ _ _, _, rfl, ownsRow_putObj hrow3 _ hK3 rfl, hB3.trans (belowK_b (w := w) (Nat.le_refl _) W3 D _ _ (by omega) hK3 rfl rfl)⟩
end Go.Proofs.Ythhoiejjejdffaa

namespace Go.Proofs.Ythhoiejjejdffaa
set_option linter.unusedSimpArgs false
set_option linter.unusedVariables false
open Go.RowKit Go.Maps Go.Shelf Go.Sort

theorem own_row {W : World} {base g n : Nat} {e : TypeId} {L : List Nat} (h : W.ownsRow base e 1 (.slice (some ⟨g, 0, none⟩) n n) n (L.map encI)) : W.rowIs g e n (fun i => encI (L.getD i 0)) ∧ base ≤ g := by
  have hl : L.length = n := by have := h.1; simpa using this
  rcases h.2 with ⟨h', _⟩ | ⟨g', cap', cur, hs, hbase, hb, h1, h2, h3, h4⟩
  · cases h'
  cases hs
  refine ⟨⟨cur, hb, by omega, fun i hi => ?_⟩, hbase⟩
  have e1 : (cur.toList.take (n * 1))[i]? = (L.map encI)[i]? := by rw [h4]
  rw [List.getElem?_take_of_lt (by omega), List.getElem?_map, Array.getElem?_toList] at e1
  rw [e1]
  show _ = some (encI (L.getD i 0))
  rw [List.getD_eq_getElem?_getD, List.getElem?_eq_getElem (by omega)]
  rfl

def rankF (L : List Nat) (k i : Nat) : Value := encI (if L.idxOf i < k then L.idxOf i else 0)

theorem rankF_step {ks : List Con} {L : List Nat} (h : IdSort ks L) {k x : Nat} (hk : L[k]? = some x) (j : Nat) (hj : j < ks.length) : (if j = x then encI k else rankF L k j) = rankF L (k + 1) j := by
  unfold rankF
  by_cases e : j = x
  · subst e
    rw [if_pos rfl, h.back hk, if_pos (Nat.lt_succ_self k)]
  · rw [if_neg e]
    have hne : L.idxOf j ≠ k := fun he => by
      obtain ⟨_, h2⟩ := h.at hj
      rw [he, hk] at h2
      exact e (Option.some.inj h2).symm
    by_cases hlt : L.idxOf j < k
    · rw [if_pos hlt, if_pos (by omega)]
    · rw [if_neg hlt, if_neg (by omega)]

set_option maxRecDepth 100000 in
set_option maxHeartbeats 4000000 in
theorem ranks_any (HSS : SortIdsSaid) {base : Nat} {w : World} {p m nn cap : Nat} {ao : Option Addr} {ks : List Con} (hT : TableAt base w p m nn ao cap ks) (hnd : ks.Nodup) (hl : ks.length ≤ 65536) :
    Calls Try.prog 14 #[.pointer (some ⟨p, 0, none⟩)] w fun e w' => ∃ g, e = .returned (.slice (some ⟨g, 0, none⟩) ks.length ks.length) ∧ w'.rowIs g 3 ks.length (fun i => encI ((sortL ks).idxOf i)) ∧ w.heap.size ≤ g ∧ Below w.heap.size w w' := by
  have HS := hide (sorted_any HSS hT hnd hl)
  have hL := sortL_is hnd
  obtain ⟨len, hlen⟩ : ∃ len, len = ks.length := ⟨_, rfl⟩
  have HLN := hide hlen
  rw [← hlen] at hl HS ⊢
  have hll : (sortL ks).length = len := by rw [hlen]; exact hL.len
  have HLL := hide hll
  have HIS := hide hL
  clear hlen hT hL hll
  have hmk := fun W : World => run_make_row' (P := Try.prog) 45 3 (.int .i64 0) 8 Try.underlying45 Try.infoI rfl .i64 .i64 len (by omega) (by omega) W
  go_enter Try.func14, Try.ntmps14
  go_wp2_with (go_at_call 13; refine HS.out.mono ?_; rintro e w1 ⟨g1, rfl, hown, hb1⟩; obtain ⟨hr1, hg1⟩ := own_row hown; have HR1 := hide hr1; have HB1 := hide hb1; clear hown hr1 hb1)
  go_loopw [14] (fun i wr => ∃ k : Nat, k ≤ len ∧ i = .int .i64 k ∧ Hid (wr.rowIs w1.heap.size 3 len (rankF (sortL ks) k)) ∧ Hid (Below w1.heap.size w1 wr)) (fun i _ => len - (intOf i).toNat)
  case atStart =>
    refine ⟨0, by omega, rfl, ?_, ?_⟩
    · exact (World.rowIs_made w1 (.int .i64 0) len 3).congr fun i _ => by unfold rankF; rw [if_neg (by omega)]; rfl
    · exact (Below.refl _ _).alloc (Nat.le_refl _) _
  case round =>
    obtain ⟨k, hk, rfl, HR, HB⟩ := hrel
    by_cases hlt : k < len
    · have hi : (k : Int) < (len : Int) := by omega
      obtain ⟨x, hx⟩ : ∃ x, (sortL ks)[k]? = some x := ⟨_, List.getElem?_eq_getElem (by have := HLL.out; omega)⟩
      have hxl : x < len := by
        have := HIS.out.mem.1 (List.mem_of_getElem? hx)
        rw [HLN.out]; exact this
      have c1 : wr.cell? ⟨g1, k, none⟩ = some (.int .i64 x) := by
        have := kept_cell HB.out (HR1.out.cell hlt)
        rw [List.getD_eq_getElem?_getD, hx] at this
        exact this
      have c2 := HR.out.cell hxl
      have f2 := HR.out.frozen x
      have hxi : (x : Int) < (len : Int) := by omega
      have hx0 : ¬ (x : Int) < 0 := by omega
      go_wp2
      go_roundw
      case rel =>
        refine ⟨k + 1, by omega, by go_num, ?_, ?_⟩
        · exact (HR.out.set x (.int .i64 k)).congr fun j hj => by have := rankF_step HIS.out hx j (by have := HLN.out; omega); rw [← this]; rfl
        · exact HB.out.setCell (p := ⟨w1.heap.size, x, none⟩) (Nat.le_refl _) _
      case measure => simp [intOf]; omega
    · obtain rfl : k = len := by omega
      have hi : ¬ (k : Int) < (k : Int) := by omega
      go_wp2
      go_ret
      refine ⟨_, rfl, ?_, HB1.out.size, HB1.out.trans (HB.out.mono HB1.out.size)⟩
      exact HR.out.congr fun i hi => by
        unfold rankF
        rw [if_pos]
        have := (HIS.out.at (i := i) (by rw [← HLN.out]; exact hi)).1
        rw [HLL.out] at this
        exact this
end Go.Proofs.Ythhoiejjejdffaa

namespace Go.Proofs.Ythhoiejjejdffaa
set_option linter.unusedSimpArgs false
set_option linter.unusedVariables false
open Go.RowKit Go.Maps

/-- The places of the ids in the order. -/
def rnkL (ks : List Con) : List Nat := (List.range ks.length).map fun i => (sortL ks).idxOf i
theorem rnkL_len (ks : List Con) : (rnkL ks).length = ks.length := by simp [rnkL]

/-- What the list number j holds. -/
def LLa (ks1 ks2 : List Con) (j : Nat) : List Nat := if j % 4 = 0 then sortL ks1 else if j % 4 = 1 then rnkL ks1 else if j % 4 = 2 then sortL ks2 else rnkL ks2
theorem LLa_mod (ks1 ks2 : List Con) (j : Nat) : LLa ks1 ks2 (j + 4) = LLa ks1 ks2 j := by unfold LLa; rw [Nat.add_mod_right]

/-- Lists of numbers, each in a block of its own, in a list of their own. -/
structure Lsts (base : Nat) (LL : Nat → List Nat) (W : World) (lv : Value) (vs : List Value) : Prop where
  grow : Grow elSl 45 base W lv vs
  each : ∀ (j : Nat) (v : Value), vs[j]? = some v → (∃ g, v = .slice (some ⟨g, 0, none⟩) (LL j).length (LL j).length) ∧ W.ownsRow base 3 1 v (LL j).length ((LL j).map encI)
  pw : ∀ (i j : Nat) (u v : Value), i ≠ j → vs[i]? = some u → vs[j]? = some v → u.ownBlock ≠ v.ownBlock
  ne : ∀ (i : Nat) (v : Value), vs[i]? = some v → v.ownBlock ≠ lv.ownBlock

theorem Lsts.nil (base : Nat) (LL : Nat → List Nat) (W : World) : Lsts base LL W (.slice none 0 0) [] :=
  ⟨Grow.nil _ _ _ _, fun _ _ h => by simp at h, fun _ _ _ _ _ h => by simp at h, fun _ _ h => by simp at h⟩

theorem Lsts.kept {base : Nat} {LL : Nat → List Nat} {W W' : World} {lv : Value} {vs : List Value} (h : Lsts base LL W lv vs) (hb : Below W.heap.size W W') : Lsts base LL W' lv vs :=
  ⟨h.grow.kept hb, fun j v hv => ⟨(h.each j v hv).1, own_kept6 (h.each j v hv).2 hb⟩, h.pw, h.ne⟩

theorem Lsts.lt {base : Nat} {LL : Nat → List Nat} {W : World} {lv : Value} {vs : List Value} (h : Lsts base LL W lv vs) {j : Nat} {v : Value} (hv : vs[j]? = some v) {b : Nat} (hb : v.ownBlock = some b) : b < W.heap.size := own_lt6 (h.each j v hv).2 b hb

theorem Lsts.pushs {base : Nat} {LL : Nat → List Nat} {W W1 W' : World} {lv lv' : Value} {vs ns : List Value} (h : Lsts base LL W lv vs) (hb : Below W.heap.size W W1)
    (hns : ∀ (i : Nat) (v : Value), ns[i]? = some v → (∃ g, v = .slice (some ⟨g, 0, none⟩) (LL (vs.length + i)).length (LL (vs.length + i)).length ∧ W.heap.size ≤ g) ∧ W1.ownsRow base 3 1 v (LL (vs.length + i)).length ((LL (vs.length + i)).map encI))
    (hpw : ∀ (i j : Nat) (u v : Value), i ≠ j → ns[i]? = some u → ns[j]? = some v → u.ownBlock ≠ v.ownBlock)
    (hg : W1.grownBy W' lv.ownBlock) (hG : Grow elSl 45 base W' lv' (vs ++ ns)) (hat : lv'.ownBlock = lv.ownBlock ∨ ∀ k, lv'.ownBlock = some k → W1.heap.size ≤ k) (hsome : ∃ k, lv'.ownBlock = some k) : Lsts base LL W' lv' (vs ++ ns) := by
  have hlv : ∀ k, lv.ownBlock = some k → k < W.heap.size := fun k hk => own_lt6 h.grow.1 k hk
  have hnew : ∀ (i : Nat) (v : Value), ns[i]? = some v → ∃ g, v.ownBlock = some g ∧ W.heap.size ≤ g ∧ g < W1.heap.size := fun i v hv => by
    obtain ⟨⟨g, rfl, hge⟩, hr⟩ := hns i v hv
    exact ⟨g, rfl, hge, own_lt6 hr g rfl⟩
  have hold : ∀ (j : Nat) (v : Value), vs[j]? = some v → ∃ g, v.ownBlock = some g ∧ g < W.heap.size := fun j v hv => by
    obtain ⟨g, hg⟩ := (h.each j v hv).1
    exact ⟨g, by rw [hg]; rfl, h.lt hv (by rw [hg]; rfl)⟩
  have split : ∀ (j : Nat) (v : Value), (vs ++ ns)[j]? = some v → vs[j]? = some v ∨ (vs.length ≤ j ∧ ns[j - vs.length]? = some v) := fun j v hv => by
    rcases Nat.lt_or_ge j vs.length with hlt | hge
    · rw [List.getElem?_append_left hlt] at hv; exact .inl hv
    · rw [List.getElem?_append_right hge] at hv; exact .inr ⟨hge, hv⟩
  have hneL : ∀ (v : Value) (g : Nat), v.ownBlock = some g → W.heap.size ≤ g → v.ownBlock ≠ lv.ownBlock := fun v g e hge e2 => by
    have := hlv g (by rw [← e2]; exact e)
    omega
  refine ⟨hG, fun j v hv => ?_, fun i j u v hij hu hv => ?_, fun i v hv => ?_⟩
  · rcases split j v hv with hv | ⟨hge, hv⟩
    · exact ⟨(h.each j v hv).1, (own_kept6 (h.each j v hv).2 hb).kept hg (.inr (h.ne j v hv))⟩
    · obtain ⟨⟨g, e, hge2⟩, hr⟩ := hns _ v hv
      rw [show vs.length + (j - vs.length) = j by omega] at e hr
      exact ⟨⟨g, e⟩, hr.kept hg (.inr (hneL v g (by rw [e]; rfl) hge2))⟩
  · rcases split i u hu with hu | ⟨hi, hu⟩ <;> rcases split j v hv with hv | ⟨hj, hv⟩
    · exact h.pw i j u v hij hu hv
    · obtain ⟨a, ha, ha2⟩ := hold i u hu
      obtain ⟨b, hb, hb2, _⟩ := hnew _ v hv
      rw [ha, hb]; intro e; cases e; omega
    · obtain ⟨a, ha, ha2⟩ := hold j v hv
      obtain ⟨b, hb, hb2, _⟩ := hnew _ u hu
      rw [ha, hb]; intro e; cases e; omega
    · exact hpw _ _ u v (by omega) hu hv
  · rcases hat with e | e
    · rw [e]
      rcases split i v hv with hv | ⟨hi, hv⟩
      · exact h.ne i v hv
      · obtain ⟨g, hg, hg2, _⟩ := hnew _ v hv
        exact hneL v g hg hg2
    · obtain ⟨k, hk⟩ := hsome
      have hk2 := e k hk
      have hs := hb.size
      rw [hk]
      rcases split i v hv with hv | ⟨hi, hv⟩
      · obtain ⟨g, hg, hg2⟩ := hold i v hv
        rw [hg]; intro e; cases e; omega
      · obtain ⟨g, hg, _, hg2⟩ := hnew _ v hv
        rw [hg]; intro e; cases e; omega

theorem flat_encI (L : List Nat) : (L.map fun x : Nat => (x : Int)).flatMap elInt.cells = L.map encI := by
  induction L with
  | nil => rfl
  | cons a r ih => rw [List.map_cons, List.flatMap_cons, ih]; rfl

theorem Lsts.alo {base : Nat} {LL : Nat → List Nat} {W : World} {b n c : Nat} {vs : List Value} (h : Lsts base LL W (.slice (some ⟨b, 0, none⟩) n c) vs) (hl : ∀ j, (LL j).length ≤ 1048576) (hx : ∀ j x, x ∈ LL j → x < 1048576) : Alo base b W vs 0 ∧ Apt b vs := by
  refine ⟨⟨fun i v hv => sl_at h.grow hv, fun i v hv => ⟨(LL i).map fun x : Nat => (x : Int), Grow.of_own (n := (LL i).length) (by simp) ?_ ?_, by rw [List.length_map]; exact hl i, fun e => absurd e (by omega)⟩⟩, fun i v hv => ?_, fun i j u v hij hu hv => .inr (h.pw i j u v hij hu hv)⟩
  · rw [flat_encI]; exact (h.each i v hv).2
  · intro y hy V F
    obtain ⟨x, hxm, rfl⟩ := List.mem_map.1 hy
    have := hx i x hxm
    exact ⟨by omega, by omega⟩
  · have := h.ne i v hv
    exact this

theorem Lsts.nums {base : Nat} {LL : Nat → List Nat} {W : World} {lv : Value} {vs : List Value} (h : Lsts base LL W lv vs) {j : Nat} {v : Value} (hv : vs[j]? = some v) : ∃ g, v = .slice (some ⟨g, 0, none⟩) (LL j).length (LL j).length ∧ NumsF W (some ⟨g, 0, none⟩) (LL j).length (fun i => (LL j).getD i 0) ∧ g < W.heap.size := by
  obtain ⟨⟨g, rfl⟩, hr⟩ := h.each j v hv
  exact ⟨g, rfl, fun _ => ⟨g, rfl, fun i hi => (own_row hr).1.cell hi⟩, own_lt6 hr g rfl⟩
end Go.Proofs.Ythhoiejjejdffaa

namespace Go.Proofs.Ythhoiejjejdffaa
set_option linter.unusedSimpArgs false
set_option linter.unusedVariables false
open Go.RowKit Go.Maps Go.Shelf Go.Sort Go.Proofs

theorem sortIds_is : SortIdsSaid := by
  intro W base n₀ p m nn cap B g cap' ao ks hT hnd hl hB hrow hgB
  have hglt : n₀ ≤ g ∧ g < W.heap.size := hrow.lt g rfl
  have hgfoot : ¬ foot p m ao g := fun hf => by
    rcases hrow.2 with ⟨h', _⟩ | ⟨g', cap'', cur, hs, hbase, hb, _⟩
    · cases h'
    cases hs
    rcases hf with rfl | rfl | ⟨a, ha, rfl⟩
    · rw [hT.fields] at hb
      simp only [Option.some.injEq, Obj.cells.injEq] at hb
      exact absurd hb.2.1 (by decide)
    · obtain ⟨es, clock, hm⟩ := hT.map.block
      rw [hm] at hb
      exact absurd hb (by simp)
    · rcases hT.row.2 with ⟨e, _⟩ | ⟨g2, cap2, cur2, e, hb2, hh, _⟩
      · rw [ha] at e; exact absurd e (by simp)
      · rw [ha] at e
        simp only [Value.slice.injEq, Option.some.injEq] at e
        rw [e.1] at hb
        rw [hh] at hb
        simp only [Option.some.injEq, Obj.cells.injEq] at hb
        exact absurd hb.2.1 (by decide)
  by_cases h0 : ks.length = 0
  · rw [h0]
    have := AnyF.slices_SortFunc_none (P := Try.prog) { Try.sortInt with } (some ⟨g, 0, none⟩) cap' (.func (.func 45) #[] #[.pointer (some ⟨B, 0, none⟩)]) W
    refine this.mono ?_
    rintro e w' ⟨rfl, rfl⟩
    refine ⟨rfl, ?_, Only.refl _ _⟩
    rw [h0] at hrow
    have hs : sortL ks = [] := List.length_eq_zero_iff.1 (by rw [sortL_len, h0])
    rw [hs]
    exact hrow
  · have : Inhabited (Fin ks.length) := ⟨⟨0, by omega⟩⟩
    have hrow' : W.ownsRow n₀ 3 1 (.slice (some ⟨g, 0, none⟩) ks.length cap') ks.length ((fins ks.length).map encF) := by
      have e : (List.range ks.length).map encI = (fins ks.length).map encF := by rw [← fins_val, List.map_map]; rfl
      rw [e] at hrow; exact hrow
    obtain ⟨hH, hlt⟩ := own_holds1 encF hrow' (fins_len _)
    have eg : ∀ args w, (callFunc 45 args).run Try.prog w = .ok (.enter 45 args) w := enters_of Try.func45 (by kernel_rfl) rfl
    have hcmp : CmpLays1 Try.prog 45 #[.pointer (some ⟨B, 0, none⟩)] encF (cfI ks) g 0 (fins ks.length).toArray.size W := by
      intro q os dk hdk x y
      have ho := only_sorted1 (g := g) (m := q) (w := W) (os := os) (d := dk) encF
      have hT2 := hT.only ho (fun e => hgfoot (.inl e.symm)) (fun e => hgfoot (.inr (.inl e.symm))) (fun a ha e => hgfoot (.inr (.inr ⟨a, ha, e.symm⟩)))
      have hB2 := ho.cell hB (fun e => hgB e.symm)
      have hx : ks[x.val]? = some ks[x] := List.getElem?_eq_getElem x.2
      have hy : ks[y.val]? = some ks[y] := List.getElem?_eq_getElem y.2
      refine (cmpFn_gro hT2 hl hB2 hx hy).mono ?_
      rintro e w' ⟨he, z, hz⟩
      exact ⟨he, z.q, z.os, hz⟩
    have hsz : (fins ks.length).toArray.size = ks.length := by simp [fins_len]
    have := Any.slices_SortFunc_total Try.sortInt encF (fun _ => rfl) (cfI ks) (cfI_swo ks) 45 #[.pointer (some ⟨B, 0, none⟩)] g 0 cap' (fins ks.length).toArray W eg hcmp hH hlt (by rw [hsz]; omega) (cfI_total hnd)
    rw [hsz] at this
    refine this.mono ?_
    rintro e w' ⟨rfl, q, os, hw⟩
    subst hw
    refine ⟨rfl, ?_, only_sorted1 encF⟩
    have h3 := own_sorted1 (m := q) (os := os) (l := (fins ks.length).mergeSort fun x y => !(ltOf (cfI ks)) y x) encF hrow' (by rw [List.length_mergeSort, fins_len])
    have e : (sortL ks).map encI = ((fins ks.length).mergeSort fun x y => !(ltOf (cfI ks)) y x).map encF := by unfold sortL; rw [List.map_map]; rfl
    rw [e]
    exact h3
end Go.Proofs.Ythhoiejjejdffaa

namespace Go.Proofs.Ythhoiejjejdffaa
set_option linter.unusedSimpArgs false
set_option linter.unusedVariables false
open Go.RowKit Go.Maps

theorem ddV_hasF {c : Con} (hv : validC c = true) : ∀ (cs ks : List Con), c ∈ ks ∨ c ∈ cs → c ∈ cs.foldl addV ks := by
  intro cs
  induction cs with
  | nil => intro ks h; exact h.elim id (fun h => by cases h)
  | cons s r ih =>
    intro ks h
    refine ih _ ?_
    rcases h with h | h
    · refine .inl ?_
      unfold addV
      split
      · exact List.mem_append.2 (.inl h)
      · exact h
    · rcases List.mem_cons.1 h with rfl | h
      · refine .inl ?_
        unfold addV
        split
        · simp
        · next hn => exact Classical.byContradiction fun h2 => hn ⟨hv, h2⟩
      · exact .inr h
theorem ddV_has {c : Con} (hv : validC c = true) {cs : List Con} (h : c ∈ cs) : c ∈ ddV cs := ddV_hasF hv cs [] (.inr h)

def conN (n : Int) : Con := ⟨1, n, ⟨#[]⟩⟩
theorem empty_list : (⟨#[]⟩ : ByteArray).toList = [] := by decide +kernel
theorem conN_valid (n : Int) : validC (conN n) = true := by unfold validC conN; simp [empty_list]
theorem conN_ok {n : Int} (h : I64 n) : (conN n).ok := ⟨⟨by show (-9223372036854775808 : Int) ≤ 1; decide, by show (1 : Int) ≤ 9223372036854775807; decide⟩, h, by show 0 ≤ 140737488351232; decide⟩
theorem conN_ne {a b : Int} (h : a ≠ b) : conN a ≠ conN b := fun e => h (by injection e)

theorem two_len {α : Type} {l : List α} {a b : α} (ha : a ∈ l) (hb : b ∈ l) (h : a ≠ b) : 2 ≤ l.length := by
  match l with
  | [] => cases ha
  | [x] => simp at ha hb; exact absurd (ha.trans hb.symm) h
  | _ :: _ :: _ => simp

theorem ddV_two (cs : List Con) : 2 ≤ (ddV (conN 3 :: conN 2 :: cs)).length :=
  two_len (ddV_has (conN_valid 3) (by simp)) (ddV_has (conN_valid 2) (by simp)) (conN_ne (by decide))

def ks3 : List Con := [conN 9, conN 8, conN 7]
theorem ddV_three : ddV ks3 = ks3 := by
  have h1 : addV [] (conN 9) = [conN 9] := if_pos ⟨conN_valid 9, by simp⟩
  have h2 : addV [conN 9] (conN 8) = [conN 9, conN 8] := if_pos ⟨conN_valid 8, by simp; exact conN_ne (by decide)⟩
  have h3 : addV [conN 9, conN 8] (conN 7) = ks3 := if_pos ⟨conN_valid 7, by simp; exact ⟨conN_ne (by decide), conN_ne (by decide)⟩⟩
  show addV (addV (addV [] (conN 9)) (conN 8)) (conN 7) = ks3
  rw [h1, h2, h3]
theorem ks3_nodup : ks3.Nodup := by rw [← ddV_three]; exact ddV_nodup _

theorem cmp_conN (a b : Int) : cmpC (conN a) (conN b) = -1 → a < b := by
  intro h
  rcases cmpC_cases (conN a) (conN b) with ⟨h1, _⟩ | ⟨h1, _⟩ | ⟨_, h1, _⟩ | ⟨_, h1, h2⟩ | ⟨_, h1, h2⟩
  · exact absurd h1 (by simp [conN])
  · exact absurd h1 (by simp [conN])
  · exact h1
  · rw [h2] at h; cases h
  · rw [h2, show (conN a).s = ⟨#[]⟩ from rfl, show (conN b).s = ⟨#[]⟩ from rfl, empty_list] at h; cases h

theorem sort_three : sortL ks3 = [2, 1, 0] := by
  have hs := sortL_is ks3_nodup
  generalize sortL ks3 = L at hs
  have hl : L.length = 3 := hs.len
  match L, hl with
  | [a, b, c], _ =>
    have ha : a < 3 := hs.mem.1 (by simp)
    have hb : b < 3 := hs.mem.1 (by simp)
    have hc : c < 3 := hs.mem.1 (by simp)
    have hsrt := hs.srt
    simp only [List.pairwise_cons, List.mem_cons, List.not_mem_nil, or_false] at hsrt
    obtain ⟨h1, h2, _⟩ := hsrt
    have key : ∀ i j : Nat, i < 3 → j < 3 → (∀ x y, ks3[i]? = some x → ks3[j]? = some y → cmpC x y = -1) → j < i := by
      intro i j hi hj h
      have hv : ∀ k : Nat, k < 3 → ks3[k]? = some (conN (9 - (k : Int))) := by
        intro k hk
        match k, hk with
        | 0, _ => rfl
        | 1, _ => rfl
        | 2, _ => rfl
      have := cmp_conN _ _ (h _ _ (hv i hi) (hv j hj))
      omega
    have p1 := key a b ha hb (h1 b (.inl rfl))
    have p2 := key b c hb hc (h2 c rfl)
    obtain rfl : a = 2 := by omega
    obtain rfl : b = 1 := by omega
    obtain rfl : c = 0 := by omega
    rfl

theorem rnk_three : rnkL ks3 = [2, 1, 0] := by
  unfold rnkL
  rw [sort_three]
  rfl

theorem LLa_len (ks1 ks2 : List Con) (h1 : ks1.Nodup) (h2 : ks2.Nodup) (j : Nat) : (LLa ks1 ks2 j).length = if j % 4 < 2 then ks1.length else ks2.length := by
  unfold LLa
  have := Nat.mod_lt j (show 0 < 4 by decide)
  by_cases e0 : j % 4 = 0
  · rw [if_pos e0, if_pos (by omega)]; exact (sortL_is h1).len
  · rw [if_neg e0]
    by_cases e1 : j % 4 = 1
    · rw [if_pos e1, if_pos (by omega)]; exact rnkL_len _
    · rw [if_neg e1, if_neg (show ¬ j % 4 < 2 by omega)]
      split
      · exact (sortL_is h2).len
      · exact rnkL_len _

theorem rnkL_lt {ks : List Con} (h : ks.Nodup) {x : Nat} (hx : x ∈ rnkL ks) : x < ks.length := by
  unfold rnkL at hx
  obtain ⟨i, hi, rfl⟩ := List.mem_map.1 hx
  have := ((sortL_is h).at (List.mem_range.1 hi)).1
  rw [(sortL_is h).len] at this
  exact this

theorem LLa_lt (ks1 ks2 : List Con) (h1 : ks1.Nodup) (h2 : ks2.Nodup) {n : Nat} (l1 : ks1.length ≤ n) (l2 : ks2.length ≤ n) (j : Nat) {x : Nat} (hx : x ∈ LLa ks1 ks2 j) : x < n := by
  unfold LLa at hx
  split at hx
  · have := (sortL_is h1).mem.1 hx; omega
  · split at hx
    · have := rnkL_lt h1 hx; omega
    · split at hx
      · have := (sortL_is h2).mem.1 hx; omega
      · have := rnkL_lt h2 hx; omega

theorem own_of_row {w : World} {base g n : Nat} {L : List Nat} (hL : L.length = n) (hr : w.rowIs g 3 n (fun i => encI (L.getD i 0))) (hb : base ≤ g) (hn : n ≤ maxLen) : w.ownsRow base 3 1 (.slice (some ⟨g, 0, none⟩) n n) n (L.map encI) := by
  obtain ⟨c, h1, h2, h3⟩ := hr
  refine ⟨by simp [hL], .inr ⟨g, n, c, rfl, hb, h1, Nat.le_refl _, hn, by omega, ?_⟩⟩
  apply List.ext_getElem?
  intro i
  by_cases hi : i < n
  · rw [List.getElem?_take_of_lt (by omega), Array.getElem?_toList, h3 i hi, List.getElem?_map, List.getElem?_eq_getElem (by omega)]
    simp [List.getD_eq_getElem?_getD, hL, hi]
  · rw [List.getElem?_take_eq_none (by omega), List.getElem?_eq_none (by simp; omega)]

theorem sortedL_any {base : Nat} {w : World} {b p m nn cap : Nat} {ao : Option Addr} {ks : List Con} (hT : TableAt b w p m nn ao cap ks) (hnd : ks.Nodup) (hl : ks.length ≤ 65536) (hb : base ≤ w.heap.size) :
    Calls Try.prog 13 #[.pointer (some ⟨p, 0, none⟩)] w fun e w' => ∃ g, e = .returned (.slice (some ⟨g, 0, none⟩) ks.length ks.length) ∧ w'.ownsRow base 3 1 (.slice (some ⟨g, 0, none⟩) ks.length ks.length) ks.length ((sortL ks).map encI) ∧ w.heap.size ≤ g ∧ Below w.heap.size w w' :=
  (sorted_any sortIds_is hT hnd hl).mono fun e w' ⟨g, he, ho, hbl⟩ => ⟨g, he, own_mono6 hb ho, own_new ho g rfl, hbl⟩

theorem ranksL_any {base : Nat} {w : World} {b p m nn cap : Nat} {ao : Option Addr} {ks : List Con} (hT : TableAt b w p m nn ao cap ks) (hnd : ks.Nodup) (hl : ks.length ≤ 65536) (hb : base ≤ w.heap.size) :
    Calls Try.prog 14 #[.pointer (some ⟨p, 0, none⟩)] w fun e w' => ∃ g, e = .returned (.slice (some ⟨g, 0, none⟩) ks.length ks.length) ∧ w'.ownsRow base 3 1 (.slice (some ⟨g, 0, none⟩) ks.length ks.length) ks.length ((rnkL ks).map encI) ∧ w.heap.size ≤ g ∧ Below w.heap.size w w' :=
  (ranks_any sortIds_is hT hnd hl).mono fun e w' ⟨g, he, hr, hg, hbl⟩ => ⟨g, he, own_of_row (rnkL_len ks) (by
    obtain ⟨c, h1, h2, h3⟩ := hr
    refine ⟨c, h1, h2, fun i hi => ?_⟩
    rw [h3 i hi]
    simp [rnkL, hi]) (Nat.le_trans hb hg) (by unfold maxLen; omega), hg, hbl⟩
end Go.Proofs.Ythhoiejjejdffaa

namespace Go.Proofs.Ythhoiejjejdffaa
set_option linter.unusedSimpArgs false
set_option linter.unusedVariables false
open Go.RowKit Go.Maps

theorem own_lit3 {W : World} {base n : Nat} {cs : List Con} (hb : base ≤ W.heap.size) (hn : cs.length = n) (hl : n ≤ maxLen) : (W.alloc (.cells (cs.flatMap cells3).toArray 34)).ownsRow base 34 3 (.slice (some ⟨W.heap.size, 0, none⟩) n n) n (cs.flatMap cells3) := by
  have hs : (cs.flatMap cells3).length = n * 3 := by
    rw [← hn]
    clear hn hl
    induction cs with
    | nil => rfl
    | cons c r ih => rw [List.flatMap_cons, List.length_append, ih, List.length_cons]; simp [cells3]; omega
  exact ⟨hs, .inr ⟨W.heap.size, n, _, rfl, hb, heap_alloc_new _ _, Nat.le_refl _, hl, by simp [hs], by rw [List.take_of_length_le (by simp [hs])]⟩⟩

theorem cons_src3 {w : World} {ao : Option Addr} {len : Nat} {cs : List Con} (h : IsCons w ao len cs) : ∀ ad, ao = some ad → ∀ j u, (cs.flatMap cells3)[j]? = some u → w.cell? (ad.add j) = some u := by
  intro ad ha j u hu
  have hlen : 0 < len := by
    rcases Nat.eq_zero_or_pos len with h0 | h0
    · have : cs = [] := List.length_eq_zero_iff.1 (by rw [h.1]; exact h0)
      subst this; simp at hu
    · exact h0
  obtain ⟨b, off, e, hr⟩ := h.2.2.2 hlen
  rw [ha] at e
  cases e
  have hall : ∀ (l : List Con) (o : Nat), (∀ i c, l[i]? = some c → conAt w b (o + i * 3) c) → ∀ j u, (l.flatMap cells3)[j]? = some u → w.cell? ⟨b, o + j, none⟩ = some u := by
    intro l
    induction l with
    | nil => intro o _ j u hu; simp at hu
    | cons c r ih =>
      intro o hl j u hu
      rw [List.flatMap_cons] at hu
      by_cases hj : j < 3
      · rw [List.getElem?_append_left (by simp [cells3]; exact hj)] at hu
        obtain ⟨x0, x1, x2⟩ := hl 0 c rfl
        match j, hj with
        | 0, _ => simp [cells3] at hu; subst hu; simpa using x0
        | 1, _ => simp [cells3] at hu; subst hu; simpa using x1
        | 2, _ => simp [cells3] at hu; subst hu; simpa using x2
      · rw [List.getElem?_append_right (by simp [cells3]; omega)] at hu
        have := ih (o + 3) (fun i c hc => by have := hl (i + 1) c (by simpa using hc); rwa [show o + (i + 1) * 3 = o + 3 + i * 3 by omega] at this) (j - 3) u (by simpa [cells3] using hu)
        rwa [show o + 3 + (j - 3) = o + j by omega] at this
  rw [addr_add]
  exact hall cs off hr j u hu

theorem cons3_one (cs : List Con) : ∀ u ∈ cs.flatMap cells3, u.oneCell' = true := fun u hu => by
  obtain ⟨c, _, hc⟩ := List.mem_flatMap.1 hu
  simp [cells3] at hc
  rcases hc with rfl | rfl | rfl <;> rfl

theorem isCons_take {w : World} {ao : Option Addr} {len k : Nat} {cs : List Con} (h : IsCons w ao len cs) (hk : k ≤ len) : IsCons w ao k (cs.take k) := by
  refine ⟨by rw [List.length_take, h.1]; omega, by have := h.2.1; omega, fun c hc => h.2.2.1 c (List.mem_of_mem_take hc), fun h0 => ?_⟩
  obtain ⟨b, off, e, hr⟩ := h.2.2.2 (by omega)
  exact ⟨b, off, e, fun i c hc => hr i c (by rw [List.getElem?_take] at hc; split at hc; exact hc; cases hc)⟩

theorem flat3_len (cs : List Con) : (cs.flatMap cells3).length = cs.length * 3 := by
  induction cs with
  | nil => rfl
  | cons c r ih => rw [List.flatMap_cons, List.length_append, ih, List.length_cons]; simp [cells3]; omega
theorem LLa_0 (ks1 ks2 : List Con) (r : Nat) : LLa ks1 ks2 (4 * r + 0) = sortL ks1 := by unfold LLa; rw [if_pos (by omega)]
theorem LLa_1 (ks1 ks2 : List Con) (r : Nat) : LLa ks1 ks2 (4 * r + 1) = rnkL ks1 := by unfold LLa; rw [if_neg (by omega), if_pos (by omega)]
theorem LLa_2 (ks1 ks2 : List Con) (r : Nat) : LLa ks1 ks2 (4 * r + 2) = sortL ks2 := by unfold LLa; rw [if_neg (by omega), if_neg (by omega), if_pos (by omega)]
theorem LLa_3 (ks1 ks2 : List Con) (r : Nat) : LLa ks1 ks2 (4 * r + 3) = rnkL ks2 := by unfold LLa; rw [if_neg (by omega), if_neg (by omega), if_neg (by omega)]

theorem lit_three (W : World) : IsCons (W.alloc (.cells #[.int .i64 1, .int .i64 9, .string ⟨#[]⟩, .int .i64 1, .int .i64 8, .string ⟨#[]⟩, .int .i64 1, .int .i64 7, .string ⟨#[]⟩] 34)) (some ⟨W.heap.size, 0, none⟩) 3 ks3 := by
  have h := own_lit3 (W := W) (base := 0) (n := 3) (cs := ks3) (Nat.zero_le _) rfl (by decide)
  obtain ⟨ao, cap, e, _, hI, _⟩ := holds_cons (cs := ks3) h (fun c hc => by
    simp [ks3] at hc
    rcases hc with rfl | rfl | rfl
    · exact conN_ok ⟨by decide, by decide⟩
    · exact conN_ok ⟨by decide, by decide⟩
    · exact conN_ok ⟨by decide, by decide⟩) (by decide)
  cases e
  exact hI

theorem new4 {W : World} {a b c d : Value} : ∀ j u, ([a, b, c, d].flatMap elSl.cells)[j]? = some u → (W.alloc (.cells #[a, b, c, d] 45)).cell? ⟨W.heap.size, j, none⟩ = some u := fun j u hu => by
  have h := World.news_of_block (w := W.alloc (.cells #[a, b, c, d] 45)) (cs := #[a, b, c, d]) (t := 45) (fr := (0, 0)) (heap_alloc_new W _) j u hu
  rwa [addr_add, Nat.zero_add] at h

/-- Four lists more. -/
theorem Lsts.four {base r : Nat} {ks1 ks2 : List Con} {W Wa Wb Wc Wd W' : World} {lv lv' : Value} {vs : List Value} {g0 g1 g2 g3 : Nat} (h : Lsts base (LLa ks1 ks2) W lv vs) (hv : vs.length = 4 * r) (nd1 : ks1.Nodup) (nd2 : ks2.Nodup)
    (ba : Below W.heap.size W Wa) (bb : Below Wa.heap.size Wa Wb) (bc : Below Wb.heap.size Wb Wc) (bd : Below Wc.heap.size Wc Wd)
    (o0 : Wa.ownsRow base 3 1 (.slice (some ⟨g0, 0, none⟩) ks1.length ks1.length) ks1.length ((sortL ks1).map encI)) (l0 : W.heap.size ≤ g0)
    (o1 : Wb.ownsRow base 3 1 (.slice (some ⟨g1, 0, none⟩) ks1.length ks1.length) ks1.length ((rnkL ks1).map encI)) (l1 : Wa.heap.size ≤ g1)
    (o2 : Wc.ownsRow base 3 1 (.slice (some ⟨g2, 0, none⟩) ks2.length ks2.length) ks2.length ((sortL ks2).map encI)) (l2 : Wb.heap.size ≤ g2)
    (o3 : Wd.ownsRow base 3 1 (.slice (some ⟨g3, 0, none⟩) ks2.length ks2.length) ks2.length ((rnkL ks2).map encI)) (l3 : Wc.heap.size ≤ g3)
    (tmp : Obj) (hg : (Wd.alloc tmp).grownBy W' lv.ownBlock)
    (hG : Grow elSl 45 base W' lv' (vs ++ [.slice (some ⟨g0, 0, none⟩) ks1.length ks1.length, .slice (some ⟨g1, 0, none⟩) ks1.length ks1.length, .slice (some ⟨g2, 0, none⟩) ks2.length ks2.length, .slice (some ⟨g3, 0, none⟩) ks2.length ks2.length]))
    (hat : lv'.ownBlock = lv.ownBlock ∨ ∀ k, lv'.ownBlock = some k → (Wd.alloc tmp).heap.size ≤ k) (hsome : ∃ k, lv'.ownBlock = some k) :
    Lsts base (LLa ks1 ks2) W' lv' (vs ++ [.slice (some ⟨g0, 0, none⟩) ks1.length ks1.length, .slice (some ⟨g1, 0, none⟩) ks1.length ks1.length, .slice (some ⟨g2, 0, none⟩) ks2.length ks2.length, .slice (some ⟨g3, 0, none⟩) ks2.length ks2.length]) := by
  have bda := (Below.refl _ Wd).alloc (Nat.le_refl _) tmp
  have sa := ba.size
  have sb := bb.size
  have sc := bc.size
  have sd := bd.size
  have q0 := own_lt6 o0 g0 rfl
  have q1 := own_lt6 o1 g1 rfl
  have q2 := own_lt6 o2 g2 rfl
  have o0' := own_kept6 (own_kept6 (own_kept6 (own_kept6 o0 bb) bc) bd) bda
  have o1' := own_kept6 (own_kept6 (own_kept6 o1 bc) bd) bda
  have o2' := own_kept6 (own_kept6 o2 bd) bda
  have o3' := own_kept6 o3 bda
  have e0 := LLa_0 ks1 ks2 r
  have e1 := LLa_1 ks1 ks2 r
  have e2 := LLa_2 ks1 ks2 r
  have e3 := LLa_3 ks1 ks2 r
  have s1 := (sortL_is nd1).len
  have s2 := (sortL_is nd2).len
  have r1 := rnkL_len ks1
  have r2 := rnkL_len ks2
  refine h.pushs (((ba.trans (bb.mono sa)).trans (bc.mono (by omega))).trans ((bd.mono (by omega)).trans (bda.mono (by omega)))) ?_ ?_ hg hG hat hsome
  · intro i v hi
    rw [hv]
    match i with
    | 0 => simp only [List.getElem?_cons_zero, Option.some.injEq] at hi; subst hi; rw [e0, s1]; exact ⟨⟨g0, rfl, l0⟩, o0'⟩
    | 1 => simp only [List.getElem?_cons_succ, List.getElem?_cons_zero, Option.some.injEq] at hi; subst hi; rw [e1, r1]; exact ⟨⟨g1, rfl, by omega⟩, o1'⟩
    | 2 => simp only [List.getElem?_cons_succ, List.getElem?_cons_zero, Option.some.injEq] at hi; subst hi; rw [e2, s2]; exact ⟨⟨g2, rfl, by omega⟩, o2'⟩
    | 3 => simp only [List.getElem?_cons_succ, List.getElem?_cons_zero, Option.some.injEq] at hi; subst hi; rw [e3, r2]; exact ⟨⟨g3, rfl, by omega⟩, o3'⟩
    | n + 4 => simp at hi
  · intro i j u v hij hu hv2
    have blk : ∀ (i : Nat) (v : Value), [Value.slice (some ⟨g0, 0, none⟩) ks1.length ks1.length, .slice (some ⟨g1, 0, none⟩) ks1.length ks1.length, .slice (some ⟨g2, 0, none⟩) ks2.length ks2.length, .slice (some ⟨g3, 0, none⟩) ks2.length ks2.length][i]? = some v → (i = 0 ∧ v.ownBlock = some g0) ∨ (i = 1 ∧ v.ownBlock = some g1) ∨ (i = 2 ∧ v.ownBlock = some g2) ∨ (i = 3 ∧ v.ownBlock = some g3) := by
      intro i v hi
      match i with
      | 0 => simp at hi; subst hi; exact .inl ⟨rfl, rfl⟩
      | 1 => simp at hi; subst hi; exact .inr (.inl ⟨rfl, rfl⟩)
      | 2 => simp at hi; subst hi; exact .inr (.inr (.inl ⟨rfl, rfl⟩))
      | 3 => simp at hi; subst hi; exact .inr (.inr (.inr ⟨rfl, rfl⟩))
      | n + 4 => simp at hi
    rcases blk i u hu with ⟨hi, hu⟩ | ⟨hi, hu⟩ | ⟨hi, hu⟩ | ⟨hi, hu⟩ <;> rcases blk j v hv2 with ⟨hj, hv3⟩ | ⟨hj, hv3⟩ | ⟨hj, hv3⟩ | ⟨hj, hv3⟩ <;> rw [hu, hv3] <;> intro e <;> simp only [Option.some.injEq] at e <;> omega
theorem Lsts.get {base : Nat} {LL : Nat → List Nat} {W : World} {b n c : Nat} {vs : List Value} (h : Lsts base LL W (.slice (some ⟨b, 0, none⟩) n c) vs) {j : Nat} (hj : j < vs.length) :
    ∃ g, (∀ V, Below W.heap.size W V → V.cell? ⟨b, j, none⟩ = some (.slice (some ⟨g, 0, none⟩) (LL j).length (LL j).length)) ∧ (∀ V, Below W.heap.size W V → NumsF V (some ⟨g, 0, none⟩) (LL j).length (fun i => (LL j).getD i 0)) := by
  obtain ⟨v, hv⟩ : ∃ v, vs[j]? = some v := ⟨_, List.getElem?_eq_getElem hj⟩
  obtain ⟨g, rfl, hN, hlt⟩ := h.nums hv
  exact ⟨g, fun V hV => kept_cell hV (sl_at h.grow hv), fun V hV => hN.kept hV⟩

theorem lit_nums (W : World) : NumsF (W.alloc (.cells #[.int .i64 2, .int .i64 1, .int .i64 0] 3)) (some ⟨W.heap.size, 0, none⟩) 3 (fun i => [2, 1, 0].getD i 0) := fun _ => by
  refine ⟨W.heap.size, rfl, fun i hi => ?_⟩
  have h := World.news_of_block (w := W.alloc (.cells #[.int .i64 2, .int .i64 1, .int .i64 0] 3)) (cs := #[.int .i64 2, .int .i64 1, .int .i64 0]) (t := 3) (fr := (0, 0)) (heap_alloc_new W _) i
  match i, hi with
  | 0, _ => exact h _ rfl
  | 1, _ => exact h _ rfl
  | 2, _ => exact h _ rfl

theorem ints_three {W : World} {g : Nat} {L : List Nat} (hL : L = [2, 1, 0]) (hN : ∀ V, Below W.heap.size W V → NumsF V (some ⟨g, 0, none⟩) 3 (fun i => L.getD i 0)) (V : World) (hV : Below W.heap.size W V) :
    Calls Try.prog 18 #[.slice (some ⟨g, 0, none⟩) 3 3, .slice (some ⟨V.heap.size, 0, none⟩) 3 3] (V.alloc (.cells #[.int .i64 2, .int .i64 1, .int .i64 0] 3)) fun e w' => e = .returned (.bool true) ∧ Below W.heap.size W w' := by
  subst hL
  have hb := (Below.refl _ V).alloc (Nat.le_refl _) (.cells #[.int .i64 2, .int .i64 1, .int .i64 0] 3)
  have hb2 := hV.trans (hb.mono hV.size)
  exact (ints_same _ _ 3 3 3 _ _ (hN _ hb2) (lit_nums V) (by decide)).mono fun e w' ⟨he, hbl⟩ => ⟨he, hb2.trans (hbl.mono hb2.size)⟩
theorem NumsF.at {V : World} {g n i : Nat} {f : Nat → Nat} (h : NumsF V (some ⟨g, 0, none⟩) n f) (hi : i < n) : V.cell? ⟨g, i, none⟩ = some (.int .i64 (f i : Nat)) := by
  obtain ⟨g', e, hc⟩ := h (by omega)
  cases e
  exact hc i hi

theorem rank_at {ks1 ks2 : List Con} (hnd : ks1.Nodup) {j : Nat} (hj : j < ks1.length) : ∃ R, R < ks1.length ∧ (LLa ks1 ks2 1).getD j 0 = R ∧ (LLa ks1 ks2 0).getD R 0 = j := by
  obtain ⟨h1, h2⟩ := (sortL_is hnd).at hj
  refine ⟨(sortL ks1).idxOf j, by rw [(sortL_is hnd).len] at h1; exact h1, ?_, ?_⟩
  · rw [show LLa ks1 ks2 1 = rnkL ks1 from LLa_1 ks1 ks2 0]
    simp [rnkL, List.getD_eq_getElem?_getD, hj]
  · rw [show LLa ks1 ks2 0 = sortL ks1 from LLa_0 ks1 ks2 0, List.getD_eq_getElem?_getD, h2]
    rfl

/-- A list and the one four places ahead of it. -/
theorem Lsts.back {base : Nat} {ks1 ks2 : List Con} {W : World} {b n c N : Nat} {vs : List Value} (h : Lsts base (LLa ks1 ks2) W (.slice (some ⟨b, 0, none⟩) n c) vs) (hN : ∀ j, (LLa ks1 ks2 j).length ≤ N) (h6 : N ≤ 65536) {q : Nat} (hq : q + 4 < vs.length) :
    ∃ g g' m, (∀ V, Below W.heap.size W V → V.cell? ⟨b, q + 4, none⟩ = some (.slice (some ⟨g, 0, none⟩) m m)) ∧ (∀ V, Below W.heap.size W V → V.cell? ⟨b, q, none⟩ = some (.slice (some ⟨g', 0, none⟩) m m)) ∧
      (∀ V, Below W.heap.size W V → Calls Try.prog 18 #[.slice (some ⟨g, 0, none⟩) m m, .slice (some ⟨g', 0, none⟩) m m] V fun e w' => e = .returned (.bool true) ∧ Below V.heap.size V w') := by
  obtain ⟨g, hc, hn⟩ := h.get (j := q + 4) hq
  obtain ⟨g', hc', hn'⟩ := h.get (j := q) (by omega)
  rw [LLa_mod] at hc hn
  exact ⟨g, g', _, hc, hc', fun V hV => ints_same _ _ _ _ _ _ V (hn V hV) (hn' V hV) (Nat.le_trans (hN q) h6)⟩
end Go.Proofs.Ythhoiejjejdffaa

namespace Go.Proofs.Ythhoiejjejdffaa
set_option linter.unusedSimpArgs false
set_option linter.unusedVariables false
open Go.RowKit Go.Maps

def oneS : ByteArray := ⟨#[111, 110, 101]⟩
def twoS : ByteArray := ⟨#[116, 119, 111]⟩
def behS : ByteArray := ⟨#[98, 101, 104, 105, 110, 100]⟩

theorem foldS_pre : ∀ (r ks : List ByteArray), ∃ t, r.foldl addS ks = ks ++ t := by
  intro r
  induction r with
  | nil => intro ks; exact ⟨[], by simp⟩
  | cons s r ih =>
    intro ks
    rw [List.foldl_cons]
    by_cases h : s ∈ ks
    · rw [show addS ks s = ks from if_pos h]; exact ih ks
    · rw [show addS ks s = ks ++ [s] from if_neg h]
      obtain ⟨t, ht⟩ := ih (ks ++ [s])
      exact ⟨s :: t, by rw [ht]; simp⟩

theorem ddS_two (keys : List ByteArray) : (ddS (oneS :: twoS :: keys))[0]? = some oneS ∧ (ddS (oneS :: twoS :: keys))[1]? = some twoS := by
  have h1 : addS [] oneS = [oneS] := if_neg (by simp)
  have h2 : addS [oneS] twoS = [oneS, twoS] := if_neg (by simp only [List.mem_singleton]; decide)
  obtain ⟨t, ht⟩ := foldS_pre keys [oneS, twoS]
  have : ddS (oneS :: twoS :: keys) = [oneS, twoS] ++ t := by
    rw [← ht]
    show keys.foldl addS (addS (addS [] oneS) twoS) = _
    rw [h1, h2]
  rw [this]
  exact ⟨rfl, rfl⟩

theorem strs_src {w : World} {ao : Option Addr} {len : Nat} {ss : List ByteArray} (h : IsStrs w ao len ss) : ∀ ad, ao = some ad → ∀ j u, (ss.map Value.string)[j]? = some u → w.cell? (ad.add j) = some u := by
  intro ad ha j u hu
  have hlen : 0 < len := by
    rw [← h.1]
    rcases Nat.eq_zero_or_pos ss.length with h0 | h0
    · have : ss = [] := List.length_eq_zero_iff.1 h0
      subst this; simp at hu
    · exact h0
  obtain ⟨b, off, e, hr⟩ := h.2.2.2 hlen
  rw [ha] at e
  cases e
  rw [List.getElem?_map, Option.map_eq_some_iff] at hu
  obtain ⟨s, hs, rfl⟩ := hu
  rw [addr_add]
  exact hr j s hs

theorem strs_one (ss : List ByteArray) : ∀ u ∈ ss.map Value.string, u.oneCell' = true := fun u hu => by
  obtain ⟨s, _, rfl⟩ := List.mem_map.1 hu
  rfl

theorem own_lit1 {W : World} {base n : Nat} {ss : List ByteArray} (hb : base ≤ W.heap.size) (hn : ss.length = n) (hl : n ≤ maxLen) : (W.alloc (.cells (ss.map Value.string).toArray 9)).ownsRow base 9 1 (.slice (some ⟨W.heap.size, 0, none⟩) n n) n (ss.map Value.string) :=
  ⟨by simp [hn], .inr ⟨W.heap.size, n, _, rfl, hb, heap_alloc_new _ _, Nat.le_refl _, hl, by simp [hn], by rw [List.take_of_length_le (by simp [hn])]⟩⟩

/-- A row of strings of one's own: what it holds, and that it may be written. -/
structure RowS (W : World) (g n c : Nat) (ss : List ByteArray) : Prop where
  blk : ∃ cur : Array Value, W.heap[g]? = some (.cells cur 9 (0, 0)) ∧ cur.size = c
  len : ss.length = n
  le : n ≤ c
  at_ : ∀ i s, ss[i]? = some s → W.cell? ⟨g, i, none⟩ = some (.string s)

theorem rowS_of {W : World} {base g n c : Nat} {ss : List ByteArray} (h : W.ownsRow base 9 1 (.slice (some ⟨g, 0, none⟩) n c) n (ss.map Value.string)) (hn : ss.length = n) : RowS W g n c ss := by
  have hat : ∀ i s, ss[i]? = some s → W.cell? ⟨g, i, none⟩ = some (.string s) := fun i s hs => own_at h (by rw [List.getElem?_map, hs]; rfl)
  rcases h.2 with ⟨h', _⟩ | ⟨g', cap', cur, hs, hbase, hb, h1, h2, h3, h4⟩
  · cases h'
  · cases hs
    exact ⟨⟨cur, hb, by omega⟩, hn, h1, hat⟩

theorem RowS.kept {W W' : World} {g n c : Nat} {ss : List ByteArray} (h : RowS W g n c ss) (hb : Below W.heap.size W W') : RowS W' g n c ss := by
  obtain ⟨cur, h1, h2⟩ := h.blk
  exact ⟨⟨cur, (hb.block g (Array.getElem?_eq_some_iff.1 h1).1).trans h1, h2⟩, h.len, h.le, fun i s hs => kept_cell hb (h.at_ i s hs)⟩

theorem RowS.lt {W : World} {g n c : Nat} {ss : List ByteArray} (h : RowS W g n c ss) : g < W.heap.size := by
  obtain ⟨cur, h1, _⟩ := h.blk
  exact (Array.getElem?_eq_some_iff.1 h1).1

theorem RowS.strs {W : World} {g n c m : Nat} {ss : List ByteArray} (h : RowS W g n c ss) (hm : m ≤ n) (h6 : n ≤ 4194304) (hok : ∀ s ∈ ss, s.size ≤ 140737488351232) : IsStrs W (some ⟨g, 0, none⟩) m (ss.take m) := by
  refine ⟨by rw [List.length_take, h.len]; omega, by omega, fun s hs => hok s (List.mem_of_mem_take hs), fun _ => ⟨g, 0, rfl, fun i s hs => ?_⟩⟩
  rw [Nat.zero_add]
  refine h.at_ i s ?_
  rw [List.getElem?_take] at hs
  split at hs
  · exact hs
  · cases hs

theorem blkS_cell {W : World} {g c i : Nat} (h : ∃ cur : Array Value, W.heap[g]? = some (.cells cur 9 (0, 0)) ∧ cur.size = c) (hi : i < c) : (∃ v, W.cell? ⟨g, i, none⟩ = some v) ∧ W.frozen? ⟨g, i, none⟩ = false := by
  obtain ⟨cur, h1, h2⟩ := h
  refine ⟨⟨cur[i]'(by omega), ?_⟩, by simp [World.frozen?, h1]⟩
  simp only [World.cell?, h1]
  simp only [Option.isSome_none, Bool.false_eq_true, if_false]
  exact Array.getElem?_eq_getElem (by omega)

theorem blkS_set {W : World} {g c i : Nat} (h : ∃ cur : Array Value, W.heap[g]? = some (.cells cur 9 (0, 0)) ∧ cur.size = c) (u : Value) : ∃ cur : Array Value, (W.setCell ⟨g, i, none⟩ u).heap[g]? = some (.cells cur 9 (0, 0)) ∧ cur.size = c := by
  obtain ⟨cur, h1, h2⟩ := h
  refine ⟨cur.setIfInBounds i u, ?_, by simp [h2]⟩
  have hlt : g < W.heap.size := (Array.getElem?_eq_some_iff.1 h1).1
  simp [World.setCell, Array.getElem?_modify, h1]
end Go.Proofs.Ythhoiejjejdffaa

namespace Go.Proofs.Ythhoiejjejdffaa
set_option linter.unusedSimpArgs false
set_option linter.unusedVariables false
open Go.RowKit Go.Maps

set_option maxRecDepth 100000 in
set_option maxHeartbeats 16000000 in
theorem symApart_walk (a0 : Option Addr) (len0 cap0 : Nat) (cs : List Con) (a1 : Option Addr) (len1 cap1 : Nat) (keys : List ByteArray) (w : World) (h0 : IsCons w a0 len0 cs) (hc0 : len0 ≤ cap0 ∧ (a0 = none → len0 = 0 ∧ cap0 = 0)) (h1 : IsStrs w a1 len1 keys) (hc1 : len1 ≤ cap1 ∧ (a1 = none → len1 = 0 ∧ cap1 = 0)) (hl : len0 + len1 ≤ 1048576) :
    Calls Try.prog 5 #[.slice a0 len0 cap0, .slice a1 len1 cap1] w fun e w' => e = .returned (.bool true) ∧ Below w.heap.size w w' := by
  obtain ⟨i0, hi0, hz0, hz1, hz2⟩ := info_parts Try.infoC3
  obtain ⟨k, hk⟩ : ∃ k, k = min len0 60000 := ⟨_, rfl⟩
  have HC0 := hide (isCons_take h0 (show k ≤ len0 by omega))
  have HN0 : Hid (a0 = none → k = 0 ∧ cap0 = 0) := fun e => ⟨by have := (hc0.2 e).1; omega, (hc0.2 e).2⟩
  obtain ⟨ls, hls⟩ : ∃ ls, ls = cs.take k := ⟨_, rfl⟩
  rw [← hls] at HC0
  have hkc : k ≤ cap0 := by omega
  have HH1 := hide h1
  have HN1 := hide hc1
  have hle : len0 ≤ cap0 := hc0.1
  have hk6 : k ≤ 60000 := by omega
  have HKm := hide hk
  clear hls h0 h1 hc0 hc1 hk
  go_enter Try.func5, Try.ntmps5
  go_upto_region 1 with fail
  go_cut [0] (fun t wc => t = .slice a0 k cap0 ∧ w = wc)
  case first =>
    have e1 : (min (len0 : Int) 60000).toNat = k := by have := HKm.out; omega
    have e2 : (0 : Int) ≤ min (len0 : Int) 60000 := by omega
    have e3 : min (len0 : Int) 60000 ≤ (cap0 : Int) := by omega
    have HE1 := hide e1
    clear e1
    go_wp2
    all_goals go_meet
    all_goals exact ⟨by rw [HE1.out], rfl⟩
  case rest =>
    obtain ⟨rfl, rfl⟩ := hcut
    clear HKm hle hkc
    have HOK : Hid (∀ c ∈ conN 3 :: conN 2 :: ls, c.ok) := fun c hc => by
      rcases List.mem_cons.1 hc with rfl | hc
      · exact conN_ok ⟨by decide, by decide⟩
      · rcases List.mem_cons.1 hc with rfl | hc
        · exact conN_ok ⟨by decide, by decide⟩
        · exact HC0.out.2.2.1 c hc
    have HLit : Hid ((w.alloc (.cells #[.int .i64 1, .int .i64 3, .string ⟨#[]⟩, .int .i64 1, .int .i64 2, .string ⟨#[]⟩] 34)).ownsRow w.heap.size 34 3 (.slice (some ⟨w.heap.size, 0, none⟩) 2 2) 2 ([conN 3, conN 2].flatMap cells3)) := own_lit3 (cs := [conN 3, conN 2]) (Nat.le_refl _) rfl (by decide)
    have HSrc : Hid (∀ ad, a0 = some ad → ∀ j u, (ls.flatMap cells3)[j]? = some u → (w.alloc (.cells #[.int .i64 1, .int .i64 3, .string ⟨#[]⟩, .int .i64 1, .int .i64 2, .string ⟨#[]⟩] 34)).cell? (ad.add j) = some u) := fun ad ha j u hu => kept_cell ((Below.refl _ w).alloc (Nat.le_refl _) _) (cons_src3 HC0.out ad ha j u hu)
    have HLs : Hid ((ls.flatMap cells3).length = k * 3) := by
      show _ = _
      rw [← HC0.out.1]
      exact flat3_len ls
    go_upto_region 3 with (first
      | (at_builtin; refine wpList_append_any rfl _ _ 32 rfl w.heap.size 34 i0 (.agg #[.int .i64 0, .int .i64 0, .string ⟨#[]⟩]) 3 32 Try.underlying32 hi0 hz0 hz1 hz2 rfl (by decide) _ 2 _ rfl HLit.out a0 k cap0 (ls.flatMap cells3) rfl HN0.out HLs.out HSrc.out (cons3_one _) (by unfold maxLen; omega) (by omega) (by simp) ?_; intro v1 w1 hown1 hgrow1; have hbw : Below w.heap.size w w1 := below_grown ((Below.refl _ w).alloc (Nat.le_refl _) _) HLit.out hgrow1 (by simp); have hH : Holds3 w.heap.size w1 v1 (conN 3 :: conN 2 :: ls) := (by have e1 : (conN 3 :: conN 2 :: ls).length = 2 + k := (by rw [List.length_cons, List.length_cons, HC0.out.1]; omega); unfold Holds3; rw [e1]; exact hown1); obtain ⟨ao1, cp1, rfl, -, hI1, -⟩ := holds_cons hH HOK.out (by rw [List.length_cons, List.length_cons, HC0.out.1]; omega); have HFl := hide (filled_any ao1 _ cp1 _ w1 hI1 (by rw [List.length_cons, List.length_cons, HC0.out.1]; omega)); have HBw := hide hbw; clear hown1 hgrow1 hbw hH hI1)
      | (go_at_call 11; refine HFl.out.mono ?_; rintro e W1 ⟨p1, rfl, m1, v1, hF⟩; have HF := hide hF; clear hF HFl))
    obtain ⟨ks1, hks1⟩ : ∃ ks1, ks1 = ddV (conN 3 :: conN 2 :: ls) := ⟨_, rfl⟩
    have hnd1 : ks1.Nodup := by rw [hks1]; exact ddV_nodup _
    have hn2 : 2 ≤ ks1.length := by rw [hks1]; exact ddV_two ls
    have hn6 : ks1.length ≤ 60002 := by
      have := ddV_len (conN 3 :: conN 2 :: ls) (conN 3 :: conN 2 :: ls).length
      rw [List.take_of_length_le (Nat.le_refl _), ← hks1, List.length_cons, List.length_cons, HC0.out.1] at this
      omega
    rw [← hks1] at HF ⊢
    obtain ⟨nn1, aa1, cc1, -, hT1, -⟩ := HF.out.tab
    have HT1 := hide hT1
    have HB1 : Hid (Below w.heap.size w W1) := HBw.out.trans (HF.out.bel.mono HBw.out.size)
    have HND1 := hide hnd1
    clear HF hks1 hnd1 hT1 HBw HLs HSrc HLit HOK HC0 HN0
    obtain ⟨n1, hn1⟩ : ∃ n1, n1 = ks1.length := ⟨_, rfl⟩
    have HKN := hide hn1
    rw [← hn1] at hn2 hn6 ⊢
    clear hn1
    have q0 : ¬ (n1 : Int) < 2 := by omega
    have HFl := filled_any (some ⟨W1.heap.size, 0, none⟩) 3 3 ks3 _ (lit_three W1) (by decide)
    rw [ddV_three, show ks3.length = 3 from rfl] at HFl
    replace HFl := hide HFl
    go_upto_region 8 with (go_at_call 11; refine HFl.out.mono ?_; rintro e W2 ⟨p2, rfl, m2, v2, hF⟩; have HF := hide hF; clear hF HFl)
    obtain ⟨nn2, aa2, cc2, -, hT2, -⟩ := HF.out.tab
    have HT2 := hide hT2
    have hbl2 := ((Below.refl _ W1).alloc (Nat.le_refl _) (.cells #[.int .i64 1, .int .i64 9, .string ⟨#[]⟩, .int .i64 1, .int .i64 8, .string ⟨#[]⟩, .int .i64 1, .int .i64 7, .string ⟨#[]⟩] 34)).trans (HF.out.bel.mono (by simp))
    have HT1' := hide (HT1.out.grow hbl2)
    have HB2 : Hid (Below w.heap.size w W2) := HB1.out.trans (hbl2.mono HB1.out.size)
    clear HF hT2 HT1 HB1 hbl2
    have hs2 := HB2.out.size
    have HS1 : Hid (∀ V, Below W2.heap.size W2 V → Calls Try.prog 13 #[.pointer (some ⟨p1, 0, none⟩)] V fun e w' => ∃ g, e = .returned (.slice (some ⟨g, 0, none⟩) n1 n1) ∧ w'.ownsRow W2.heap.size 3 1 (.slice (some ⟨g, 0, none⟩) n1 n1) n1 ((sortL ks1).map encI) ∧ V.heap.size ≤ g ∧ Below V.heap.size V w') := fun V hV => by
      have := sortedL_any (base := W2.heap.size) (HT1'.out.grow hV) HND1.out (by rw [← HKN.out]; omega) hV.size
      rwa [← HKN.out] at this
    have HR1 : Hid (∀ V, Below W2.heap.size W2 V → Calls Try.prog 14 #[.pointer (some ⟨p1, 0, none⟩)] V fun e w' => ∃ g, e = .returned (.slice (some ⟨g, 0, none⟩) n1 n1) ∧ w'.ownsRow W2.heap.size 3 1 (.slice (some ⟨g, 0, none⟩) n1 n1) n1 ((rnkL ks1).map encI) ∧ V.heap.size ≤ g ∧ Below V.heap.size V w') := fun V hV => by
      have := ranksL_any (base := W2.heap.size) (HT1'.out.grow hV) HND1.out (by rw [← HKN.out]; omega) hV.size
      rwa [← HKN.out] at this
    have HS2 : Hid (∀ V, Below W2.heap.size W2 V → Calls Try.prog 13 #[.pointer (some ⟨p2, 0, none⟩)] V fun e w' => ∃ g, e = .returned (.slice (some ⟨g, 0, none⟩) 3 3) ∧ w'.ownsRow W2.heap.size 3 1 (.slice (some ⟨g, 0, none⟩) 3 3) 3 ((sortL ks3).map encI) ∧ V.heap.size ≤ g ∧ Below V.heap.size V w') := fun V hV => sortedL_any (base := W2.heap.size) (HT2.out.grow hV) ks3_nodup (by decide) hV.size
    have HR2 : Hid (∀ V, Below W2.heap.size W2 V → Calls Try.prog 14 #[.pointer (some ⟨p2, 0, none⟩)] V fun e w' => ∃ g, e = .returned (.slice (some ⟨g, 0, none⟩) 3 3) ∧ w'.ownsRow W2.heap.size 3 1 (.slice (some ⟨g, 0, none⟩) 3 3) 3 ((rnkL ks3).map encI) ∧ V.heap.size ≤ g ∧ Below V.heap.size V w') := fun V hV => ranksL_any (base := W2.heap.size) (HT2.out.grow hV) ks3_nodup (by decide) hV.size
    clear HT1' HT2
    obtain ⟨i1, hi1, hy0, hy1, hy2⟩ := info_parts Try.infoSl1
    go_wp2
    go_loopw [10, 11] (fun lv i wr => ∃ (r : Nat) (vs : List Value) (a : Option Addr) (cp : Nat), r ≤ 3 ∧ i = .int .i64 r ∧ lv = .slice a (4 * r) cp ∧ Hid (vs.length = 4 * r) ∧ Hid (Lsts W2.heap.size (LLa ks1 ks3) wr lv vs) ∧ Hid (Below W2.heap.size W2 wr)) (fun _ i _ => 3 - (intOf i).toNat)
    case atStart => exact ⟨0, [], none, 0, by omega, rfl, rfl, rfl, Lsts.nil _ _ _, Below.refl _ _⟩
    case round =>
      obtain ⟨r, vs, a, cp, hr, rfl, rfl, HVl, HLs, HBr⟩ := hrel
      by_cases hlt : r < 3
      · have hi : (r : Int) < 3 := by omega
        go_wp2_with (first
          | (go_at_call 13; refine (HS1.out _ HBr.out).mono ?_; rintro e Wa ⟨g0, rfl, o0, l0, b0⟩; have HBa : Hid (Below W2.heap.size W2 Wa) := HBr.out.trans (b0.mono HBr.out.size); have O0 := hide o0; have B0 := hide b0; clear o0 b0 HS1)
          | (go_at_call 14; refine (HR1.out _ HBa.out).mono ?_; rintro e Wb ⟨g1, rfl, o1, l1, b1⟩; have HBb : Hid (Below W2.heap.size W2 Wb) := HBa.out.trans (b1.mono HBa.out.size); have O1 := hide o1; have B1 := hide b1; clear o1 b1 HR1)
          | (go_at_call 13; refine (HS2.out _ HBb.out).mono ?_; rintro e Wc ⟨g2, rfl, o2, l2, b2⟩; have HBc : Hid (Below W2.heap.size W2 Wc) := HBb.out.trans (b2.mono HBb.out.size); have O2 := hide o2; have B2 := hide b2; clear o2 b2 HS2)
          | (go_at_call 14; refine (HR2.out _ HBc.out).mono ?_; rintro e Wd ⟨g3, rfl, o3, l3, b3⟩; have HBd : Hid (Below W2.heap.size W2 Wd) := HBc.out.trans (b3.mono HBc.out.size); have O3 := hide o3; have B3 := hide b3; clear o3 b3 HR2)
          | (at_builtin; refine wpList_pushs_keep elSl (w0 := W2) rfl _ _ 53 rfl W2.heap.size 45 i1 (.slice none 0 0) 24 Try.underlying53 hi1 hy0 hy1 hy2 rfl (by decide) (.slice a (4 * r) cp) vs rfl ((((((HLs.out.kept B0.out).kept B1.out).kept B2.out).kept B3.out).kept ((Below.refl _ Wd).alloc (Nat.le_refl _) _)).grow) [.slice (some ⟨g0, 0, none⟩) n1 n1, .slice (some ⟨g1, 0, none⟩) n1 n1, .slice (some ⟨g2, 0, none⟩) 3 3, .slice (some ⟨g3, 0, none⟩) 3 3] 4 rfl Wd.heap.size 4 rfl new4 (fun z hz _ _ => by rcases List.mem_append.1 hz with h | h; exact HLs.out.grow.2 z h; simp at h; rcases h with rfl | rfl | rfl | rfl <;> rfl) (by rw [HVl.out]; omega) (HBd.out.alloc HBd.out.size _) (by have := HBd.out.size; simp; omega) ?_; intro v' w' hG hkp hBl hgr hat; clear hkp; obtain ⟨b4, c4, hv4, -, -⟩ := hG.out.1.form (by rw [List.length_append]; simp); rw [show (vs ++ [Value.slice (some ⟨g0, 0, none⟩) n1 n1, .slice (some ⟨g1, 0, none⟩) n1 n1, .slice (some ⟨g2, 0, none⟩) 3 3, .slice (some ⟨g3, 0, none⟩) 3 3]).length = 4 * (r + 1) by rw [List.length_append, HVl.out]; simp; omega] at hv4; subst hv4; have HL4 : Hid (Lsts W2.heap.size (LLa ks1 ks3) w' _ _) := (by have := HLs.out.four (ks2 := ks3) HVl.out HND1.out ks3_nodup B0.out B1.out B2.out B3.out (by rw [← HKN.out]; exact O0.out) l0 (by rw [← HKN.out]; exact O1.out) l1 O2.out l2 O3.out l3 _ hgr.out (by rw [← HKN.out]; exact hG.out) hat.out ⟨b4, rfl⟩; rwa [← HKN.out] at this); have HB4 := hide hBl.out; clear hG hBl hgr hat))
        go_roundw
        case rel => exact ⟨r + 1, _, _, c4, by omega, by go_num, rfl, by show _ = _; rw [List.length_append, HVl.out]; simp; omega, HL4, HB4⟩
        case measure => simp [intOf]; omega
      · obtain rfl : r = 3 := by omega
        have hi : ¬ ((3 : Nat) : Int) < 3 := by decide
        obtain ⟨b, cb, hvb, -, -⟩ := HLs.out.grow.1.form (by rw [HVl.out]; decide)
        rw [HVl.out] at hvb
        simp only [Value.slice.injEq] at hvb
        obtain ⟨rfl, -, rfl⟩ := hvb
        have hlen : ∀ j, (LLa ks1 ks3 j).length = if j % 4 < 2 then n1 else 3 := fun j => by have := LLa_len ks1 ks3 HND1.out ks3_nodup j; rw [← HKN.out] at this; exact this
        obtain ⟨g0, hC0, hN0⟩ := HLs.out.get (j := 0) (by rw [HVl.out]; decide)
        obtain ⟨g1, hC1, hN1⟩ := HLs.out.get (j := 1) (by rw [HVl.out]; decide)
        obtain ⟨g2, hC2, hN2⟩ := HLs.out.get (j := 2) (by rw [HVl.out]; decide)
        obtain ⟨g3, hC3, hN3⟩ := HLs.out.get (j := 3) (by rw [HVl.out]; decide)
        rw [hlen 0] at hC0 hN0
        rw [hlen 1] at hC1 hN1
        rw [hlen 2] at hC2 hN2
        rw [hlen 3] at hC3 hN3
        simp only [Nat.zero_mod, Nat.one_mod_eq_one, Nat.reduceMod, Nat.reduceLT, if_true, if_false, Nat.lt_irrefl] at hC0 hN0 hC1 hN1 hC2 hN2 hC3 hN3
        have HC0 := hide hC0
        have HC1 := hide hC1
        have HC3 := hide hC3
        have HM0 := hide hN0
        have HM1 := hide hN1
        have HI2 := hide (ints_three (LLa_2 ks1 ks3 0 ▸ sort_three) hN2 wr (Below.refl _ _))
        have HI3 := hide (ints_three (LLa_3 ks1 ks3 0 ▸ rnk_three) hN3)
        have x2 := hC2 wr (Below.refl _ _)
        have HBW : Hid (Below w.heap.size w wr) := HB2.out.trans (HBr.out.mono hs2)
        clear hC0 hC1 hC2 hC3 hN0 hN1 hN2 hN3
        go_upto_region 15 with (first
          | (go_at_call 18; refine HI2.out.mono ?_; rintro e V1 ⟨rfl, hb1⟩; have HV1 := hide hb1; have x3 := HC3.out V1 hb1; clear HI2 hb1)
          | (go_at_call 18; refine (HI3.out V1 HV1.out).mono ?_; rintro e V2 ⟨rfl, hb2⟩; have HV2 := hide hb2; have x0 := HC0.out V2 hb2; have x1 := HC1.out V2 hb2; clear HI3 hb2))
        clear x0 x1 x2 x3 HV1
        go_wp2
        go_loopw [12, 13] (fun i _ wl => ∃ j : Nat, j ≤ n1 ∧ i = .int .i64 j ∧ Hid (Below wr.heap.size wr wl)) (fun i _ _ => n1 - (intOf i).toNat)
        case atStart => exact ⟨0, by omega, rfl, HV2⟩
        case round =>
          rename World => wl
          obtain ⟨j, hj, rfl, HVl2⟩ := hrel
          by_cases hlj : j < n1
          · have hi2 : (j : Int) < (n1 : Int) := by omega
            obtain ⟨R, hR, hR1, hR2⟩ := rank_at (ks2 := ks3) HND1.out (show j < ks1.length by rw [← HKN.out]; exact hlj)
            rw [← HKN.out] at hR
            have y1 := (HM1.out wl HVl2.out).at hlj
            have y0 := (HM0.out wl HVl2.out).at hR
            rw [hR1] at y1
            rw [hR2] at y0
            have x0 := HC0.out wl HVl2.out
            have x1 := HC1.out wl HVl2.out
            have q1 : ¬ (R : Int) < 0 := by omega
            have q2 : ¬ (n1 : Int) ≤ (R : Int) := by omega
            have q3 : (R : Int) < (n1 : Int) := by omega
            clear hR1 hR2
            go_wp2
            go_roundw
            case rel => exact ⟨j + 1, by omega, by go_num, HVl2⟩
            case measure => simp [intOf]; omega
          · obtain rfl : j = n1 := by omega
            have hi2 : ¬ (j : Int) < (j : Int) := by omega
            go_wp2
            have HLsN : Hid (∀ i, (LLa ks1 ks3 i).length ≤ j + 3) := fun i => by have := hlen i; rw [this]; split <;> omega
            clear HC0 HC1 HC3 HM0 HM1 hlen
            go_loopw [14] (fun i wm => ∃ q : Nat, q ≤ 8 ∧ i = .int .i64 (q + 4 : Nat) ∧ Hid (Below wr.heap.size wr wm)) (fun i _ => 12 - (intOf i).toNat)
            case atStart => exact ⟨0, by omega, rfl, HVl2⟩
            case round =>
              rename World => wm
              obtain ⟨q, hq, rfl, HVm⟩ := hrel
              by_cases hlq : q < 8
              · have hi3 : ((q + 4 : Nat) : Int) < 12 := by omega
                have hi4 : (q : Int) + 4 < 12 := by omega
                have hi5 : (q : Int) < 12 := by omega
                obtain ⟨ga, gb, mm, hca, hcb, hin⟩ := HLs.out.back (N := j + 3) HLsN.out (by omega) (q := q) (by rw [HVl.out]; omega)
                have xa := hca wm HVm.out
                have xb := hcb wm HVm.out
                have HIn := hide hin
                clear hca hcb hin
                go_wp2
                refine wp_region_over (fun W => wm = W) (by kernel_rfl) (by kernel_rfl) rfl ?_
                rintro _ rfl
                have xa' := over_cell xa
                have xb' := over_cell xb
                have G1 := hide (fun v => calls_over (HIn.out (over wm v) (HVm.out.trans ((over_below wm v).mono HVm.out.size))))
                repeat (go_big_quiet_step ((go_at_call 18; exact G1.out _)))
                refine wpQuiet_nil ?_
                rintro _ ⟨y, rfl⟩
                have HVn : Hid (Below wr.heap.size wr (over wm y)) := HVm.out.trans ((over_below wm y).mono HVm.out.size)
                clear xa xb xa' xb' G1 HIn
                generalize over wm y = wn at *
                go_wp2
                go_roundw
                case rel => exact ⟨q + 1, by omega, by go_num, HVn⟩
                case measure => simp [intOf]; omega
              · obtain rfl : q = 8 := by omega
                have hi3 : ¬ ((8 + 4 : Nat) : Int) < 12 := by omega
                go_upto_region 26 with fail
                have hLm := HLs.out.kept HVm.out
                obtain ⟨hAlo, hApt⟩ := hLm.alo (fun i => by have := HLsN.out i; omega) (fun i x hx => LLa_lt ks1 ks3 HND1.out ks3_nodup (n := 1048576) (by rw [← HKN.out]; omega) (by decide) i hx)
                have hs0 := HVm.out.size
                have hsr := HBr.out.size
                have hnum := numbers_any (c := cp) hAlo hApt (by rw [HVl.out]; decide) (by omega)
                rw [HVl.out] at hnum
                have HNum := hide hnum
                have HBM : Hid (Below w.heap.size w wm) := HBW.out.trans (HVm.out.mono HBW.out.size)
                clear hLm hAlo hApt hnum HLsN HLs HVl HVm HVl2 HV2 HBW HBr HKN HND1
                go_upto_region 28 with (go_at_call 19; refine HNum.out.mono ?_; rintro e VN ⟨rfl, hbn⟩; have HBN : Hid (Below w.heap.size w VN) := HBM.out.trans (hbn.mono hs2); clear hbn HNum)
                clear HBM hs0 hsr hs2 HB2
                have hsN := HBN.out.size
                obtain ⟨i2, hi2s, hs0', hs1', hs2'⟩ := info_parts Try.infoStr
                have HK1 := hide (strs_kept0 HH1.out HBN.out)
                have HLit : Hid ((VN.alloc (.cells #[.string ⟨#[111, 110, 101]⟩, .string ⟨#[116, 119, 111]⟩] 9)).ownsRow VN.heap.size 9 1 (.slice (some ⟨VN.heap.size, 0, none⟩) 2 2) 2 ([oneS, twoS].map Value.string)) := own_lit1 (ss := [oneS, twoS]) (Nat.le_refl _) rfl (by decide)
                have HSrc : Hid (∀ ad, a1 = some ad → ∀ j u, (keys.map Value.string)[j]? = some u → (VN.alloc (.cells #[.string ⟨#[111, 110, 101]⟩, .string ⟨#[116, 119, 111]⟩] 9)).cell? (ad.add j) = some u) := fun ad ha j u hu => kept_cell ((Below.refl _ VN).alloc (Nat.le_refl _) _) (strs_src HK1.out ad ha j u hu)
                have HKl : Hid ((keys.map Value.string).length = len1 * 1) := by show _ = _; rw [List.length_map, HH1.out.1, Nat.mul_one]
                have hl1 : len1 ≤ 1048576 := by omega
                go_upto_region 29 with (first
                  | (at_builtin; refine wpList_append_any rfl _ _ 22 rfl VN.heap.size 9 i2 (.string ⟨#[]⟩) 1 16 Try.underlying22 hi2s hs0' hs1' hs2' rfl (by decide) _ 2 _ rfl HLit.out a1 len1 cap1 (keys.map Value.string) rfl HN1.out.2 HKl.out HSrc.out (strs_one _) (by unfold maxLen; omega) (by omega) (by simp) ?_; intro v5 w5 hown5 hgrow5; have HB5 : Hid (Below VN.heap.size VN w5) := below_grown ((Below.refl _ VN).alloc (Nat.le_refl _) _) HLit.out hgrow5 (by simp); have HO5 := hide hown5; have hs5 := HB5.out.size; clear hown5 hgrow5 HLit HSrc)
                  | (at_builtin; refine wpList_append_any rfl _ _ 22 rfl VN.heap.size 9 i2 (.string ⟨#[]⟩) 1 16 Try.underlying22 hi2s hs0' hs1' hs2' rfl (by decide) v5 (2 + len1) _ rfl (own_kept6 HO5.out ((Below.refl _ w5).alloc (Nat.le_refl _) _)) (some ⟨w5.heap.size, 0, none⟩) 1 1 ([behS].map Value.string) rfl (fun h => by cases h) rfl (fun ad ha j u hu => by cases ha; exact World.news_of_block (cs := #[.string ⟨#[98, 101, 104, 105, 110, 100]⟩]) (t := 9) (fr := (0, 0)) (heap_alloc_new w5 _) j u hu) (strs_one _) (by unfold maxLen; omega) (by omega) (by simp; omega) ?_; intro v6 w6 hown6 hgrow6; have HB6 : Hid (Below VN.heap.size VN w6) := below_grown (HB5.out.alloc HB5.out.size _) (own_kept6 HO5.out ((Below.refl _ w5).alloc (Nat.le_refl _) _)) hgrow6 (by simp; omega); obtain ⟨g, c6, hv6, -, -⟩ := hown6.form (by omega); subst hv6; have HO6 := hide hown6; clear hown6 hgrow6))
                obtain ⟨ss, hss⟩ : ∃ ss, ss = oneS :: twoS :: keys := ⟨_, rfl⟩
                have hssl : ss.length = len1 + 2 := by rw [hss, List.length_cons, List.length_cons, HH1.out.1]
                have hR6 : RowS w6 g (2 + len1 + 1) c6 (ss ++ [behS]) := rowS_of (by
                  have := HO6.out
                  rw [← List.map_append, ← List.map_append] at this
                  rw [hss]; exact this) (by rw [List.length_append, hssl]; simp; omega)
                have hgN : VN.heap.size ≤ g := own_new HO6.out g rfl
                have hSok : ∀ s ∈ ss, s.size ≤ 140737488351232 := fun s hs => by
                  rw [hss] at hs
                  rcases List.mem_cons.1 hs with rfl | hs
                  · decide
                  · rcases List.mem_cons.1 hs with rfl | hs
                    · decide
                    · exact HH1.out.2.2.1 s hs
                have hIs : IsStrs w6 (some ⟨g, 0, none⟩) (len1 + 2) ss := by
                  have := hR6.strs (m := len1 + 2) (by omega) (by omega) (fun s hs => by
                    rcases List.mem_append.1 hs with hs | hs
                    · exact hSok s hs
                    · simp at hs; subst hs; decide)
                  rwa [List.take_left' hssl] at this
                have hc6 := hR6.le
                have hglt := hR6.lt
                have HR6 := hide hR6
                have HIs := hide hIs
                have HSS := hide hss
                have HSL := hide hssl
                have HSok := hide hSok
                have HNw := hide (newStr_any (some ⟨g, 0, none⟩) (len1 + 2) c6 ss w6 (base := w6.heap.size) (Nat.le_refl _) hIs (by omega))
                clear hR6 hIs hss hssl hSok HO6 HO5
                have z1 : (0 : Int) ≤ (len1 : Int) + 2 := by omega
                have z2 : (len1 : Int) + 2 ≤ (c6 : Int) := by omega
                have z3 : ((len1 : Int) + 2).toNat = len1 + 2 := by omega
                go_upto_region 31 with (go_at_call 8; refine HNw.out.mono ?_; rintro e W7 ⟨rfl, hc7⟩; have HC7 := hide hc7.out; clear hc7 HNw)
                obtain ⟨n7, ao7, cap7, hI7, hn7, hb7, ha7⟩ := HC7.out
                have HR7 := hide (HR6.out.kept hb7)
                have HEn := hide (ends_any (cap := c6) (strs_kept0 HIs.out hb7) (by omega) (by omega))
                have HB7 : Hid (Below w.heap.size w W7) := (HBN.out.trans (HB6.out.mono hsN)).trans (hb7.mono (by have := HB6.out.size; omega))
                have HI7 := hide hI7
                have HF7 : Hid (∀ q, foot (w6.heap.size + 1) w6.heap.size ao7 q → w6.heap.size ≤ q) := fun q hq => (hI7.foot_lt (by decide) hq).2
                clear HC7 hI7 hb7 ha7 HR6 HIs HB6 HB5 HBN
                have z4 : (len1 : Int) + 2 < (2 + len1 + 1 : Nat) := by omega
                go_upto_region 33 with (go_at_call 20; refine HEn.out.mono ?_; rintro e W8 ⟨rfl, hb8⟩; have HR8 := hide (HR7.out.kept hb8); have HB8 : Hid (Below w.heap.size w W8) := HB7.out.trans (hb8.mono HB7.out.size); have HI8 := hide (HI7.out.grow hb8); have y0 := HR8.out.at_ 0 oneS (by rw [HSS.out]; rfl); have y1 := HR8.out.at_ 1 twoS (by rw [HSS.out]; rfl); have y2 := HR8.out.at_ (len1 + 2) behS (by rw [List.getElem?_append_right (by rw [HSL.out]; exact Nat.le_refl _), HSL.out]; simp); unfold oneS at y0; unfold twoS at y1; unfold behS at y2; clear hb8 HEn)
                clear y0 y1 y2 HR7 HB7 HI7 HK1 HKl z1 z2 z3 z4
                go_wp2
                go_loopw [18] (fun i wa => ∃ q : Nat, q ≤ len1 ∧ i = .int .i64 q ∧ Hid (Below W8.heap.size W8 wa)) (fun i _ => len1 - (intOf i).toNat)
                case atStart => exact ⟨0, by omega, rfl, Below.refl _ _⟩
                case round =>
                  rename World => wa
                  obtain ⟨q, hq2, rfl, HA⟩ := hrel
                  by_cases hlq2 : q < len1
                  · have c1 : (q : Int) < (len1 : Int) := by omega
                    obtain ⟨bk, off, rfl, hr⟩ := HH1.out.2.2.2 (by omega)
                    obtain ⟨t, ht⟩ : ∃ t, keys[q]? = some t := ⟨_, List.getElem?_eq_getElem (by rw [HH1.out.1]; exact hlq2)⟩
                    have x1 := kept_cell HA.out (kept_cell HB8.out (hr q t ht))
                    have x2 := (HR8.out.kept HA.out).at_ (q + 2) t (by rw [List.getElem?_append_left (by rw [HSL.out]; omega), HSS.out]; simpa using ht)
                    have c2 : (q : Int) + 2 < (len1 + 2 : Nat) := by omega
                    have c3 : (0 : Int) ≤ (q : Int) + 2 := by omega
                    clear hr ht
                    go_wp2
                    go_quiet (fail)
                    go_wp2
                    go_roundw
                    case rel => exact ⟨q + 1, by omega, by go_num, HA.out.trans (below_drewN _ _ _)⟩
                    case measure => simp [intOf]; omega
                  · obtain rfl : len1 = q := by omega
                    have c1 : ¬ (len1 : Int) < (len1 : Int) := by omega
                    have HRa := hide (HR8.out.kept HA.out)
                    have HIa := hide (HI8.out.grow HA.out)
                    have HBa : Hid (Below w.heap.size w wa) := HB8.out.trans (HA.out.mono HB8.out.size)
                    have HLn := lenStr_any HIa.out
                    have HLd := ddS_len ss
                    rw [HSL.out] at HLd
                    obtain ⟨m7, hm7⟩ : ∃ m7, m7 = (ddS ss).length := ⟨_, rfl⟩
                    have HM7 := hide hm7
                    rw [← hm7] at HLn HLd
                    replace HLn := hide HLn
                    have hga := HRa.out.lt
                    clear HR8 HI8 HB8 HA hm7
                    go_wp2_with (go_at_call 21; refine HLn.out.mono ?_; rintro e w' ⟨rfl, hw'⟩; have hw' := hw'.symm; subst hw')
                    go_loopw [19] (fun i wb => ∃ q : Nat, q ≤ len1 + 2 ∧ i = .int .i64 q ∧ Hid (∃ cur : Array Value, wb.heap[g]? = some (.cells cur 9 (0, 0)) ∧ cur.size = c6) ∧ Hid (Only (fun k => k = g) wa wb)) (fun i _ => len1 + 2 - (intOf i).toNat)
                    case atStart => exact ⟨0, by omega, rfl, HRa.out.blk, Only.refl _ _⟩
                    case round =>
                      rename World => wb
                      obtain ⟨q, hq3, rfl, HBk, HOb⟩ := hrel
                      by_cases hlq3 : q < len1 + 2
                      · have c4 : (q : Int) < (len1 + 2 : Nat) := by omega
                        have c5 : (q : Int) < (len1 : Int) + 2 := by omega
                        obtain ⟨⟨v9, x9⟩, f9⟩ := blkS_cell HBk.out (i := q) (by omega)
                        go_wp2
                        go_roundw
                        case rel => exact ⟨q + 1, by omega, by go_num, blkS_set HBk.out _, HOb.out.setCell (p := ⟨g, q, none⟩) rfl _⟩
                        case measure => simp [intOf]; omega
                      · obtain rfl : q = len1 + 2 := by omega
                        have c4 : ¬ ((len1 + 2 : Nat) : Int) < (len1 + 2 : Nat) := by omega
                        have hI9 : StrIds w6.heap.size wb (w6.heap.size + 1) w6.heap.size n7 ao7 cap7 (ddS ss) := HIa.out.only HOb.out (by omega) (by omega) (fun a ha => by have := HF7.out a.block (.inr (.inr ⟨a, ha, rfl⟩)); omega)
                        have HBb : Hid (Below w.heap.size w wb) := HBa.out.trans (HOb.out.below HBa.out.size (by omega))
                        obtain ⟨hk0, hk1⟩ := ddS_two keys
                        rw [← HSS.out] at hk0 hk1
                        have hml : (ddS ss).length < 2199023255552 := by rw [← HM7.out]; omega
                        have HA0 := hide (atStr_in hI9 hml hk0)
                        have HA1 := hide (atStr_in hI9 hml hk1)
                        have HF0 := hide (findStr_some hI9 (by decide) hk0)
                        have HF1 := hide (findStr_some hI9 (by decide) hk1)
                        have HI9 := hide hI9
                        have HML := hide hml
                        clear hI9 hk0 hk1 HIa HRa HBa HBk HOb HLn hml
                        unfold oneS at HA0 HF0
                        unfold twoS at HA1 HF1
                        go_upto_region 47 with (first
                          | (go_at_call 22; refine HA0.out.mono ?_; rintro e w' ⟨rfl, hw'⟩; have hw' := hw'.symm; subst hw'; clear HA0)
                          | (go_at_call 22; refine HA1.out.mono ?_; rintro e w' ⟨rfl, hw'⟩; have hw' := hw'.symm; subst hw'; clear HA1)
                          | (go_at_call 23; refine HF0.out.mono ?_; rintro e w' ⟨rfl, hw'⟩; have hw' := hw'.symm; subst hw'; clear HF0)
                          | (go_at_call 23; refine HF1.out.mono ?_; rintro e w' ⟨rfl, hw'⟩; have hw' := hw'.symm; subst hw'; clear HF1))
                        go_wp2
                        go_loopw [24, 25, 26, 27] (fun i _ _ _ wc => ∃ q : Nat, q ≤ len1 ∧ i = .int .i64 q ∧ Hid (Below wb.heap.size wb wc)) (fun i _ _ _ _ => len1 - (intOf i).toNat)
                        case atStart => exact ⟨0, by omega, rfl, Below.refl _ _⟩
                        case round =>
                          rename World => wc
                          obtain ⟨q, hq4, rfl, HC⟩ := hrel
                          by_cases hlq4 : q < len1
                          · have c6' : (q : Int) < (len1 : Int) := by omega
                            obtain ⟨bk, off, rfl, hr⟩ := HH1.out.2.2.2 (by omega)
                            obtain ⟨t, ht⟩ : ∃ t, keys[q]? = some t := ⟨_, List.getElem?_eq_getElem (by rw [HH1.out.1]; exact hlq4)⟩
                            have x1 := kept_cell HC.out (kept_cell HBb.out (hr q t ht))
                            have htm : t ∈ ddS ss := ddS_mem0.2 (by rw [HSS.out]; simp [List.mem_of_getElem? ht])
                            obtain ⟨i, hi9⟩ := List.mem_iff_getElem?.1 htm
                            have hlt9 : i < m7 := by rw [HM7.out]; exact (List.getElem?_eq_some_iff.1 hi9).1
                            have HFi := hide (findStr_some (HI9.out.grow HC.out) (by have := HSok.out t (ddS_mem0.1 htm); unfold maxLen; omega) hi9)
                            have HAi := hide (atStr_in (HI9.out.grow HC.out) HML.out hi9)
                            have c7 : ¬ (i : Int) < 0 := by omega
                            have c8 : ¬ (m7 : Int) ≤ (i : Int) := by omega
                            clear hr ht htm hi9
                            go_wp2_with (first
                              | (go_at_call 23; refine HFi.out.mono ?_; rintro e w' ⟨rfl, hw'⟩; have hw' := hw'.symm; subst hw')
                              | (go_at_call 22; refine HAi.out.mono ?_; rintro e w' ⟨rfl, hw'⟩; have hw' := hw'.symm; subst hw'))
                            go_roundw
                            case rel => exact ⟨q + 1, by omega, by go_num, HC⟩
                            case measure => simp [intOf]; omega
                          · obtain rfl : q = len1 := by omega
                            have c6' : ¬ (q : Int) < (q : Int) := by omega
                            go_wp2
                            go_ret
                            exact ⟨rfl, HBb.out.trans (HC.out.mono HBb.out.size)⟩
end Go.Proofs.Ythhoiejjejdffaa
