/- A row of numbers that the sort lays anew, as a list of the caller's own; ids sorted by their constants. -/
import Derived.Test.YtbagefemhidbjaaProg
import Derived.Test.YtbagefemhidbjaaTable
import Derived.Test.YtbagefemhidbjaaCmpLaid
namespace Go.Proofs.Ytbagefemhidbjaa
set_option linter.unusedSimpArgs false
set_option linter.unusedVariables false
open Go.RowKit Go.Maps Go.Sort Go.Proofs

section
variable {α : Type} [Inhabited α]
theorem own_holds1 {w : World} {base g n cap : Nat} {e : TypeId} {l : List α} (enc : α → Value)
    (h : w.ownsRow base e 1 (.slice (some ⟨g, 0, none⟩) n cap) n (l.map enc)) (hl : l.length = n) : Holds enc w g 0 l.toArray ∧ g < w.heap.size := by
  rcases h.2 with ⟨h', _⟩ | ⟨g', cap', cur, hs, hbase, hb, h1, h2, h3, h4⟩
  · cases h'
  cases hs
  refine ⟨?_, (Array.getElem?_eq_some_iff.1 hb).1⟩
  intro j hj
  refine ⟨?_, by simp [World.frozen?, hb]⟩
  have hj' : j < n * 1 := by simpa [hl] using hj
  have e1 : (cur.toList.take (n * 1))[j]? = (l.map enc)[j]? := by rw [h4]
  rw [List.getElem?_take_of_lt hj', List.getElem?_map] at e1
  simp only [World.cell?, hb, Nat.zero_add]
  simp only [Option.isSome_none, Bool.false_eq_true, if_false]
  rw [← Array.getElem?_toList, e1]
  have hj2 : j < l.length := by simpa using hj
  rw [List.getElem?_eq_getElem hj2, getElem!_pos _ j hj]
  simp

theorem own_sorted1 {w : World} {base g n cap m : Nat} {e : TypeId} {os : Array Obj} {xs : List Value} {l : List α} (enc : α → Value)
    (h : w.ownsRow base e 1 (.slice (some ⟨g, 0, none⟩) n cap) n xs) (hl : l.length = n) : (sortWorld enc w g 0 m l.toArray os).ownsRow base e 1 (.slice (some ⟨g, 0, none⟩) n cap) n (l.map enc) := by
  rcases h.2 with ⟨h', _⟩ | ⟨g', cap', cur, hs, hbase, hb, h1, h2, h3, h4⟩
  · cases h'
  cases hs
  have hg : g < w.heap.size := (Array.getElem?_eq_some_iff.1 hb).1
  refine ⟨by simp [hl], .inr ⟨g, cap, putCells enc 0 l.toArray cur, rfl, hbase, ?_, h1, h2, by simp [putCells, h3], ?_⟩⟩
  · unfold sortWorld
    rw [heap_grow_old _ _ (by simpa [putRow, mapBlock, Sort.ahead] using hg)]
    simp [putRow, mapBlock, Sort.ahead, Array.getElem?_modify, hb, onCells]
  · apply List.ext_getElem?
    intro j
    by_cases hj : j < l.length
    · rw [List.getElem?_take_of_lt (by omega), Array.getElem?_toList]
      simp [putCells, hj, show j < cur.size by omega]
    · rw [List.getElem?_take_eq_none (by omega), List.getElem?_eq_none (by simp; omega)]

theorem only_sorted1 {g m : Nat} {w : World} {os : Array Obj} {d : Array α} (enc : α → Value) : Only (fun k => k = g) w (sortWorld enc w g 0 m d os) := by
  refine ⟨rfl, rfl, rfl, ?_, fun j hj hne => ?_⟩
  · simp [sortWorld, putRow, mapBlock, Sort.ahead, grow]
  · unfold sortWorld
    rw [heap_grow_old _ _ (by simpa [putRow, mapBlock, Sort.ahead] using hj)]
    have : g ≠ j := fun e => hne e.symm
    simp [putRow, mapBlock, Sort.ahead, Array.getElem?_modify, this]
end

/-- The order of ids by their constants. -/
def cfI (ks : List Con) (x y : Fin ks.length) : Int := cmpC ks[x] ks[y]
def encF {n : Nat} (x : Fin n) : Value := .int .i64 (x.val : Int)
def encI (x : Nat) : Value := .int .i64 (x : Int)
def fins (n : Nat) : List (Fin n) := List.ofFn fun i => i
theorem fins_len (n : Nat) : (fins n).length = n := by simp [fins]
theorem fins_val (n : Nat) : (fins n).map (·.val) = List.range n := by
  apply List.ext_getElem
  · simp [fins]
  · intro i h1 h2; simp [fins]

theorem cfI_swo (ks : List Con) : SWO (ltOf (cfI ks)) where
  irrefl x := cmpC_swo.irrefl _
  trans x y z h k := cmpC_swo.trans _ _ _ h k
  ntrans x y z h k := cmpC_swo.ntrans _ _ _ h k

theorem cfI_total {ks : List Con} (hnd : ks.Nodup) (x y : Fin ks.length) (h : ltOf (cfI ks) x y = false) (k : ltOf (cfI ks) y x = false) : x = y := by
  have := cmpC_total ks[x] ks[y] h k
  apply Fin.ext
  exact (List.getElem_inj (h₀ := x.2) (h₁ := y.2) hnd).1 this

/-- L is all ids below ks' length, in the order of their constants. -/
structure IdSort (ks : List Con) (L : List Nat) : Prop where
  perm : L.Perm (List.range ks.length)
  srt : L.Pairwise fun i j => ∀ a b, ks[i]? = some a → ks[j]? = some b → cmpC a b = -1

def sortL (ks : List Con) : List Nat := ((fins ks.length).mergeSort fun x y => !(ltOf (cfI ks)) y x).map (·.val)
theorem sortL_len (ks : List Con) : (sortL ks).length = ks.length := by simp [sortL, fins_len]

theorem sortL_is {ks : List Con} (hnd : ks.Nodup) : IdSort ks (sortL ks) := by
  unfold sortL
  have hperm := List.mergeSort_perm (fins ks.length) fun x y => !(ltOf (cfI ks)) y x
  refine ⟨?_, ?_⟩
  · rw [← fins_val]; exact hperm.map _
  · have hs := List.pairwise_mergeSort (le := fun x y => !(ltOf (cfI ks)) y x) (fun a b c h k => by
      simp only [Bool.not_eq_true'] at *
      exact (cfI_swo ks).ntrans _ _ _ k h) (fun a b => by
      cases h : ltOf (cfI ks) b a with
      | false => rfl
      | true =>
        simp only [Bool.not_true, Bool.false_or, Bool.not_eq_true']
        cases k : ltOf (cfI ks) a b with
        | false => rfl
        | true => have := (cfI_swo ks).trans _ _ _ h k; rw [(cfI_swo ks).irrefl] at this; cases this) (fins ks.length)
    have hn : (fins ks.length).Nodup := by
      have : ((fins ks.length).map (·.val)).Nodup := by rw [fins_val]; exact List.nodup_range
      exact (List.pairwise_map.1 this).imp fun h e => h (congrArg _ e)
    have hn2 := hperm.nodup_iff.2 hn
    rw [List.pairwise_map]
    refine List.Pairwise.imp₂ ?_ hs hn2
    intro x y h1 h2 a b ha hb
    simp only [Bool.not_eq_true'] at h1
    have ea : a = ks[x] := by rw [List.getElem?_eq_getElem x.2] at ha; exact (Option.some.inj ha).symm
    have eb : b = ks[y] := by rw [List.getElem?_eq_getElem y.2] at hb; exact (Option.some.inj hb).symm
    subst ea eb
    have h3 : ltOf (cfI ks) x y = true := by
      cases h4 : ltOf (cfI ks) x y with
      | true => rfl
      | false => exact absurd (cfI_total hnd x y h4 h1) h2
    have h5 : cmpC ks[x] ks[y] < 0 := of_decide_eq_true h3
    have h6 := cmpC_rng ks[x] ks[y]
    omega

theorem IdSort.mem {ks : List Con} {L : List Nat} (h : IdSort ks L) {i : Nat} : i ∈ L ↔ i < ks.length := by rw [h.perm.mem_iff, List.mem_range]
theorem IdSort.nodup {ks : List Con} {L : List Nat} (h : IdSort ks L) : L.Nodup := h.perm.nodup_iff.2 List.nodup_range
theorem IdSort.len {ks : List Con} {L : List Nat} (h : IdSort ks L) : L.length = ks.length := by rw [h.perm.length_eq, List.length_range]
theorem IdSort.at {ks : List Con} {L : List Nat} (h : IdSort ks L) {i : Nat} (hi : i < ks.length) : L.idxOf i < L.length ∧ L[L.idxOf i]? = some i := by
  have h1 := List.idxOf_lt_length_of_mem (h.mem.2 hi)
  exact ⟨h1, by rw [List.getElem?_eq_getElem h1, List.getElem_idxOf]⟩
theorem IdSort.back {ks : List Con} {L : List Nat} (h : IdSort ks L) {k i : Nat} (hk : L[k]? = some i) : L.idxOf i = k := by
  obtain ⟨h1, h2⟩ := List.getElem?_eq_some_iff.1 hk
  have hi : i < ks.length := h.mem.1 (h2 ▸ List.getElem_mem h1)
  obtain ⟨h3, h4⟩ := h.at hi
  rw [List.getElem?_eq_getElem h3] at h4
  exact (List.getElem_inj h.nodup).1 ((Option.some.inj h4).trans h2.symm)
/-- An id stands ahead of another just where its constant comes ahead. -/
theorem IdSort.ahead {ks : List Con} {L : List Nat} (h : IdSort ks L) {i j : Nat} {a b : Con} (hi : ks[i]? = some a) (hj : ks[j]? = some b) : (L.idxOf j < L.idxOf i) ↔ cmpC b a = -1 := by
  have h1 : i < ks.length := (List.getElem?_eq_some_iff.1 hi).1
  have h2 : j < ks.length := (List.getElem?_eq_some_iff.1 hj).1
  obtain ⟨p1, p2⟩ := h.at h1
  obtain ⟨q1, q2⟩ := h.at h2
  have hs := List.pairwise_iff_getElem.1 h.srt
  have e1 : L[L.idxOf i] = i := List.getElem_idxOf p1
  have e2 : L[L.idxOf j] = j := List.getElem_idxOf q1
  rcases Nat.lt_trichotomy (L.idxOf j) (L.idxOf i) with hlt | heq | hgt
  · have := hs _ _ q1 p1 hlt
    rw [e1, e2] at this
    exact ⟨fun _ => this b a hj hi, fun _ => hlt⟩
  · have : i = j := by
      have h3 := e1
      simp only [← heq] at h3
      rw [e2] at h3; exact h3.symm
    subst this
    rw [hi] at hj
    cases hj
    rw [cmpC_refl]
    exact ⟨fun h => absurd h (by omega), fun h => absurd h (by omega)⟩
  · have := hs _ _ p1 q1 hgt
    rw [e1, e2] at this
    have h3 := this a b hi hj
    have h4 := cmpC_anti a b
    exact ⟨fun h => absurd h (by omega), fun h => absurd h (by omega)⟩
end Go.Proofs.Ytbagefemhidbjaa
