/- Rows of structs in memory: written over by a copy, and sorted in place. -/
import Derived.Test.YtpkpajjdpiebfaaProg
import Derived.Shelf.SlSortCmp.NoneTotal
import Derived.Sort.OwnSorted
import Derived.Laws.IdiomCopy
import Derived.Below
namespace Go.Proofs.Ytpkpajjdpiebfaa
set_option linter.unusedSimpArgs false
set_option linter.unusedVariables false
open Go.RowKit Go.Sort Go.Proofs

section
variable {α : Type} [Inhabited α]

omit [Inhabited α] in
theorem flat_get (enc : α → List Value) (k : Nat) (hk : ∀ x, (enc x).length = k) (h0 : 0 < k) : ∀ (l : List α) (t : Nat), (l.flatMap enc)[t]? = (l[t / k]?).bind fun x => (enc x)[t % k]?
  | [], t => by simp
  | x :: r, t => by
    rw [List.flatMap_cons]
    by_cases h : t < k
    · rw [List.getElem?_append_left (by rw [hk]; exact h), Nat.div_eq_of_lt h, Nat.mod_eq_of_lt h]; rfl
    · rw [List.getElem?_append_right (by rw [hk]; omega), hk, flat_get enc k hk h0 r (t - k)]
      obtain ⟨u, rfl⟩ : ∃ u, t = u + k := ⟨t - k, by omega⟩
      rw [Nat.add_sub_cancel, Nat.add_div_right _ h0, Nat.add_mod_right]; rfl

theorem flatK_list (enc : α → List Value) (k : Nat) (hk : ∀ x, (enc x).length = k) (h0 : 0 < k) (l : List α) : (flatK enc k l.toArray).toList = l.flatMap enc := by
  apply List.ext_getElem?
  intro t
  rw [flat_get enc k hk h0]
  by_cases h : t < l.length * k
  · have hd : t / k < l.length := (Nat.div_lt_iff_lt_mul h0).2 h
    have hm : t % k < k := Nat.mod_lt _ h0
    rw [List.getElem?_eq_getElem hd]
    show (flatK enc k l.toArray).toList[t]? = (enc l[t / k])[t % k]?
    rw [Array.getElem?_toList, List.getElem?_eq_getElem (l := enc l[t / k]) (by rw [hk]; exact hm)]
    have e := get_flatK enc k l.toArray t (by simpa using h)
    have hs : t < (flatK enc k l.toArray).size := by simpa using h
    rw [getElem!_pos (flatK enc k l.toArray) t hs] at e
    rw [Array.getElem?_eq_getElem hs, e]
    have e2 : l.toArray[t / k]! = l[t / k] := by rw [getElem!_pos l.toArray (t / k) (by simpa using hd)]; rfl
    rw [e2, getElem!_pos (enc l[t / k]) (t % k) (by rw [hk]; exact hm)]
  · have hd : ¬ t / k < l.length := fun h' => h ((Nat.div_lt_iff_lt_mul h0).1 h')
    rw [List.getElem?_eq_none (by simp; omega), List.getElem?_eq_none (by omega)]; rfl

theorem heap_setCells {b : Nat} {e : TypeId} {fr : Nat × Nat} : ∀ (vs : List Value) (o : Nat) (w : World) (cur : Array Value), w.heap[b]? = some (.cells cur e fr) → (w.setCells b o vs).heap[b]? = some (.cells (setMany cur o vs) e fr)
  | [], _, _, _, h => h
  | v :: r, o, w, cur, h => by
    refine heap_setCells r (o + 1) _ (cur.setIfInBounds o v) ?_
    rw [setCell_eq]
    simp [mapBlock, Array.getElem?_modify, h, onCells]

theorem take_setMany (cur : Array Value) (vs : List Value) (h : vs.length ≤ cur.size) : (setMany cur 0 vs).toList.take vs.length = vs := by
  apply List.ext_getElem?
  intro j
  by_cases hj : j < vs.length
  · rw [List.getElem?_take_of_lt hj, Array.getElem?_toList]
    have e := get_setMany vs 0 cur j (by omega)
    have hs : j < (setMany cur 0 vs).size := by simp; omega
    rw [getElem!_pos (setMany cur 0 vs) j hs, if_pos ⟨Nat.zero_le _, by omega⟩, Nat.sub_zero, getElem!_pos vs j hj] at e
    rw [Array.getElem?_eq_getElem hs, e, List.getElem?_eq_getElem hj]
  · rw [List.getElem?_take_eq_none (by omega), List.getElem?_eq_none (by omega)]

theorem own_setCells {w : World} {base k g n cap : Nat} {e : TypeId} {xs vs : List Value} (h : w.ownsRow base e k (.slice (some ⟨g, 0, none⟩) n cap) n xs) (hv : vs.length = n * k) :
    (w.setCells g 0 vs).ownsRow base e k (.slice (some ⟨g, 0, none⟩) n cap) n vs := by
  rcases h.2 with ⟨h0, _⟩ | ⟨g', cap', cur, hs, hbase, hb, h1, h2, h3, h4⟩
  · cases h0
  cases hs
  have hle : vs.length ≤ cur.size := by rw [hv, h3]; exact Nat.mul_le_mul_right _ h1
  exact ⟨hv, .inr ⟨g, cap, _, rfl, hbase, heap_setCells vs 0 w cur hb, h1, h2, by rw [size_setMany]; exact h3, by rw [← hv]; exact take_setMany cur vs hle⟩⟩

theorem own_holdsK {w : World} {base g n cap : Nat} {e : TypeId} {l : List α} (enc : α → List Value) (k : Nat) (hk : ∀ x, (enc x).length = k) (h0 : 0 < k)
    (h : w.ownsRow base e k (.slice (some ⟨g, 0, none⟩) n cap) n (l.flatMap enc)) (hl : l.length = n) : HoldsK enc k w g 0 l.toArray ∧ g < w.heap.size := by
  rcases h.2 with ⟨h', _⟩ | ⟨g', cap', cur, hs, hbase, hb, h1, h2, h3, h4⟩
  · cases h'
  cases hs
  refine ⟨?_, (Array.getElem?_eq_some_iff.1 hb).1⟩
  intro j hj
  refine ⟨?_, by simp [World.frozen?, hb]⟩
  have hj' : j < n * k := by simpa [hl] using hj
  have e1 : (cur.toList.take (n * k))[j]? = (l.flatMap enc)[j]? := by rw [h4]
  rw [List.getElem?_take_of_lt hj', ← flatK_list enc k hk h0] at e1
  simp only [World.cell?, hb, Nat.zero_add]
  simp only [Option.isSome_none, Bool.false_eq_true, if_false]
  rw [← Array.getElem?_toList, e1, Array.getElem?_toList, Array.getElem?_eq_getElem hj, getElem!_pos _ j hj]; rfl

theorem take_putFlat (cur F : Array Value) (h : F.size ≤ cur.size) : (putCells id 0 F cur).toList.take F.size = F.toList := by
  apply List.ext_getElem?
  intro j
  by_cases hj : j < F.size
  · rw [List.getElem?_take_of_lt hj, Array.getElem?_toList]
    simp [putCells, hj, show j < cur.size by omega]
  · rw [List.getElem?_take_eq_none (by omega), List.getElem?_eq_none (by simp; omega)]

theorem own_sorted {w : World} {base g n cap m : Nat} {e : TypeId} {os : Array Obj} {xs : List Value} {l : List α} (enc : α → List Value) (k : Nat) (hk : ∀ x, (enc x).length = k) (h0 : 0 < k)
    (h : w.ownsRow base e k (.slice (some ⟨g, 0, none⟩) n cap) n xs) (hl : l.length = n) : (sortWorldK enc k w g 0 m l.toArray os).ownsRow base e k (.slice (some ⟨g, 0, none⟩) n cap) n (l.flatMap enc) := by
  rcases h.2 with ⟨h', _⟩ | ⟨g', cap', cur, hs, hbase, hb, h1, h2, h3, h4⟩
  · cases h'
  cases hs
  have hg : g < w.heap.size := (Array.getElem?_eq_some_iff.1 hb).1
  have hlen : (l.flatMap enc).length = n * k := by rw [← flatK_list enc k hk h0]; simp [hl]
  refine ⟨hlen, .inr ⟨g, cap, putCells id 0 (flatK enc k l.toArray) cur, rfl, hbase, ?_, h1, h2, by simp [putCells, h3], ?_⟩⟩
  · unfold sortWorldK putRowK
    rw [heap_grow_old _ _ (by simpa [putRow, mapBlock, Sort.ahead] using hg)]
    simp [putRow, mapBlock, Sort.ahead, Array.getElem?_modify, hb, onCells]
  · have := take_putFlat cur (flatK enc k l.toArray) (by simp [h3, hl]; exact Nat.mul_le_mul_right _ h1)
    rw [flatK_list enc k hk h0] at this
    rw [← this]; simp [hl]

theorem below_sorted {B g m : Nat} {a w : World} {os : Array Obj} {d : Array α} (enc : α → List Value) (k : Nat) (h : Below B a w) (hB : B ≤ w.heap.size) (hg : B ≤ g) : Below B a (sortWorldK enc k w g 0 m d os) := by
  refine h.grown (w' := sortWorldK enc k w g 0 m d os) (row := some g) ⟨rfl, rfl, rfl, ?_, fun j hj hne => ?_⟩ hB (fun j hj => by cases hj; exact hg)
  · simp [sortWorldK, putRowK, putRow, mapBlock, Sort.ahead, grow]
  · unfold sortWorldK putRowK
    rw [heap_grow_old _ _ (by simpa [putRow, mapBlock, Sort.ahead] using hj)]
    have : g ≠ j := fun e => hne (by rw [e])
    simp [putRow, mapBlock, Sort.ahead, Array.getElem?_modify, this]

end

theorem run_copy_many {P : Program} (w : World) (dT sT ty elem : TypeId) (k : Nat) (b o dLen dCap : Nat) (a : Addr) (sLen sCap : Nat) (cs : List Value)
    (hu : P.underlying dT = some (.slice elem)) (hs : (P.info? elem).map (·.size) = some k) (hn : cs.length = Nat.min sLen dLen * k)
    (hsrc : ∀ j v, cs[j]? = some v → w.cell? (a.add j) = some v) (hc : ∀ j, j < cs.length → (w.cell? ⟨b, o + j, none⟩).isSome = true) (hf : ∀ j, j < cs.length → w.frozen? ⟨b, o + j, none⟩ = false) (h1 : ∀ v ∈ cs, v.oneCell' = true) :
    (Builtin.copy_ #[dT, sT] ty #[.slice (some ⟨b, o, none⟩) dLen dCap, .slice (some a) sLen sCap]).run P w = .ok (goInt (Nat.min sLen dLen)) (w.setCells b o cs) := by
  have hl := run_loadCells_list (P := P) w a cs hsrc
  have hst := run_storeCells_cells (P := P) b o cs 0 w (by simpa using hc) (by simpa using hf) h1
  cases hq : P.info? elem with
  | none => simp [hq] at hs
  | some i =>
    have hi : i.size = k := by simpa [hq] using hs
    simp [Builtin.copy_, run_underlying hu, Builtin.lenOf, Builtin.firstCells, sizeOf, typeInfo, hq, hi, ← hn, hl, hst]

theorem run_copy_zero {P : Program} (w : World) (dT sT ty elem : TypeId) (k : Nat) (d a : Option Addr) (dLen dCap sLen sCap : Nat) (hu : P.underlying dT = some (.slice elem)) (hs : (P.info? elem).map (·.size) = some k) (hn : Nat.min sLen dLen = 0) :
    (Builtin.copy_ #[dT, sT] ty #[.slice d dLen dCap, .slice a sLen sCap]).run P w = .ok (goInt 0) w := by
  cases hq : P.info? elem with
  | none => simp [hq] at hs
  | some i =>
    have hl : ∀ (x : Addr), (loadCells x 0).run P w = .ok #[] w := fun x => by simpa using run_loadCells_list (P := P) w x [] (by simp)
    cases d <;> cases a <;> simp [Builtin.copy_, run_underlying hu, Builtin.lenOf, Builtin.firstCells, sizeOf, typeInfo, hq, hn, storeCells, hl]

end Go.Proofs.Ytpkpajjdpiebfaa
