/- Ranging over an Ids of constants: All's function gives every id with its constant, in order, to a body that leaves the Ids as it is. The function that Sorted hands to the sort: of two ids it tells how their constants compare; it draws and makes boxes alone. A row of numbers that the sort lays anew, as a list of the caller's own; ids sorted by their constants. (*Table).Sorted: a new list of all ids, in the order of their constants; nothing that was there is changed. (*Table).Ranks: a new list that tells for each id its place in the order; and the two lists as rows. slices.SortFunc, handed ids and Sorted's function: the ids in the order of their constants. -/
import Derived.Test.YtoppnjpajeipdaaGreatDoorProg
import Derived.Test.YtoppnjpajeipdaaGreatDoorTable
import Derived.RangeFuncNested
import Derived.RangeFuncBound
import Derived.RangeFuncCalls
import Derived.RangeFuncLeaves
import Derived.RangeFuncFrom
import Derived.RangeFuncBox
import Derived.Shelf.Abstract
import Derived.Shelf.RegionOpen
import Derived.WalkKit
import Derived.OwnWalkIn
import Derived.TacticsInMore
import Derived.LoopNIn
import Derived.LoopIn
import Derived.Test.YtoppnjpajeipdaaGreatDoorCmpLaid
import Derived.Deep.OwnRows
import Derived.Test.YtoppnjpajeipdaaGreatDoorSortILay
import Derived.Shelf.SlSortCmp.NoneTotal

namespace Go.Proofs.YtoppnjpajeipdaaGreatDoor
set_option linter.unusedSimpArgs false
set_option linter.unusedVariables false
open Go.RowKit Go.Maps Go.Shelf
attribute [local go_sem] Oper.semAt_some

/-- What a round keeps: all that lay below n₀, and the variable in the box Bs. -/
def KpI (n₀ Bs : Nat) (W W' : World) : Prop := Below n₀ W W' ∧ ∀ v t, W.heap[Bs]? = some (.cells #[v] t (0, 0)) → W'.heap[Bs]? = some (.cells #[v] t (0, 0))

theorem kpI_t {n₀ Bs : Nat} {A B C : World} (h : KpI n₀ Bs A B) (k : KpI n₀ Bs B C) : KpI n₀ Bs A C :=
  ⟨h.1.trans k.1, fun v t hv => k.2 v t (h.2 v t hv)⟩

theorem kpI_b {n₀ Bs : Nat} {w : World} (hn : n₀ ≤ w.heap.size) (W : World) (l : Nat) (o o' : Obj) (hl : w.heap.size ≤ l) (ho : W.heap[l]? = some o) (h1 : o.isCells = false) (h2 : o.isWalk = false) : KpI n₀ Bs W (W.putObj l o') := by
  refine ⟨belowK_b hn W l o o' hl ho h1 h2, fun v t hv => ?_⟩
  have hne : l ≠ Bs := by
    rintro rfl
    rw [ho] at hv
    cases hv
    cases h1
  simp only [World.putObj]
  rw [Array.getElem?_setIfInBounds_ne hne]
  exact hv

def encC (x : Nat × Con) : Array Value := #[.int .i64 (x.1 : Int), .agg #[.int .i64 x.2.k, .int .i64 x.2.n, .string x.2.s]]
def uptoC (ks : List Con) (k : Nat) : List (Nat × Con) := (List.range k).map fun j => (j, ks[j]?.getD Con.zero)
theorem uptoC_succ (ks : List Con) (k : Nat) {c : Con} (h : ks[k]? = some c) : uptoC ks (k + 1) = uptoC ks k ++ [(k, c)] := by simp [uptoC, List.range_succ, h]
theorem uptoC_length (ks : List Con) (k : Nat) : (uptoC ks k).length = k := by simp [uptoC]

theorem only_of_below {n₀ : Nat} {w w' : World} (h : Below n₀ w w') (hn : n₀ ≤ w.heap.size) : Only (fun k => n₀ ≤ k) w w' :=
  ⟨h.os, h.tape, h.output, h.size, fun k _ hk => h.block k (by omega)⟩

theorem ids_below {ts : TypeId} {base n₀ : Nat} {w w' : World} {p m n : Nat} {ao : Option Addr} {cap : Nat} {ks : List Con} (h : ConIdsT ts base w p m n ao cap ks) (hb : Below n₀ w w') (hn : n₀ ≤ w.heap.size) (hp : p < n₀) (hm : m < n₀) (ha : ∀ a, ao = some a → a.block < n₀) : ConIdsT ts base w' p m n ao cap ks :=
  h.only (only_of_below hb hn) (by omega) (by omega) (fun a e => by have := ha a e; omega)

theorem box_cell {W : World} {B : Nat} {v : Value} {t : TypeId} (h : W.heap[B]? = some (.cells #[v] t (0, 0))) : W.cell? ⟨B, 0, none⟩ = some v := by
  simp only [World.cell?, h]
  simp only [Option.isSome_none, Bool.false_eq_true, if_false]
  rfl

set_option maxRecDepth 100000 in
set_option maxHeartbeats 2000000 in
theorem allCon1_in (n : Nat) (hn : 1 ≤ n) {ts tb : TypeId} {base l Bs n₀ p m nn cap : Nat} {ao : Option Addr} {ks : List Con} (J Jx : List (Nat × Con) → World → Prop)
    (hY : ∀ pre x W, J pre W → pre.length < ks.length → YieldAt Fence.wide (n - 1) Tryz.prog l (encC x) W fun e W' =>
      (e = .returned (.bool true) ∧ J (pre ++ [x]) W' ∧ KpI n₀ Bs W W') ∨ (e = .returned (.bool false) ∧ Jx (pre ++ [x]) W'))
    (W : World) (hT : ConIdsT ts base W p m nn ao cap ks) (hl : ks.length < 2199023255552) (hn0 : n₀ ≤ W.heap.size) (hp : p < n₀) (hm : m < n₀) (ha : ∀ a, ao = some a → a.block < n₀)
    (hBs : W.heap[Bs]? = some (.cells #[.pointer (some ⟨p, 0, none⟩)] tb (0, 0))) (h0 : J [] W) :
    CallsIn Fence.wide n Tryz.prog 45 #[.func (.yield l) #[] #[], .pointer (some ⟨Bs, 0, none⟩)] W fun e W' => (∃ v, e = .returned v) ∧
      ((∃ ys, ys = uptoC ks ks.length ∧ J ys W') ∨ (∃ pre, (∃ k, k ≤ ks.length ∧ pre = uptoC ks k) ∧ Jx pre W')) := by
  obtain ⟨len, hlen⟩ : ∃ len, len = ks.length := ⟨_, rfl⟩
  have HLN := hide hlen
  replace hY := hide hY
  have HL0 := lenCon_any hT
  have HT := hide hT
  have HA := hide ha
  rw [← hlen] at HL0 ⊢
  rw [← hlen] at hl
  clear hlen hT ha
  have hb0 := box_cell hBs
  replace HL0 := hide HL0
  refine callsIn_of_wp Tryz.func45 rfl trivial ?_ rfl
  simp only [Tryz.ntmps45, List.size_toArray, List.length_cons, List.length_nil, Nat.reduceAdd, Nat.reduceSub, Array.replicate_succ, Array.replicate_zero, List.push_toArray, List.append_toArray, List.nil_append, List.cons_append]
  gi_wp2_with (refine ⟨trivial, ?_⟩; gi_at_call 12; refine (callsIn_wide.2 HL0.out).mono ?_; rintro e w' ⟨rfl, hw'⟩; have hw' := hw'.symm; subst hw')
  gi_loopw [4] (fun i wr => ∃ k : Nat, k ≤ len ∧ i = .int .i64 k ∧ Hid (J (uptoC ks k) wr) ∧ Hid (Below n₀ W wr) ∧ Hid (wr.heap[Bs]? = some (.cells #[.pointer (some ⟨p, 0, none⟩)] tb (0, 0))))
    (fun i _ => len - (intOf i).toNat)
  case atStart => exact ⟨0, Nat.zero_le _, rfl, h0, Below.refl _ _, hBs⟩
  case round =>
    obtain ⟨k, hk, rfl, hJs, hnx, hbx⟩ := hrel
    have hTr := ids_below HT.out hnx.out hn0 hp hm HA.out
    have hbc := box_cell hbx.out
    have HLr := lenCon_any hTr
    rw [← HLN.out] at HLr
    replace HLr := hide HLr
    by_cases hlt : k < len
    · obtain ⟨c, hc⟩ : ∃ c, ks[k]? = some c := ⟨_, List.getElem?_eq_getElem (by have := HLN.out; omega)⟩
      obtain ⟨fn, tmps, assign, body, hy, hR⟩ := hY.out _ (k, c) wr hJs.out (by rw [uptoC_length]; have := HLN.out; omega)
      dsimp only [encC] at hy
      obtain ⟨g, cur, hao, _⟩ := hTr.lies (by have := HLN.out; omega)
      have e0 := hTr.cellAt (j := 0) lenCells hao hc rfl
      have e1 := hTr.cellAt (j := 1) lenCells hao hc rfl
      have e2 := hTr.cellAt (j := 2) lenCells hao hc rfl
      simp only [Nat.add_zero] at e0
      have c0 := hTr.c0
      rw [← HLN.out, hao] at c0
      have hkl : (k : Int) < (len : Int) := by omega
      have HTr := hide hTr
      clear hTr
      subst hao
      gi_wp2_with (refine ⟨trivial, ?_⟩; gi_at_call 12; refine (callsIn_wide.2 HLr.out).mono ?_; rintro e w' ⟨rfl, hw'⟩; have hw' := hw'.symm; subst hw')
      refine hR.mono ?_
      rintro e W3 (⟨rfl, hJ3, hk3⟩ | ⟨rfl, hJx3⟩)
      · have HJ3 := hide hJ3
        have HK3 := hide hk3
        clear hJ3 hk3 hy hR e0 e1 e2 c0 hbc HTr HLr
        gi_wp2
        go_roundw
        case rel => exact ⟨k + 1, by omega, by simp, by rw [uptoC_succ ks k hc]; exact HJ3, hnx.out.trans HK3.out.1, HK3.out.2 _ _ hbx.out⟩
        case measure => simp [intOf]; omega
      · gi_wp2
        refine bodyPost_ret (results_none rfl _ _ _) rfl ?_
        exact ⟨⟨_, rfl⟩, .inr ⟨_, ⟨k + 1, by omega, (uptoC_succ ks k hc).symm⟩, hJx3⟩⟩
    · obtain rfl : k = len := by omega
      have hkl : ¬ (k : Int) < (k : Int) := by omega
      gi_wp2_with (refine ⟨trivial, ?_⟩; gi_at_call 12; refine (callsIn_wide.2 HLr.out).mono ?_; rintro e w' ⟨rfl, hw'⟩; have hw' := hw'.symm; subst hw')
      go_end0
      exact ⟨⟨_, rfl⟩, .inl ⟨_, by rw [HLN.out], hJs.out⟩⟩

theorem allCon_stops (n : Nat) (hn : 1 ≤ n) {ts tb : TypeId} {base Bs n₀ p m nn cap : Nat} {ao : Option Addr} {ks : List Con} (w : World) (hT : ConIdsT ts base w p m nn ao cap ks) (hl : ks.length < 2199023255552) (hn0 : n₀ ≤ w.heap.size) (hp : p < n₀) (hm : m < n₀) (ha : ∀ a, ao = some a → a.block < n₀)
    (hBs : w.heap[Bs]? = some (.cells #[.pointer (some ⟨p, 0, none⟩)] tb (0, 0))) :
    SeqStopsK Fence.wide n Tryz.prog 45 #[.pointer (some ⟨Bs, 0, none⟩)] encC (KpI n₀ Bs) (fun ys => ys = uptoC ks ks.length) (fun pre => ∃ k, k ≤ ks.length ∧ pre = uptoC ks k) ks.length w := fun l J Jx W hW _ _ hY h0 =>
  allCon1_in n hn J Jx hY W (hT.grow hW) hl (Nat.le_trans hn0 hW.size) hp hm ha ((hW.block Bs (Array.getElem?_eq_some_iff.1 hBs).1).trans hBs) h0

theorem allCon_any (p : Nat) (w : World) : Calls Tryz.prog 31 #[.pointer (some ⟨p, 0, none⟩)] w fun e w' => e = .returned (.func (.func 45) #[] #[.pointer (some ⟨w.heap.size, 0, none⟩)]) ∧ w' = w.alloc (.cells #[.pointer (some ⟨p, 0, none⟩)] 47) := by
  go_enter Tryz.func31, Tryz.ntmps31
  go_wp2
  go_ret
  exact ⟨rfl, rfl⟩
end Go.Proofs.YtoppnjpajeipdaaGreatDoor

namespace Go.Proofs.YtoppnjpajeipdaaGreatDoor
set_option linter.unusedSimpArgs false
set_option linter.unusedVariables false
open Go.RowKit Go.Maps Go.Sort Go.Proofs

set_option maxRecDepth 100000 in
set_option maxHeartbeats 2000000 in
theorem cmpFn_gro {W : World} {base p m nn cap B : Nat} {ao : Option Addr} {ks : List Con} (hT : TableAt base W p m nn ao cap ks) (hl : ks.length ≤ 65536) (hB : W.cell? ⟨B, 0, none⟩ = some (.pointer (some ⟨p, 0, none⟩)))
    {i j : Nat} {a b : Con} (hi : ks[i]? = some a) (hj : ks[j]? = some b) :
    Calls Tryz.prog 33 #[.int .i64 i, .int .i64 j, .pointer (some ⟨B, 0, none⟩)] W fun e w' => e = .returned (.int .i64 (cmpC a b)) ∧ ∃ y, w' = gro W y := by
  have hilt : i < ks.length := (List.getElem?_eq_some_iff.1 hi).1
  have hjlt : j < ks.length := (List.getElem?_eq_some_iff.1 hj).1
  obtain ⟨g, cur, hao, _⟩ := hT.lies (by omega)
  have e0 := gro_cell (hT.cellAt (j := 0) lenCells hao hi rfl)
  have e1 := gro_cell (hT.cellAt (j := 1) lenCells hao hi rfl)
  have e2 := gro_cell (hT.cellAt (j := 2) lenCells hao hi rfl)
  have f0 := gro_cell (hT.cellAt (j := 0) lenCells hao hj rfl)
  have f1 := gro_cell (hT.cellAt (j := 1) lenCells hao hj rfl)
  have f2 := gro_cell (hT.cellAt (j := 2) lenCells hao hj rfl)
  simp only [Nat.add_zero] at e0 f0
  have c0 := gro_cell hT.c0
  have hb := gro_cell hB
  have HC := hide (fun x => compare_gro a b W x)
  obtain ⟨len, hlen⟩ : ∃ len, len = ks.length := ⟨_, rfl⟩
  rw [← hlen] at c0 hilt hjlt hl
  subst hao
  clear hlen hT hi hj hB
  have h1 : ¬ (i : Int) < 0 := by omega
  have h2 : (i : Int) < (len : Int) := by omega
  have h3 : ¬ (j : Int) < 0 := by omega
  have h4 : (j : Int) < (len : Int) := by omega
  go_enter Tryz.func33, Tryz.ntmps33
  go_wp2
  refine wp_region_gro (by kernel_rfl) (by kernel_rfl) ?_
  repeat (go_big_quiet_step ((go_at_call 14; exact HC.out _)))
  refine wpQuiet_nil ?_
  rintro _ ⟨v, rfl⟩
  go_wp2
  go_ret
  exact ⟨rfl, v, rfl⟩
end Go.Proofs.YtoppnjpajeipdaaGreatDoor

namespace Go.Proofs.YtoppnjpajeipdaaGreatDoor
set_option linter.unusedSimpArgs false
set_option linter.unusedVariables false
open Go.RowKit Go.Maps Go.Sort Go.Proofs

section
variable {α : Type} [Inhabited α]
theorem own_holds1 {w : World} {base g n cap : Nat} {e : TypeId} {l : List α} (enc : α → Value)
    (h : w.ownsRow base e 1 (.slice (some ⟨g, 0, none⟩) n cap) n (l.map enc)) (hl : l.length = n) : Holds enc w g 0 l.toArray ∧ g < w.heap.size := by
  rcases h.2 with ⟨h', _⟩ | ⟨g', cap', cur, hs, hbase, hb, h1, h2, h3, h4⟩
  · cases h'
  cases hs
  refine ⟨?_, (Array.getElem?_eq_some_iff.1 hb).1⟩
  intro j hj
  refine ⟨?_, by simp [World.frozen?, hb]⟩
  have hj' : j < n * 1 := by simpa [hl] using hj
  have e1 : (cur.toList.take (n * 1))[j]? = (l.map enc)[j]? := by rw [h4]
  rw [List.getElem?_take_of_lt hj', List.getElem?_map] at e1
  simp only [World.cell?, hb, Nat.zero_add]
  simp only [Option.isSome_none, Bool.false_eq_true, if_false]
  rw [← Array.getElem?_toList, e1]
  have hj2 : j < l.length := by simpa using hj
  rw [List.getElem?_eq_getElem hj2, getElem!_pos _ j hj]
  simp

theorem own_sorted1 {w : World} {base g n cap m : Nat} {e : TypeId} {os : Array Obj} {xs : List Value} {l : List α} (enc : α → Value)
    (h : w.ownsRow base e 1 (.slice (some ⟨g, 0, none⟩) n cap) n xs) (hl : l.length = n) : (sortWorld enc w g 0 m l.toArray os).ownsRow base e 1 (.slice (some ⟨g, 0, none⟩) n cap) n (l.map enc) := by
  rcases h.2 with ⟨h', _⟩ | ⟨g', cap', cur, hs, hbase, hb, h1, h2, h3, h4⟩
  · cases h'
  cases hs
  have hg : g < w.heap.size := (Array.getElem?_eq_some_iff.1 hb).1
  refine ⟨by simp [hl], .inr ⟨g, cap, putCells enc 0 l.toArray cur, rfl, hbase, ?_, h1, h2, by simp [putCells, h3], ?_⟩⟩
  · unfold sortWorld
    rw [heap_grow_old _ _ (by simpa [putRow, mapBlock, Sort.ahead] using hg)]
    simp [putRow, mapBlock, Sort.ahead, Array.getElem?_modify, hb, onCells]
  · apply List.ext_getElem?
    intro j
    by_cases hj : j < l.length
    · rw [List.getElem?_take_of_lt (by omega), Array.getElem?_toList]
      simp [putCells, hj, show j < cur.size by omega]
    · rw [List.getElem?_take_eq_none (by omega), List.getElem?_eq_none (by simp; omega)]

theorem only_sorted1 {g m : Nat} {w : World} {os : Array Obj} {d : Array α} (enc : α → Value) : Only (fun k => k = g) w (sortWorld enc w g 0 m d os) := by
  refine ⟨rfl, rfl, rfl, ?_, fun j hj hne => ?_⟩
  · simp [sortWorld, putRow, mapBlock, Sort.ahead, grow]
  · unfold sortWorld
    rw [heap_grow_old _ _ (by simpa [putRow, mapBlock, Sort.ahead] using hj)]
    have : g ≠ j := fun e => hne e.symm
    simp [putRow, mapBlock, Sort.ahead, Array.getElem?_modify, this]
end

/-- The order of ids by their constants. -/
def cfI (ks : List Con) (x y : Fin ks.length) : Int := cmpC ks[x] ks[y]
def encF {n : Nat} (x : Fin n) : Value := .int .i64 (x.val : Int)
def encI (x : Nat) : Value := .int .i64 (x : Int)
def fins (n : Nat) : List (Fin n) := List.ofFn fun i => i
theorem fins_len (n : Nat) : (fins n).length = n := by simp [fins]
theorem fins_val (n : Nat) : (fins n).map (·.val) = List.range n := by
  apply List.ext_getElem
  · simp [fins]
  · intro i h1 h2; simp [fins]

theorem cfI_swo (ks : List Con) : SWO (ltOf (cfI ks)) where
  irrefl x := cmpC_swo.irrefl _
  trans x y z h k := cmpC_swo.trans _ _ _ h k
  ntrans x y z h k := cmpC_swo.ntrans _ _ _ h k

theorem cfI_total {ks : List Con} (hnd : ks.Nodup) (x y : Fin ks.length) (h : ltOf (cfI ks) x y = false) (k : ltOf (cfI ks) y x = false) : x = y := by
  have := cmpC_total ks[x] ks[y] h k
  apply Fin.ext
  exact (List.getElem_inj (h₀ := x.2) (h₁ := y.2) hnd).1 this

/-- L is all ids below ks' length, in the order of their constants. -/
structure IdSort (ks : List Con) (L : List Nat) : Prop where
  perm : L.Perm (List.range ks.length)
  srt : L.Pairwise fun i j => ∀ a b, ks[i]? = some a → ks[j]? = some b → cmpC a b = -1

def sortL (ks : List Con) : List Nat := ((fins ks.length).mergeSort fun x y => !(ltOf (cfI ks)) y x).map (·.val)
theorem sortL_len (ks : List Con) : (sortL ks).length = ks.length := by simp [sortL, fins_len]

theorem sortL_is {ks : List Con} (hnd : ks.Nodup) : IdSort ks (sortL ks) := by
  unfold sortL
  have hperm := List.mergeSort_perm (fins ks.length) fun x y => !(ltOf (cfI ks)) y x
  refine ⟨?_, ?_⟩
  · rw [← fins_val]; exact hperm.map _
  · have hs := List.pairwise_mergeSort (le := fun x y => !(ltOf (cfI ks)) y x) (fun a b c h k => by
      simp only [Bool.not_eq_true'] at *
      exact (cfI_swo ks).ntrans _ _ _ k h) (fun a b => by
      cases h : ltOf (cfI ks) b a with
      | false => rfl
      | true =>
        simp only [Bool.not_true, Bool.false_or, Bool.not_eq_true']
        cases k : ltOf (cfI ks) a b with
        | false => rfl
        | true => have := (cfI_swo ks).trans _ _ _ h k; rw [(cfI_swo ks).irrefl] at this; cases this) (fins ks.length)
    have hn : (fins ks.length).Nodup := by
      have : ((fins ks.length).map (·.val)).Nodup := by rw [fins_val]; exact List.nodup_range
      exact (List.pairwise_map.1 this).imp fun h e => h (congrArg _ e)
    have hn2 := hperm.nodup_iff.2 hn
    rw [List.pairwise_map]
    refine List.Pairwise.imp₂ ?_ hs hn2
    intro x y h1 h2 a b ha hb
    simp only [Bool.not_eq_true'] at h1
    have ea : a = ks[x] := by rw [List.getElem?_eq_getElem x.2] at ha; exact (Option.some.inj ha).symm
    have eb : b = ks[y] := by rw [List.getElem?_eq_getElem y.2] at hb; exact (Option.some.inj hb).symm
    subst ea eb
    have h3 : ltOf (cfI ks) x y = true := by
      cases h4 : ltOf (cfI ks) x y with
      | true => rfl
      | false => exact absurd (cfI_total hnd x y h4 h1) h2
    have h5 : cmpC ks[x] ks[y] < 0 := of_decide_eq_true h3
    have h6 := cmpC_rng ks[x] ks[y]
    omega

theorem IdSort.mem {ks : List Con} {L : List Nat} (h : IdSort ks L) {i : Nat} : i ∈ L ↔ i < ks.length := by rw [h.perm.mem_iff, List.mem_range]
theorem IdSort.nodup {ks : List Con} {L : List Nat} (h : IdSort ks L) : L.Nodup := h.perm.nodup_iff.2 List.nodup_range
theorem IdSort.len {ks : List Con} {L : List Nat} (h : IdSort ks L) : L.length = ks.length := by rw [h.perm.length_eq, List.length_range]
theorem IdSort.at {ks : List Con} {L : List Nat} (h : IdSort ks L) {i : Nat} (hi : i < ks.length) : L.idxOf i < L.length ∧ L[L.idxOf i]? = some i := by
  have h1 := List.idxOf_lt_length_of_mem (h.mem.2 hi)
  exact ⟨h1, by rw [List.getElem?_eq_getElem h1, List.getElem_idxOf]⟩
theorem IdSort.back {ks : List Con} {L : List Nat} (h : IdSort ks L) {k i : Nat} (hk : L[k]? = some i) : L.idxOf i = k := by
  obtain ⟨h1, h2⟩ := List.getElem?_eq_some_iff.1 hk
  have hi : i < ks.length := h.mem.1 (h2 ▸ List.getElem_mem h1)
  obtain ⟨h3, h4⟩ := h.at hi
  rw [List.getElem?_eq_getElem h3] at h4
  exact (List.getElem_inj h.nodup).1 ((Option.some.inj h4).trans h2.symm)
/-- An id stands ahead of another just where its constant comes ahead. -/
theorem IdSort.ahead {ks : List Con} {L : List Nat} (h : IdSort ks L) {i j : Nat} {a b : Con} (hi : ks[i]? = some a) (hj : ks[j]? = some b) : (L.idxOf j < L.idxOf i) ↔ cmpC b a = -1 := by
  have h1 : i < ks.length := (List.getElem?_eq_some_iff.1 hi).1
  have h2 : j < ks.length := (List.getElem?_eq_some_iff.1 hj).1
  obtain ⟨p1, p2⟩ := h.at h1
  obtain ⟨q1, q2⟩ := h.at h2
  have hs := List.pairwise_iff_getElem.1 h.srt
  have e1 : L[L.idxOf i] = i := List.getElem_idxOf p1
  have e2 : L[L.idxOf j] = j := List.getElem_idxOf q1
  rcases Nat.lt_trichotomy (L.idxOf j) (L.idxOf i) with hlt | heq | hgt
  · have := hs _ _ q1 p1 hlt
    rw [e1, e2] at this
    exact ⟨fun _ => this b a hj hi, fun _ => hlt⟩
  · have : i = j := by
      have h3 := e1
      simp only [← heq] at h3
      rw [e2] at h3; exact h3.symm
    subst this
    rw [hi] at hj
    cases hj
    rw [cmpC_refl]
    exact ⟨fun h => absurd h (by omega), fun h => absurd h (by omega)⟩
  · have := hs _ _ p1 q1 hgt
    rw [e1, e2] at this
    have h3 := this a b hi hj
    have h4 := cmpC_anti a b
    exact ⟨fun h => absurd h (by omega), fun h => absurd h (by omega)⟩
end Go.Proofs.YtoppnjpajeipdaaGreatDoor

namespace Go.Proofs.YtoppnjpajeipdaaGreatDoor
set_option linter.unusedSimpArgs false
set_option linter.unusedVariables false
open Go.RowKit Go.Maps Go.Shelf Go.Sort
attribute [local go_sem] Oper.semAt_some

theorem Tryz.infoI : (Tryz.prog.info? 3).map (fun i => (i.zero, i.size, i.bytes)) = some (some (.int .i64 0), 1, 8) := by kernel_rfl

/-- Behind an append that fits and a store into the box of the list all other blocks are as they were. -/
theorem app_keeps {W w2 : World} {tmp : Obj} {g Bi k : Nat} {v' : Value} (hg : (W.alloc tmp).grownBy w2 (some g)) (hk : k < W.heap.size) (h1 : k ≠ g) (h2 : k ≠ Bi) : (w2.setCell ⟨Bi, 0, none⟩ v').heap[k]? = W.heap[k]? := by
  rw [Below.heap_setCell _ _ _ _ h2, hg.block k (by simp; omega) (by simpa using h1)]
  exact Below.heap_alloc _ _ _ hk

/-- What the sort of the ids is asked to do. -/
def SortIdsSaid : Prop := ∀ (W : World) (base n₀ p m nn cap B g cap' : Nat) (ao : Option Addr) (ks : List Con), TableAt base W p m nn ao cap ks → ks.Nodup → ks.length ≤ 65536 →
    W.cell? ⟨B, 0, none⟩ = some (.pointer (some ⟨p, 0, none⟩)) → W.ownsRow n₀ 3 1 (.slice (some ⟨g, 0, none⟩) ks.length cap') ks.length ((List.range ks.length).map encI) → g ≠ B →
    Calls Tryz.prog 32 #[.slice (some ⟨g, 0, none⟩) ks.length cap', .func (.func 33) #[] #[.pointer (some ⟨B, 0, none⟩)]] W fun e w' =>
      e = .returned (.tuple #[]) ∧ Hid (w'.ownsRow n₀ 3 1 (.slice (some ⟨g, 0, none⟩) ks.length cap') ks.length ((sortL ks).map encI) ∧ Only (fun k => k = g) W w')

set_option maxRecDepth 100000 in
set_option maxHeartbeats 4000000 in
theorem sorted_any (HSS : SortIdsSaid) {base : Nat} {w : World} {p m nn cap : Nat} {ao : Option Addr} {ks : List Con} (hT : TableAt base w p m nn ao cap ks) (hnd : ks.Nodup) (hl : ks.length ≤ 65536) :
    Calls Tryz.prog 17 #[.pointer (some ⟨p, 0, none⟩)] w fun e w' => ∃ g, e = .returned (.slice (some ⟨g, 0, none⟩) ks.length ks.length) ∧ w'.ownsRow w.heap.size 3 1 (.slice (some ⟨g, 0, none⟩) ks.length ks.length) ks.length ((sortL ks).map encI) ∧ Below w.heap.size w w' := by
  obtain ⟨i0, hi, hz0, hz1, hz2⟩ := info_parts Tryz.infoI
  obtain ⟨len, hlen⟩ : ∃ len, len = ks.length := ⟨_, rfl⟩
  have HLN := hide hlen
  have hplt := hT.plt
  have HT := hide hT
  have HL0 : ∀ W, Below w.heap.size w W → Calls Tryz.prog 12 #[.pointer (some ⟨p, 0, none⟩)] W fun e w' => e = .returned (.int .i64 len) ∧ w' = W := fun W hb => by rw [hlen]; exact lenCon_any (hT.grow hb)
  rw [← hlen] at hl ⊢
  replace HL0 := hide HL0
  clear hlen hT
  refine (callsIn_wide (n := 3)).1 ?_
  refine callsIn_of_wp_marks Tryz.func17 rfl trivial ?_ rfl
  simp only [Tryz.ntmps17, List.size_toArray, List.length_cons, List.length_nil, Nat.reduceAdd, Nat.reduceSub, Array.replicate_succ, Array.replicate_zero, List.push_toArray, List.append_toArray, List.nil_append, List.cons_append]
  gi_wp2_with (first
    | (refine ⟨trivial, ?_⟩; gi_at_call 12; refine (callsIn_wide.2 (HL0.out _ ((Below.refl _ _).alloc (Nat.le_refl _) _))).mono ?_; rintro e w' ⟨rfl, hw'⟩; have hw' := hw'.symm; subst hw')
    | (gi_at_make; refine wpListIn_make_own _ rfl _ _ 44 rfl w.heap.size 3 i0 (.int .i64 0) 1 Tryz.underlying44 hi hz0 hz1 _ _ _ len rfl rfl rfl (by rw [hz2]; omega) (by unfold maxLen; omega) (by simp) ?_; intro w1 hrow1 hg1; rw [World.size_alloc] at hrow1; have bt1 : Boxed w1 w.heap.size 23 (.pointer (some ⟨p, 0, none⟩)) := (Boxed.new w _ _).kept hg1 (by simp); have ct1 := fun o => (bt1.alloc o).cell)
    | (refine ⟨trivial, ?_⟩; gi_at_call 31; refine (callsIn_wide.2 (allCon_any p _)).mono ?_; rintro e w' ⟨rfl, rfl⟩))
  have bi1 : Boxed (w1.alloc (.cells #[.slice (some ⟨w.heap.size + 1, 0, none⟩) 0 len] 44)) w1.heap.size 44 (.slice (some ⟨w.heap.size + 1, 0, none⟩) 0 len) := Boxed.new _ _ _
  have hsz1 : w.heap.size + 1 < w1.heap.size := (hrow1.lt _ rfl).2
  have hB1 : Below w.heap.size w w1 := ((Below.refl _ w).alloc (Nat.le_refl _) _).grown hg1 (by simp) (by simp)
  have hrow2 := (hrow1.alloc (.cells #[.slice (some ⟨w.heap.size + 1, 0, none⟩) 0 len] 44)).alloc (.cells #[.pointer (some ⟨p, 0, none⟩)] 47)
  have hB2 := (hB1.alloc (by omega) (.cells #[.slice (some ⟨w.heap.size + 1, 0, none⟩) 0 len] 44)).alloc (by simp; omega) (.cells #[.pointer (some ⟨p, 0, none⟩)] 47)
  have bs2 : Boxed ((w1.alloc (.cells #[.slice (some ⟨w.heap.size + 1, 0, none⟩) 0 len] 44)).alloc (.cells #[.pointer (some ⟨p, 0, none⟩)] 47)) (w1.heap.size + 1) 47 (.pointer (some ⟨p, 0, none⟩)) := by
    have := Boxed.new (w1.alloc (.cells #[.slice (some ⟨w.heap.size + 1, 0, none⟩) 0 len] 44)) 47 (.pointer (some ⟨p, 0, none⟩))
    rwa [World.size_alloc] at this
  have bi2 := bi1.alloc (.cells #[.pointer (some ⟨p, 0, none⟩)] 47)
  have bt2 := (bt1.alloc (.cells #[.slice (some ⟨w.heap.size + 1, 0, none⟩) 0 len] 44)).alloc (.cells #[.pointer (some ⟨p, 0, none⟩)] 47)
  have hsz2 : ((w1.alloc (.cells #[.slice (some ⟨w.heap.size + 1, 0, none⟩) 0 len] 44)).alloc (.cells #[.pointer (some ⟨p, 0, none⟩)] 47)).heap.size = w1.heap.size + 2 := by simp
  clear bi1 bt1 ct1 hrow1 hg1 hB1
  generalize ((w1.alloc (.cells #[.slice (some ⟨w.heap.size + 1, 0, none⟩) 0 len] 44)).alloc (.cells #[.pointer (some ⟨p, 0, none⟩)] 47)) = W0 at *
  have hT0 := HT.out.grow hB2
  have hft := fun k hk => (HT.out.foot_lt (by decide) (k := k) hk).1
  refine wpIn_rangeFunc_ownF rfl (by omega) (gf := 45) (lb := #[.pointer (some ⟨w1.heap.size + 1, 0, none⟩)]) rfl trivial (enters_of Tryz.func45 (by kernel_rfl) rfl)
    (allCon_stops 2 (by omega) (n₀ := w.heap.size) W0 hT0 (by rw [← HLN.out]; omega) hB2.size (hft _ (.inl rfl)) (hft _ (.inr (.inl rfl))) (fun a e => hft _ (.inr (.inr ⟨a, e, rfl⟩))) bs2) kpI_t (kpI_b hB2.size) (Below.refl _ _) (fun _ => rfl)
    (fun pre W => (∃ v, Boxed W w1.heap.size 44 v ∧ W.ownsRow w.heap.size 3 1 v pre.length (pre.map fun x => encI x.1) ∧ v = .slice (some ⟨w.heap.size + 1, 0, none⟩) pre.length len) ∧ (Boxed W w.heap.size 23 (.pointer (some ⟨p, 0, none⟩)) ∧ Below w.heap.size w W))
    (fun _ _ _ => False)
    (OwnFrom.and (Own.from (holdsRow_own w.heap.size w1.heap.size _ _ 1 (fun pre : List (Nat × Con) => pre.length) (fun pre => pre.map fun x => encI x.1) (fun pre v => v = .slice (some ⟨w.heap.size + 1, 0, none⟩) pre.length len)) _) (OwnFrom.and (Own.from (boxed_own _ _ _) _) (ownFrom_below (Nat.le_refl _) hB2.size)))
    (fun _ _ _ _ _ hs _ _ => hs)
    ⟨⟨_, bi2, hrow2, rfl⟩, bt2, hB2⟩
    ?a1 ?assign ?body ?done ?stop
  case assign =>
    intro l x W K hK
    dsimp only [encC]
    gi_wp2
    exact hK
  case stop =>
    rintro D c pre W _ _ h _
    exact h.elim
  case body =>
    rintro l pre x W ⟨⟨v, hbx, hrow, rfl⟩, hbt, hB⟩ hlt
    have hcx := fun o => (hbx.alloc o).cell
    have hcx0 := hbx.cell
    have hlt2 : pre.length < len := by have := HLN.out; omega
    gi_wp2_with (gi_at_builtin; refine wpListIn_append_fits _ rfl _ _ 44 rfl w.heap.size 3 i0 1 Tryz.underlying44 hi hz1 (w.heap.size + 1) pre.length len _ rfl (hrow.alloc _) ⟨W.heap.size, 0, none⟩ 1 1 [.int .i64 (x.1 : Int)] rfl rfl (cell_one_new _ _ _) (by simp [Value.oneCell']) (by omega) ?_; intro w2 hown2 hgrow2; obtain ⟨hv1, hv2, hr2, hk2, hb2⟩ := hbx.appended (by decide) hrow hB.size (by omega) hown2 hgrow2; have hc1 := hv1.cell; have hf1 := hv1.frozen)
    refine ⟨hk2, ⟨hb2, fun v t hv => ?_⟩, ⟨_, hv2, ?_, ?_⟩, ?_, hB.trans hb2⟩
    · exact (app_keeps hgrow2 (Array.getElem?_eq_some_iff.1 hv).1 (by omega) (by omega)).trans hv
    · rw [List.map_append, List.length_append]; exact hr2
    · rw [List.length_append]; rfl
    · exact (app_keeps hgrow2 hbt.lt (by omega) (by omega)).trans hbt
  case done =>
    rintro D ys W hD rfl ⟨⟨v, hbx, hrow, rfl⟩, hbt, hB⟩ hK
    rw [uptoC_length, ← HLN.out] at hbx hrow
    have hmap : (uptoC ks len).map (fun x => encI x.1) = (List.range len).map encI := by simp [uptoC]
    rw [hmap] at hrow
    have hcb := hbx.cell
    have HS := HSS W base w.heap.size p m nn cap w.heap.size (w.heap.size + 1) len ao ks (HT.out.grow hB) hnd (by rw [← HLN.out]; exact hl) hbt.cell (by rw [← HLN.out]; exact hrow) (by omega)
    rw [← HLN.out] at HS
    replace HS := hide HS
    gi_wp2_with (refine ⟨trivial, ?_⟩; gi_at_call 32; refine (callsIn_wide.2 HS.out).mono ?_; rintro e W3 ⟨rfl, hp3⟩; obtain ⟨hrow3, ho3⟩ := hp3.out; have hbx3 : Boxed W3 w1.heap.size 44 (.slice (some ⟨w.heap.size + 1, 0, none⟩) len len) := (ho3.block _ hbx.lt (by omega)).trans hbx; have hcb3 := hbx3.cell; have HO := hide ho3; clear ho3 hp3)
    have hDl : D < W.heap.size := (Array.getElem?_eq_some_iff.1 hK).1
    have hK3 : W3.heap[D]? = some (.deferred (some [])) := (HO.out.block D hDl (by omega)).trans hK
    have hB3 : Below w.heap.size w W3 := hB.trans (HO.out.below hB.size (fun k hk => by omega))
    refine ⟨by simp, .inl ⟨_, _, rfl, run_takeDeferred hK3, ?_⟩⟩
    exact ⟨_, results_tmp rfl _ _ _, _, rfl, ownsRow_putObj hrow3 _ hK3 rfl, hB3.trans (belowK_b (w := w) (Nat.le_refl _) W3 D _ _ (by omega) hK3 rfl rfl)⟩
end Go.Proofs.YtoppnjpajeipdaaGreatDoor

namespace Go.Proofs.YtoppnjpajeipdaaGreatDoor
set_option linter.unusedSimpArgs false
set_option linter.unusedVariables false
open Go.RowKit Go.Maps Go.Shelf Go.Sort

theorem own_row {W : World} {base g n : Nat} {e : TypeId} {L : List Nat} (h : W.ownsRow base e 1 (.slice (some ⟨g, 0, none⟩) n n) n (L.map encI)) : W.rowIs g e n (fun i => encI (L.getD i 0)) ∧ base ≤ g := by
  have hl : L.length = n := by have := h.1; simpa using this
  rcases h.2 with ⟨h', _⟩ | ⟨g', cap', cur, hs, hbase, hb, h1, h2, h3, h4⟩
  · cases h'
  cases hs
  refine ⟨⟨cur, hb, by omega, fun i hi => ?_⟩, hbase⟩
  have e1 : (cur.toList.take (n * 1))[i]? = (L.map encI)[i]? := by rw [h4]
  rw [List.getElem?_take_of_lt (by omega), List.getElem?_map, Array.getElem?_toList] at e1
  rw [e1]
  show _ = some (encI (L.getD i 0))
  rw [List.getD_eq_getElem?_getD, List.getElem?_eq_getElem (by omega)]
  rfl

def rankF (L : List Nat) (k i : Nat) : Value := encI (if L.idxOf i < k then L.idxOf i else 0)

theorem rankF_step {ks : List Con} {L : List Nat} (h : IdSort ks L) {k x : Nat} (hk : L[k]? = some x) (j : Nat) (hj : j < ks.length) : (if j = x then encI k else rankF L k j) = rankF L (k + 1) j := by
  unfold rankF
  by_cases e : j = x
  · subst e
    rw [if_pos rfl, h.back hk, if_pos (Nat.lt_succ_self k)]
  · rw [if_neg e]
    have hne : L.idxOf j ≠ k := fun he => by
      obtain ⟨_, h2⟩ := h.at hj
      rw [he, hk] at h2
      exact e (Option.some.inj h2).symm
    by_cases hlt : L.idxOf j < k
    · rw [if_pos hlt, if_pos (by omega)]
    · rw [if_neg hlt, if_neg (by omega)]

set_option maxRecDepth 100000 in
set_option maxHeartbeats 4000000 in
theorem ranks_any (HSS : SortIdsSaid) {base : Nat} {w : World} {p m nn cap : Nat} {ao : Option Addr} {ks : List Con} (hT : TableAt base w p m nn ao cap ks) (hnd : ks.Nodup) (hl : ks.length ≤ 65536) :
    Calls Tryz.prog 18 #[.pointer (some ⟨p, 0, none⟩)] w fun e w' => ∃ g, e = .returned (.slice (some ⟨g, 0, none⟩) ks.length ks.length) ∧ w'.rowIs g 3 ks.length (fun i => encI ((sortL ks).idxOf i)) ∧ w.heap.size ≤ g ∧ Below w.heap.size w w' := by
  have HS := hide (sorted_any HSS hT hnd hl)
  have hL := sortL_is hnd
  obtain ⟨len, hlen⟩ : ∃ len, len = ks.length := ⟨_, rfl⟩
  have HLN := hide hlen
  rw [← hlen] at hl HS ⊢
  have hll : (sortL ks).length = len := by rw [hlen]; exact hL.len
  have HLL := hide hll
  have HIS := hide hL
  clear hlen hT hL hll
  have hmk := fun W : World => run_make_row' (P := Tryz.prog) 44 3 (.int .i64 0) 8 Tryz.underlying44 Tryz.infoI rfl .i64 .i64 len (by omega) (by omega) W
  go_enter Tryz.func18, Tryz.ntmps18
  go_wp2_with (go_at_call 17; refine HS.out.mono ?_; rintro e w1 ⟨g1, rfl, hown, hb1⟩; obtain ⟨hr1, hg1⟩ := own_row hown; have HR1 := hide hr1; have HB1 := hide hb1; clear hown hr1 hb1)
  go_loopw [14] (fun i wr => ∃ k : Nat, k ≤ len ∧ i = .int .i64 k ∧ Hid (wr.rowIs w1.heap.size 3 len (rankF (sortL ks) k)) ∧ Hid (Below w1.heap.size w1 wr)) (fun i _ => len - (intOf i).toNat)
  case atStart =>
    refine ⟨0, by omega, rfl, ?_, ?_⟩
    · exact (World.rowIs_made w1 (.int .i64 0) len 3).congr fun i _ => by unfold rankF; rw [if_neg (by omega)]; rfl
    · exact (Below.refl _ _).alloc (Nat.le_refl _) _
  case round =>
    obtain ⟨k, hk, rfl, HR, HB⟩ := hrel
    by_cases hlt : k < len
    · have hi : (k : Int) < (len : Int) := by omega
      obtain ⟨x, hx⟩ : ∃ x, (sortL ks)[k]? = some x := ⟨_, List.getElem?_eq_getElem (by have := HLL.out; omega)⟩
      have hxl : x < len := by
        have := HIS.out.mem.1 (List.mem_of_getElem? hx)
        rw [HLN.out]; exact this
      have c1 : wr.cell? ⟨g1, k, none⟩ = some (.int .i64 x) := by
        have := kept_cell HB.out (HR1.out.cell hlt)
        rw [List.getD_eq_getElem?_getD, hx] at this
        exact this
      have c2 := HR.out.cell hxl
      have f2 := HR.out.frozen x
      have hxi : (x : Int) < (len : Int) := by omega
      have hx0 : ¬ (x : Int) < 0 := by omega
      go_wp2
      go_roundw
      case rel =>
        refine ⟨k + 1, by omega, by go_num, ?_, ?_⟩
        · exact (HR.out.set x (.int .i64 k)).congr fun j hj => by have := rankF_step HIS.out hx j (by have := HLN.out; omega); rw [← this]; rfl
        · exact HB.out.setCell (p := ⟨w1.heap.size, x, none⟩) (Nat.le_refl _) _
      case measure => simp [intOf]; omega
    · obtain rfl : k = len := by omega
      have hi : ¬ (k : Int) < (k : Int) := by omega
      go_wp2
      go_ret
      refine ⟨_, rfl, ?_, HB1.out.size, HB1.out.trans (HB.out.mono HB1.out.size)⟩
      exact HR.out.congr fun i hi => by
        unfold rankF
        rw [if_pos]
        have := (HIS.out.at (i := i) (by rw [← HLN.out]; exact hi)).1
        rw [HLL.out] at this
        exact this
end Go.Proofs.YtoppnjpajeipdaaGreatDoor

namespace Go.Proofs.YtoppnjpajeipdaaGreatDoor
set_option linter.unusedSimpArgs false
set_option linter.unusedVariables false
open Go.RowKit Go.Maps Go.Shelf Go.Sort Go.Proofs

theorem sortIds_is : SortIdsSaid := by
  intro W base n₀ p m nn cap B g cap' ao ks hT hnd hl hB hrow hgB
  have hglt : n₀ ≤ g ∧ g < W.heap.size := hrow.lt g rfl
  have hgfoot : ¬ foot p m ao g := fun hf => by
    rcases hrow.2 with ⟨h', _⟩ | ⟨g', cap'', cur, hs, hbase, hb, _⟩
    · cases h'
    cases hs
    rcases hf with rfl | rfl | ⟨a, ha, rfl⟩
    · rw [hT.fields] at hb
      simp only [Option.some.injEq, Obj.cells.injEq] at hb
      exact absurd hb.2.1 (by decide)
    · obtain ⟨es, clock, hm⟩ := hT.map.block
      rw [hm] at hb
      exact absurd hb (by simp)
    · rcases hT.row.2 with ⟨e, _⟩ | ⟨g2, cap2, cur2, e, hb2, hh, _⟩
      · rw [ha] at e; exact absurd e (by simp)
      · rw [ha] at e
        simp only [Value.slice.injEq, Option.some.injEq] at e
        rw [e.1] at hb
        rw [hh] at hb
        simp only [Option.some.injEq, Obj.cells.injEq] at hb
        exact absurd hb.2.1 (by decide)
  by_cases h0 : ks.length = 0
  · rw [h0]
    have := AnyF.slices_SortFunc_none (P := Tryz.prog) { Tryz.sortInt with } (some ⟨g, 0, none⟩) cap' (.func (.func 33) #[] #[.pointer (some ⟨B, 0, none⟩)]) W
    refine this.mono ?_
    rintro e w' ⟨rfl, rfl⟩
    refine ⟨rfl, ?_, Only.refl _ _⟩
    rw [h0] at hrow
    have hs : sortL ks = [] := List.length_eq_zero_iff.1 (by rw [sortL_len, h0])
    rw [hs]
    exact hrow
  · have : Inhabited (Fin ks.length) := ⟨⟨0, by omega⟩⟩
    have hrow' : W.ownsRow n₀ 3 1 (.slice (some ⟨g, 0, none⟩) ks.length cap') ks.length ((fins ks.length).map encF) := by
      have e : (List.range ks.length).map encI = (fins ks.length).map encF := by rw [← fins_val, List.map_map]; rfl
      rw [e] at hrow; exact hrow
    obtain ⟨hH, hlt⟩ := own_holds1 encF hrow' (fins_len _)
    have eg : ∀ args w, (callFunc 33 args).run Tryz.prog w = .ok (.enter 33 args) w := enters_of Tryz.func33 (by kernel_rfl) rfl
    have hcmp : CmpLays1 Tryz.prog 33 #[.pointer (some ⟨B, 0, none⟩)] encF (cfI ks) g 0 (fins ks.length).toArray.size W := by
      intro q os dk hdk x y
      have ho := only_sorted1 (g := g) (m := q) (w := W) (os := os) (d := dk) encF
      have hT2 := hT.only ho (fun e => hgfoot (.inl e.symm)) (fun e => hgfoot (.inr (.inl e.symm))) (fun a ha e => hgfoot (.inr (.inr ⟨a, ha, e.symm⟩)))
      have hB2 := ho.cell hB (fun e => hgB e.symm)
      have hx : ks[x.val]? = some ks[x] := List.getElem?_eq_getElem x.2
      have hy : ks[y.val]? = some ks[y] := List.getElem?_eq_getElem y.2
      refine (cmpFn_gro hT2 hl hB2 hx hy).mono ?_
      rintro e w' ⟨he, z, hz⟩
      exact ⟨he, z.q, z.os, hz⟩
    have hsz : (fins ks.length).toArray.size = ks.length := by simp [fins_len]
    have := Any.slices_SortFunc_total Tryz.sortInt encF (fun _ => rfl) (cfI ks) (cfI_swo ks) 33 #[.pointer (some ⟨B, 0, none⟩)] g 0 cap' (fins ks.length).toArray W eg hcmp hH hlt (by rw [hsz]; omega) (cfI_total hnd)
    rw [hsz] at this
    refine this.mono ?_
    rintro e w' ⟨rfl, q, os, hw⟩
    subst hw
    refine ⟨rfl, ?_, only_sorted1 encF⟩
    have h3 := own_sorted1 (m := q) (os := os) (l := (fins ks.length).mergeSort fun x y => !(ltOf (cfI ks)) y x) encF hrow' (by rw [List.length_mergeSort, fins_len])
    have e : (sortL ks).map encI = ((fins ks.length).mergeSort fun x y => !(ltOf (cfI ks)) y x).map encF := by unfold sortL; rw [List.map_map]; rfl
    rw [e]
    exact h3
end Go.Proofs.YtoppnjpajeipdaaGreatDoor
