/- Ranging over an Ids of constants: All's function gives every id with its constant, in order, to a body that leaves the Ids as it is. -/
import Derived.Test.YthhoiejjejdffaaProg
import Derived.Test.YthhoiejjejdffaaTable
import Derived.RangeFuncNested
import Derived.RangeFuncBound
import Derived.RangeFuncCalls
import Derived.RangeFuncLeaves
import Derived.RangeFuncFrom
import Derived.RangeFuncBox
import Derived.Shelf.Abstract
import Derived.Shelf.RegionOpen
import Derived.WalkKit
import Derived.OwnWalkIn
import Derived.TacticsInMore
import Derived.LoopNIn
import Derived.LoopIn
namespace Go.Proofs.Ythhoiejjejdffaa
set_option linter.unusedSimpArgs false
set_option linter.unusedVariables false
open Go.RowKit Go.Maps Go.Shelf
attribute [local go_sem] Oper.semAt_some

/-- What a round keeps: all that lay below n₀, and the variable in the box Bs. -/
def KpI (n₀ Bs : Nat) (W W' : World) : Prop := Below n₀ W W' ∧ ∀ v t, W.heap[Bs]? = some (.cells #[v] t (0, 0)) → W'.heap[Bs]? = some (.cells #[v] t (0, 0))

theorem kpI_t {n₀ Bs : Nat} {A B C : World} (h : KpI n₀ Bs A B) (k : KpI n₀ Bs B C) : KpI n₀ Bs A C :=
  ⟨h.1.trans k.1, fun v t hv => k.2 v t (h.2 v t hv)⟩

theorem kpI_b {n₀ Bs : Nat} {w : World} (hn : n₀ ≤ w.heap.size) (W : World) (l : Nat) (o o' : Obj) (hl : w.heap.size ≤ l) (ho : W.heap[l]? = some o) (h1 : o.isCells = false) (h2 : o.isWalk = false) : KpI n₀ Bs W (W.putObj l o') := by
  refine ⟨belowK_b hn W l o o' hl ho h1 h2, fun v t hv => ?_⟩
  have hne : l ≠ Bs := by
    rintro rfl
    rw [ho] at hv
    cases hv
    cases h1
  simp only [World.putObj]
  rw [Array.getElem?_setIfInBounds_ne hne]
  exact hv

def encC (x : Nat × Con) : Array Value := #[.int .i64 (x.1 : Int), .agg #[.int .i64 x.2.k, .int .i64 x.2.n, .string x.2.s]]
def uptoC (ks : List Con) (k : Nat) : List (Nat × Con) := (List.range k).map fun j => (j, ks[j]?.getD Con.zero)
theorem uptoC_succ (ks : List Con) (k : Nat) {c : Con} (h : ks[k]? = some c) : uptoC ks (k + 1) = uptoC ks k ++ [(k, c)] := by simp [uptoC, List.range_succ, h]
theorem uptoC_length (ks : List Con) (k : Nat) : (uptoC ks k).length = k := by simp [uptoC]

theorem only_of_below {n₀ : Nat} {w w' : World} (h : Below n₀ w w') (hn : n₀ ≤ w.heap.size) : Only (fun k => n₀ ≤ k) w w' :=
  ⟨h.os, h.tape, h.output, h.size, fun k _ hk => h.block k (by omega)⟩

theorem ids_below {ts : TypeId} {base n₀ : Nat} {w w' : World} {p m n : Nat} {ao : Option Addr} {cap : Nat} {ks : List Con} (h : ConIdsT ts base w p m n ao cap ks) (hb : Below n₀ w w') (hn : n₀ ≤ w.heap.size) (hp : p < n₀) (hm : m < n₀) (ha : ∀ a, ao = some a → a.block < n₀) : ConIdsT ts base w' p m n ao cap ks :=
  h.only (only_of_below hb hn) (by omega) (by omega) (fun a e => by have := ha a e; omega)

theorem box_cell {W : World} {B : Nat} {v : Value} {t : TypeId} (h : W.heap[B]? = some (.cells #[v] t (0, 0))) : W.cell? ⟨B, 0, none⟩ = some v := by
  simp only [World.cell?, h]
  simp only [Option.isSome_none, Bool.false_eq_true, if_false]
  rfl

set_option maxRecDepth 100000 in
set_option maxHeartbeats 2000000 in
theorem allCon1_in (n : Nat) (hn : 1 ≤ n) {ts tb : TypeId} {base l Bs n₀ p m nn cap : Nat} {ao : Option Addr} {ks : List Con} (J Jx : List (Nat × Con) → World → Prop)
    (hY : ∀ pre x W, J pre W → pre.length < ks.length → YieldAt Fence.wide (n - 1) Try.prog l (encC x) W fun e W' =>
      (e = .returned (.bool true) ∧ J (pre ++ [x]) W' ∧ KpI n₀ Bs W W') ∨ (e = .returned (.bool false) ∧ Jx (pre ++ [x]) W'))
    (W : World) (hT : ConIdsT ts base W p m nn ao cap ks) (hl : ks.length < 2199023255552) (hn0 : n₀ ≤ W.heap.size) (hp : p < n₀) (hm : m < n₀) (ha : ∀ a, ao = some a → a.block < n₀)
    (hBs : W.heap[Bs]? = some (.cells #[.pointer (some ⟨p, 0, none⟩)] tb (0, 0))) (h0 : J [] W) :
    CallsIn Fence.wide n Try.prog 65 #[.func (.yield l) #[] #[], .pointer (some ⟨Bs, 0, none⟩)] W fun e W' => (∃ v, e = .returned v) ∧
      ((∃ ys, ys = uptoC ks ks.length ∧ J ys W') ∨ (∃ pre, (∃ k, k ≤ ks.length ∧ pre = uptoC ks k) ∧ Jx pre W')) := by
  obtain ⟨len, hlen⟩ : ∃ len, len = ks.length := ⟨_, rfl⟩
  have HLN := hide hlen
  replace hY := hide hY
  have HL0 := lenCon_any hT
  have HT := hide hT
  have HA := hide ha
  rw [← hlen] at HL0 ⊢
  rw [← hlen] at hl
  clear hlen hT ha
  have hb0 := box_cell hBs
  replace HL0 := hide HL0
  refine callsIn_of_wp Try.func65 rfl trivial ?_ rfl
  simp only [Try.ntmps65, List.size_toArray, List.length_cons, List.length_nil, Nat.reduceAdd, Nat.reduceSub, Array.replicate_succ, Array.replicate_zero, List.push_toArray, List.append_toArray, List.nil_append, List.cons_append]
  gi_wp2_with (refine ⟨trivial, ?_⟩; gi_at_call 12; refine (callsIn_wide.2 HL0.out).mono ?_; rintro e w' ⟨rfl, hw'⟩; have hw' := hw'.symm; subst hw')
  gi_loopw [4] (fun i wr => ∃ k : Nat, k ≤ len ∧ i = .int .i64 k ∧ Hid (J (uptoC ks k) wr) ∧ Hid (Below n₀ W wr) ∧ Hid (wr.heap[Bs]? = some (.cells #[.pointer (some ⟨p, 0, none⟩)] tb (0, 0))))
    (fun i _ => len - (intOf i).toNat)
  case atStart => exact ⟨0, Nat.zero_le _, rfl, h0, Below.refl _ _, hBs⟩
  case round =>
    obtain ⟨k, hk, rfl, hJs, hnx, hbx⟩ := hrel
    have hTr := ids_below HT.out hnx.out hn0 hp hm HA.out
    have hbc := box_cell hbx.out
    have HLr := lenCon_any hTr
    rw [← HLN.out] at HLr
    replace HLr := hide HLr
    by_cases hlt : k < len
    · obtain ⟨c, hc⟩ : ∃ c, ks[k]? = some c := ⟨_, List.getElem?_eq_getElem (by have := HLN.out; omega)⟩
      obtain ⟨fn, tmps, assign, body, hy, hR⟩ := hY.out _ (k, c) wr hJs.out (by rw [uptoC_length]; have := HLN.out; omega)
      dsimp only [encC] at hy
      obtain ⟨g, cur, hao, _⟩ := hTr.lies (by have := HLN.out; omega)
      have e0 := hTr.cellAt (j := 0) lenCells hao hc rfl
      have e1 := hTr.cellAt (j := 1) lenCells hao hc rfl
      have e2 := hTr.cellAt (j := 2) lenCells hao hc rfl
      simp only [Nat.add_zero] at e0
      have c0 := hTr.c0
      rw [← HLN.out, hao] at c0
      have hkl : (k : Int) < (len : Int) := by omega
      have HTr := hide hTr
      clear hTr
      subst hao
      gi_wp2_with (refine ⟨trivial, ?_⟩; gi_at_call 12; refine (callsIn_wide.2 HLr.out).mono ?_; rintro e w' ⟨rfl, hw'⟩; have hw' := hw'.symm; subst hw')
      refine hR.mono ?_
      rintro e W3 (⟨rfl, hJ3, hk3⟩ | ⟨rfl, hJx3⟩)
      · have HJ3 := hide hJ3
        have HK3 := hide hk3
        clear hJ3 hk3 hy hR e0 e1 e2 c0 hbc HTr HLr
        gi_wp2
        go_roundw
        case rel => exact ⟨k + 1, by omega, by simp, by rw [uptoC_succ ks k hc]; exact HJ3, hnx.out.trans HK3.out.1, HK3.out.2 _ _ hbx.out⟩
        case measure => simp [intOf]; omega
      · gi_wp2
        refine bodyPost_ret (results_none rfl _ _ _) rfl ?_
        exact ⟨⟨_, rfl⟩, .inr ⟨_, ⟨k + 1, by omega, (uptoC_succ ks k hc).symm⟩, hJx3⟩⟩
    · obtain rfl : k = len := by omega
      have hkl : ¬ (k : Int) < (k : Int) := by omega
      gi_wp2_with (refine ⟨trivial, ?_⟩; gi_at_call 12; refine (callsIn_wide.2 HLr.out).mono ?_; rintro e w' ⟨rfl, hw'⟩; have hw' := hw'.symm; subst hw')
      go_end0
      exact ⟨⟨_, rfl⟩, .inl ⟨_, by rw [HLN.out], hJs.out⟩⟩

theorem allCon_stops (n : Nat) (hn : 1 ≤ n) {ts tb : TypeId} {base Bs n₀ p m nn cap : Nat} {ao : Option Addr} {ks : List Con} (w : World) (hT : ConIdsT ts base w p m nn ao cap ks) (hl : ks.length < 2199023255552) (hn0 : n₀ ≤ w.heap.size) (hp : p < n₀) (hm : m < n₀) (ha : ∀ a, ao = some a → a.block < n₀)
    (hBs : w.heap[Bs]? = some (.cells #[.pointer (some ⟨p, 0, none⟩)] tb (0, 0))) :
    SeqStopsK Fence.wide n Try.prog 65 #[.pointer (some ⟨Bs, 0, none⟩)] encC (KpI n₀ Bs) (fun ys => ys = uptoC ks ks.length) (fun pre => ∃ k, k ≤ ks.length ∧ pre = uptoC ks k) ks.length w := fun l J Jx W hW _ _ hY h0 =>
  allCon1_in n hn J Jx hY W (hT.grow hW) hl (Nat.le_trans hn0 hW.size) hp hm ha ((hW.block Bs (Array.getElem?_eq_some_iff.1 hBs).1).trans hBs) h0

theorem allCon_any (p : Nat) (w : World) : Calls Try.prog 43 #[.pointer (some ⟨p, 0, none⟩)] w fun e w' => e = .returned (.func (.func 65) #[] #[.pointer (some ⟨w.heap.size, 0, none⟩)]) ∧ w' = w.alloc (.cells #[.pointer (some ⟨p, 0, none⟩)] 87) := by
  go_enter Try.func43, Try.ntmps43
  go_wp2
  go_ret
  exact ⟨rfl, rfl⟩
end Go.Proofs.Ythhoiejjejdffaa
