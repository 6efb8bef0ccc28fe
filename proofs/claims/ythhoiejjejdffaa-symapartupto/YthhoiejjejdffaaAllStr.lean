/- Ranging over an Ids of strings: All's function gives every id with its key, in order, to a body that leaves the Ids as it is. -/
import Derived.Test.YthhoiejjejdffaaAllCon
import Derived.Test.YthhoiejjejdffaaIdsStr
namespace Go.Proofs.Ythhoiejjejdffaa
set_option linter.unusedSimpArgs false
set_option linter.unusedVariables false
open Go.RowKit Go.Maps Go.Shelf
attribute [local go_sem] Oper.semAt_some

def encS2 (x : Nat × ByteArray) : Array Value := #[.int .i64 (x.1 : Int), .string x.2]
def uptoS (ks : List ByteArray) (k : Nat) : List (Nat × ByteArray) := (List.range k).map fun j => (j, ks[j]?.getD ⟨#[]⟩)
theorem uptoS_succ (ks : List ByteArray) (k : Nat) {c : ByteArray} (h : ks[k]? = some c) : uptoS ks (k + 1) = uptoS ks k ++ [(k, c)] := by simp [uptoS, List.range_succ, h]
theorem uptoS_length (ks : List ByteArray) (k : Nat) : (uptoS ks k).length = k := by simp [uptoS]

theorem ids_belowS {base n₀ : Nat} {w w' : World} {p m n : Nat} {ao : Option Addr} {cap : Nat} {ks : List ByteArray} (h : StrIds base w p m n ao cap ks) (hb : Below n₀ w w') (hn : n₀ ≤ w.heap.size) (hp : p < n₀) (hm : m < n₀) (ha : ∀ a, ao = some a → a.block < n₀) : StrIds base w' p m n ao cap ks :=
  h.only (only_of_below hb hn) (by omega) (by omega) (fun a e => by have := ha a e; omega)

set_option maxRecDepth 100000 in
set_option maxHeartbeats 2000000 in
theorem allStr1_in (n : Nat) (hn : 1 ≤ n) {tb : TypeId} {base l Bs n₀ p m nn cap : Nat} {ao : Option Addr} {ks : List ByteArray} (J Jx : List (Nat × ByteArray) → World → Prop)
    (hY : ∀ pre x W, J pre W → pre.length < ks.length → YieldAt Fence.wide (n - 1) Try.prog l (encS2 x) W fun e W' =>
      (e = .returned (.bool true) ∧ J (pre ++ [x]) W' ∧ KpI n₀ Bs W W') ∨ (e = .returned (.bool false) ∧ Jx (pre ++ [x]) W'))
    (W : World) (hT : StrIds base W p m nn ao cap ks) (hl : ks.length < 2199023255552) (hn0 : n₀ ≤ W.heap.size) (hp : p < n₀) (hm : m < n₀) (ha : ∀ a, ao = some a → a.block < n₀)
    (hBs : W.heap[Bs]? = some (.cells #[.pointer (some ⟨p, 0, none⟩)] tb (0, 0))) (h0 : J [] W) :
    CallsIn Fence.wide n Try.prog 71 #[.func (.yield l) #[] #[], .pointer (some ⟨Bs, 0, none⟩)] W fun e W' => (∃ v, e = .returned v) ∧
      ((∃ ys, ys = uptoS ks ks.length ∧ J ys W') ∨ (∃ pre, (∃ k, k ≤ ks.length ∧ pre = uptoS ks k) ∧ Jx pre W')) := by
  obtain ⟨len, hlen⟩ : ∃ len, len = ks.length := ⟨_, rfl⟩
  have HLN := hide hlen
  replace hY := hide hY
  have HL0 := lenStr_any hT
  have HT := hide hT
  have HA := hide ha
  rw [← hlen] at HL0 ⊢
  rw [← hlen] at hl
  clear hlen hT ha
  have hb0 := box_cell hBs
  replace HL0 := hide HL0
  refine callsIn_of_wp Try.func71 rfl trivial ?_ rfl
  simp only [Try.ntmps71, List.size_toArray, List.length_cons, List.length_nil, Nat.reduceAdd, Nat.reduceSub, Array.replicate_succ, Array.replicate_zero, List.push_toArray, List.append_toArray, List.nil_append, List.cons_append]
  gi_wp2_with (refine ⟨trivial, ?_⟩; gi_at_call 21; refine (callsIn_wide.2 HL0.out).mono ?_; rintro e w' ⟨rfl, hw'⟩; have hw' := hw'.symm; subst hw')
  gi_loopw [4] (fun i wr => ∃ k : Nat, k ≤ len ∧ i = .int .i64 k ∧ Hid (J (uptoS ks k) wr) ∧ Hid (Below n₀ W wr) ∧ Hid (wr.heap[Bs]? = some (.cells #[.pointer (some ⟨p, 0, none⟩)] tb (0, 0))))
    (fun i _ => len - (intOf i).toNat)
  case atStart => exact ⟨0, Nat.zero_le _, rfl, h0, Below.refl _ _, hBs⟩
  case round =>
    obtain ⟨k, hk, rfl, hJs, hnx, hbx⟩ := hrel
    have hTr := ids_belowS HT.out hnx.out hn0 hp hm HA.out
    have hbc := box_cell hbx.out
    have HLr := lenStr_any hTr
    rw [← HLN.out] at HLr
    replace HLr := hide HLr
    by_cases hlt : k < len
    · obtain ⟨c, hc⟩ : ∃ c, ks[k]? = some c := ⟨_, List.getElem?_eq_getElem (by have := HLN.out; omega)⟩
      obtain ⟨fn, tmps, assign, body, hy, hR⟩ := hY.out _ (k, c) wr hJs.out (by rw [uptoS_length]; have := HLN.out; omega)
      dsimp only [encS2] at hy
      obtain ⟨g, cur, hao, _⟩ := hTr.lies (by have := HLN.out; omega)
      have e0 := hTr.cellAt (j := 0) cellsStr hao hc rfl
      simp only [Nat.add_zero, Nat.mul_one] at e0
      have c0 := hTr.c0
      rw [← HLN.out, hao] at c0
      have hkl : (k : Int) < (len : Int) := by omega
      have HTr := hide hTr
      clear hTr
      subst hao
      gi_wp2_with (refine ⟨trivial, ?_⟩; gi_at_call 21; refine (callsIn_wide.2 HLr.out).mono ?_; rintro e w' ⟨rfl, hw'⟩; have hw' := hw'.symm; subst hw')
      refine hR.mono ?_
      rintro e W3 (⟨rfl, hJ3, hk3⟩ | ⟨rfl, hJx3⟩)
      · have HJ3 := hide hJ3
        have HK3 := hide hk3
        clear hJ3 hk3 hy hR e0 c0 hbc HTr HLr
        gi_wp2
        go_roundw
        case rel => exact ⟨k + 1, by omega, by simp, by rw [uptoS_succ ks k hc]; exact HJ3, hnx.out.trans HK3.out.1, HK3.out.2 _ _ hbx.out⟩
        case measure => simp [intOf]; omega
      · gi_wp2
        refine bodyPost_ret (results_none rfl _ _ _) rfl ?_
        exact ⟨⟨_, rfl⟩, .inr ⟨_, ⟨k + 1, by omega, (uptoS_succ ks k hc).symm⟩, hJx3⟩⟩
    · obtain rfl : k = len := by omega
      have hkl : ¬ (k : Int) < (k : Int) := by omega
      gi_wp2_with (refine ⟨trivial, ?_⟩; gi_at_call 21; refine (callsIn_wide.2 HLr.out).mono ?_; rintro e w' ⟨rfl, hw'⟩; have hw' := hw'.symm; subst hw')
      go_end0
      exact ⟨⟨_, rfl⟩, .inl ⟨_, by rw [HLN.out], hJs.out⟩⟩

theorem allStr_stops (n : Nat) (hn : 1 ≤ n) {tb : TypeId} {base Bs n₀ p m nn cap : Nat} {ao : Option Addr} {ks : List ByteArray} (w : World) (hT : StrIds base w p m nn ao cap ks) (hl : ks.length < 2199023255552) (hn0 : n₀ ≤ w.heap.size) (hp : p < n₀) (hm : m < n₀) (ha : ∀ a, ao = some a → a.block < n₀)
    (hBs : w.heap[Bs]? = some (.cells #[.pointer (some ⟨p, 0, none⟩)] tb (0, 0))) :
    SeqStopsK Fence.wide n Try.prog 71 #[.pointer (some ⟨Bs, 0, none⟩)] encS2 (KpI n₀ Bs) (fun ys => ys = uptoS ks ks.length) (fun pre => ∃ k, k ≤ ks.length ∧ pre = uptoS ks k) ks.length w := fun l J Jx W hW _ _ hY h0 =>
  allStr1_in n hn J Jx hY W (hT.grow hW) hl (Nat.le_trans hn0 hW.size) hp hm ha ((hW.block Bs (Array.getElem?_eq_some_iff.1 hBs).1).trans hBs) h0

theorem allStr_any (p : Nat) (w : World) : Calls Try.prog 48 #[.pointer (some ⟨p, 0, none⟩)] w fun e w' => e = .returned (.func (.func 71) #[] #[.pointer (some ⟨w.heap.size, 0, none⟩)]) ∧ w' = w.alloc (.cells #[.pointer (some ⟨p, 0, none⟩)] 26) := by
  go_enter Try.func48, Try.ntmps48
  go_wp2
  go_ret
  exact ⟨rfl, rfl⟩
end Go.Proofs.Ythhoiejjejdffaa
