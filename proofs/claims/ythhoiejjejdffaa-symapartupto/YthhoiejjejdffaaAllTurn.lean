/- Ranging over an Ids of strings whose rounds change it: All's function ends, and gives no more than there were when it began. -/
import Derived.Test.YthhoiejjejdffaaAllStr
import Derived.RangeFuncWrites
namespace Go.Proofs.Ythhoiejjejdffaa
set_option linter.unusedSimpArgs false
set_option linter.unusedVariables false
open Go.RowKit Go.Maps Go.Shelf
attribute [local go_sem] Oper.semAt_some

/-- At block p lies an Ids with the map m, and the box Bs leads to it. -/
def IdsSt (tb : TypeId) (p m Bs : Nat) (W : World) : Prop :=
  (∃ n ao cap ks, StrIds 0 W p m n ao cap ks ∧ ks.length < 2199023255552) ∧ W.heap[Bs]? = some (.cells #[.pointer (some ⟨p, 0, none⟩)] tb (0, 0))

/-- What a round keeps: that there is an Ids. -/
def KpS (tb : TypeId) (p m Bs : Nat) (W W' : World) : Prop := IdsSt tb p m Bs W → IdsSt tb p m Bs W'

theorem kpS_t {tb : TypeId} {p m Bs : Nat} {A B C : World} (h : KpS tb p m Bs A B) (k : KpS tb p m Bs B C) : KpS tb p m Bs A C := fun x => k (h x)

theorem only_putObj (W : World) (l : Nat) (o : Obj) : Only (fun k => k = l) W (W.putObj l o) :=
  ⟨rfl, rfl, rfl, by simp [World.putObj], fun k _ hk => World.putObj_heap_other hk⟩

theorem only_grown {W W' : World} {row : Option Nat} (hg : W.grownBy W' row) : Only (fun k => row = some k) W W' :=
  ⟨hg.os, hg.tape, hg.output, hg.size, fun k hk hn => hg.block k hk (fun e => hn e.symm)⟩

/-- An Ids is as it was where only one block is changed that is no cells and not its map. -/
theorem ids_noncell {base : Nat} {W W' : World} {p m n : Nat} {ao : Option Addr} {cap : Nat} {ks : List ByteArray} {S : Nat → Prop} (h : StrIds base W p m n ao cap ks) (ho : Only S W W') (hS : ∀ k, S k → k ≠ m ∧ ∀ o, W.heap[k]? = some o → o.isCells = false) : StrIds base W' p m n ao cap ks := by
  have hc : ∀ k c t f, W.heap[k]? = some (.cells c t f) → ¬ S k := fun k c t f hk hs => by
    have := (hS k hs).2 _ hk
    cases this
  refine h.only ho (hc _ _ _ _ h.fields) (fun hs => (hS m hs).1 rfl) ?_
  intro a ha
  rcases h.kind (.inr (.inr ⟨a, ha, rfl⟩)) with ⟨c, hk⟩ | hk | ⟨c, hk⟩
  · exact hc _ _ _ _ hk
  · exact fun hs => (hS _ hs).1 hk
  · exact hc _ _ _ _ hk

theorem kpS_b {tb : TypeId} {p m Bs : Nat} {w : World} (hm : m < w.heap.size) (W : World) (l : Nat) (o o' : Obj) (hl : w.heap.size ≤ l) (ho : W.heap[l]? = some o) (h1 : o.isCells = false) (_ : o.isWalk = false) : KpS tb p m Bs W (W.putObj l o') := by
  rintro ⟨⟨n, ao, cap, ks, hI, hl2⟩, hb⟩
  refine ⟨⟨n, ao, cap, ks, ids_noncell hI (only_putObj W l o') ?_, hl2⟩, ?_⟩
  · rintro k rfl
    exact ⟨by omega, fun q hq => by rw [ho] at hq; cases hq; exact h1⟩
  · rw [World.putObj_heap_other (by rintro rfl; rw [ho] at hb; cases hb; cases h1)]
    exact hb

set_option maxRecDepth 100000 in
set_option maxHeartbeats 2000000 in
theorem allTurn1_in (n : Nat) (hn : 1 ≤ n) {tb : TypeId} {l Bs p m nn cap : Nat} {ao : Option Addr} {ks : List ByteArray} (J Jx : List (Nat × ByteArray) → World → Prop)
    (hY : ∀ pre x W, J pre W → pre.length < ks.length → YieldAt Fence.wide (n - 1) Try.prog l (encS2 x) W fun e W' =>
      (e = .returned (.bool true) ∧ J (pre ++ [x]) W' ∧ KpS tb p m Bs W W') ∨ (e = .returned (.bool false) ∧ Jx (pre ++ [x]) W'))
    (W : World) (hT : StrIds 0 W p m nn ao cap ks) (hl : ks.length < 2199023255552)
    (hBs : W.heap[Bs]? = some (.cells #[.pointer (some ⟨p, 0, none⟩)] tb (0, 0))) (h0 : J [] W) :
    CallsIn Fence.wide n Try.prog 71 #[.func (.yield l) #[] #[], .pointer (some ⟨Bs, 0, none⟩)] W fun e W' => (∃ v, e = .returned v) ∧
      ((∃ ys, (ys.length ≤ ks.length ∧ (0 < ks.length → 0 < ys.length)) ∧ J ys W') ∨ (∃ pre, True ∧ Jx pre W')) := by
  obtain ⟨len, hlen⟩ : ∃ len, len = ks.length := ⟨_, rfl⟩
  have HLN := hide hlen
  replace hY := hide hY
  have HL0 := lenStr_any hT
  have HT := hide hT
  rw [← hlen] at HL0 ⊢
  rw [← hlen] at hl
  clear hlen hT
  have hb0 := box_cell hBs
  replace HL0 := hide HL0
  refine callsIn_of_wp Try.func71 rfl trivial ?_ rfl
  simp only [Try.ntmps71, List.size_toArray, List.length_cons, List.length_nil, Nat.reduceAdd, Nat.reduceSub, Array.replicate_succ, Array.replicate_zero, List.push_toArray, List.append_toArray, List.nil_append, List.cons_append]
  gi_wp2_with (refine ⟨trivial, ?_⟩; gi_at_call 21; refine (callsIn_wide.2 HL0.out).mono ?_; rintro e w' ⟨rfl, hw'⟩; have hw' := hw'.symm; subst hw')
  gi_loopw [4] (fun i wr => ∃ (k : Nat) (pre : List (Nat × ByteArray)), k ≤ len ∧ i = .int .i64 k ∧ Hid (pre.length = k) ∧ Hid (J pre wr) ∧ Hid (IdsSt tb p m Bs wr) ∧ Hid (k = 0 → StrIds 0 wr p m nn ao cap ks))
    (fun i _ => len - (intOf i).toNat)
  case atStart => exact ⟨0, [], Nat.zero_le _, rfl, rfl, h0, ⟨⟨nn, ao, cap, ks, HT.out, by have := HLN.out; omega⟩, hBs⟩, fun _ => HT.out⟩
  case round =>
    obtain ⟨k, pre, hk, rfl, hpl, hJs, hst, hz⟩ := hrel
    obtain ⟨n2, ao2, cap2, ks2, hTr, hl2, hk0⟩ : ∃ n2 ao2 cap2 ks2, StrIds 0 wr p m n2 ao2 cap2 ks2 ∧ ks2.length < 2199023255552 ∧ (k = 0 → ks2.length = len) := by
      by_cases h0 : k = 0
      · exact ⟨nn, ao, cap, ks, hz.out h0, by have := HLN.out; omega, fun _ => HLN.out.symm⟩
      · obtain ⟨n2, ao2, cap2, ks2, h1, h2⟩ := hst.out.1
        exact ⟨n2, ao2, cap2, ks2, h1, h2, fun e => absurd e h0⟩
    have hbc := box_cell hst.out.2
    have HLr := lenStr_any hTr
    obtain ⟨len2, hlen2⟩ : ∃ len2, len2 = ks2.length := ⟨_, rfl⟩
    have HLN2 := hide hlen2
    rw [← hlen2] at HLr hk0 hl2
    clear hlen2
    replace HLr := hide HLr
    have HK0 := hide hk0
    clear hk0
    by_cases hlt : k < len ∧ k < len2
    · obtain ⟨c, hc⟩ : ∃ c, ks2[k]? = some c := ⟨_, List.getElem?_eq_getElem (by have := HLN2.out; omega)⟩
      obtain ⟨fn, tmps, assign, body, hy, hR⟩ := hY.out pre (k, c) wr hJs.out (by have := HLN.out; have := hpl.out; omega)
      dsimp only [encS2] at hy
      obtain ⟨g, cur, hao, _⟩ := hTr.lies (by have := HLN2.out; omega)
      have e0 := hTr.cellAt (j := 0) cellsStr hao hc rfl
      simp only [Nat.add_zero, Nat.mul_one] at e0
      have c0 := hTr.c0
      rw [← HLN2.out, hao] at c0
      have hkl : (k : Int) < min (len : Int) (len2 : Int) := by omega
      have hk2 : (k : Int) < (len2 : Int) := by omega
      have HTr := hide hTr
      clear hTr
      subst hao
      have hkn : (k : Int) < (len : Int) := by omega
      by_cases hmm : len2 < len
      all_goals (
          gi_wp2_with (refine ⟨trivial, ?_⟩; gi_at_call 21; refine (callsIn_wide.2 HLr.out).mono ?_; rintro e w' ⟨rfl, hw'⟩; have hw' := hw'.symm; subst hw')
          refine hR.mono ?_
          rintro e W3 (⟨rfl, hJ3, hk3⟩ | ⟨rfl, hJx3⟩)
          · have HJ3 := hide hJ3
            have HK3 := hide hk3
            clear hJ3 hk3 hy hR e0 c0 hbc HTr HLr
            gi_wp2
            go_roundw
            case rel => exact ⟨k + 1, pre ++ [(k, c)], by omega, by simp, by rw [List.length_append, hpl.out]; rfl, HJ3, HK3.out hst.out, fun e => absurd e (by omega)⟩
            case measure => simp [intOf]; omega
          · gi_wp2
            refine bodyPost_ret (results_none rfl _ _ _) rfl ?_
            exact ⟨⟨_, rfl⟩, .inr ⟨_, trivial, hJx3⟩⟩)
    · have hkl : ¬ (k : Int) < min (len : Int) (len2 : Int) := by omega
      have hkm : len2 < len → (len2 : Int) ≤ (k : Int) := by omega
      have hkm2 : ¬ len2 < len → (len : Int) ≤ (k : Int) := by omega
      by_cases hmm : len2 < len
      all_goals (
          first | replace hkm := hkm hmm | replace hkm := hkm2 hmm
          clear hkm2
          gi_wp2_with (refine ⟨trivial, ?_⟩; gi_at_call 21; refine (callsIn_wide.2 HLr.out).mono ?_; rintro e w' ⟨rfl, hw'⟩; have hw' := hw'.symm; subst hw')
          go_end0
          refine ⟨⟨_, rfl⟩, .inl ⟨pre, ⟨by have := hpl.out; omega, fun h => ?_⟩, hJs.out⟩⟩
          have := hpl.out
          have := HK0.out
          omega)

theorem allTurn_stops (n : Nat) (hn : 1 ≤ n) {tb : TypeId} {Bs p m nn cap : Nat} {ao : Option Addr} {ks : List ByteArray} (w : World) (hT : StrIds 0 w p m nn ao cap ks) (hl : ks.length < 2199023255552)
    (hBs : w.heap[Bs]? = some (.cells #[.pointer (some ⟨p, 0, none⟩)] tb (0, 0))) :
    SeqStopsK Fence.wide n Try.prog 71 #[.pointer (some ⟨Bs, 0, none⟩)] encS2 (KpS tb p m Bs) (fun ys => ys.length ≤ ks.length ∧ (0 < ks.length → 0 < ys.length)) (fun _ => True) ks.length w := fun l J Jx W hW _ _ hY h0 =>
  allTurn1_in n hn J Jx hY W (hT.grow hW) hl ((hW.block Bs (Array.getElem?_eq_some_iff.1 hBs).1).trans hBs) h0
end Go.Proofs.Ythhoiejjejdffaa
