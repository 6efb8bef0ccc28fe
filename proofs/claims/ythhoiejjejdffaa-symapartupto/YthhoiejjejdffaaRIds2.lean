/- The document's Ids: All, Cut, NewIds. -/
import Derived.Test.YthhoiejjejdffaaRIds
import Derived.Test.YthhoiejjejdffaaNewStr
import Derived.Deep.DeepCutAuto
namespace Go.Proofs.Ythhoiejjejdffaa
set_option linter.unusedSimpArgs false
set_option linter.unusedVariables false
open Go.RowKit Go.Maps

variable {base : Nat} {w w' : World} {p : Nat} {v : Value} {ks : List ByteArray}

/-- A list of strings in memory made since w. -/
structure SL (w W : World) (v : Value) (xs : List ByteArray) : Prop where
  row : W.ownsRow w.heap.size 9 1 v xs.length (xs.map Value.string)
  bel : Below w.heap.size w W

theorem SL.nil (w : World) : SL w w (.slice none 0 0) [] := ⟨World.ownsRow_nil _ _ _ _, Below.refl _ _⟩
theorem SL.shape {W : World} {xs : List ByteArray} (h : SL w W v xs) : ∃ a cap, v = .slice a xs.length cap := by
  rcases h.row.2 with ⟨rfl, h0⟩ | ⟨g, cap, cur, rfl, _⟩
  · exact ⟨none, 0, by rw [h0]⟩
  · exact ⟨_, cap, rfl⟩
theorem SL.push {W W4 : World} {xs : List ByteArray} (h : SL w W v xs) {tmp : Obj} {k : ByteArray} {gg cap' : Nat} (hown : W4.ownsRow w.heap.size 9 1 (.slice (some ⟨gg, 0, none⟩) (xs.length + 1) cap') (xs.length + 1) (xs.map Value.string ++ [.string k]))
    (hg : (W.alloc tmp).grownBy W4 v.ownBlock) : SL w W4 (.slice (some ⟨gg, 0, none⟩) (xs.length + 1) cap') (xs ++ [k]) := by
  refine ⟨?_, ?_⟩
  · rw [List.map_append, List.length_append]; exact hown
  · have hb := h.bel.alloc h.bel.size tmp
    exact hb.grown hg hb.size (fun q hq => (h.row.lt q hq).1)

theorem IsStrs.of {W : World} {xs : List ByteArray} {a : Option Addr} {n cap : Nat} {b : Nat} (h : W.ownsRow b 9 1 (.slice a n cap) xs.length (xs.map Value.string)) (hn : xs.length = n) (hl : n ≤ 4194304) (hs : ∀ s ∈ xs, s.size ≤ 140737488351232) : IsStrs W a n xs := by
  refine ⟨hn, by omega, hs, fun h0 => ?_⟩
  rcases h.2 with ⟨_, h1⟩ | ⟨g, cap', cur, hv, _⟩
  · omega
  · simp only [Value.slice.injEq] at hv
    refine ⟨g, 0, hv.1, fun i s hi => ?_⟩
    obtain ⟨g', c', hv', hc⟩ := str_cell h hi
    simp only [Value.slice.injEq, hv.1, Option.some.injEq, Addr.mk.injEq] at hv'
    rw [Nat.zero_add, hv'.1.1]; exact hc

set_option maxRecDepth 100000 in
set_option maxHeartbeats 1000000 in
theorem rall_any (h : RIds base w p v ks) (hl : ks.length < 2199023255552) :
    Calls Try.prog 33 #[.pointer (some ⟨p, 0, none⟩)] w fun e w' => ∃ v', e = .returned v' ∧ Hid (SL w w' v' ks) := by
  obtain ⟨i0, hi0, hz0, hz1, hz2⟩ := info_parts Try.infoStr
  obtain ⟨a, cap, rfl⟩ := h.shape
  have c0 := h.c0
  have HC : Hid (∀ j s, ks[j]? = some s → ∃ g, a = some ⟨g, 0, none⟩ ∧ w.cell? ⟨g, j, none⟩ = some (.string s)) := fun j s hj => by
    obtain ⟨g', cap', hv, hc⟩ := str_cell h.row hj
    simp only [Value.slice.injEq] at hv
    exact ⟨g', hv.1, hc⟩
  obtain ⟨len, hlen⟩ : ∃ len, len = ks.length := ⟨_, rfl⟩
  have HL := hide hlen
  rw [← hlen] at c0 hl
  clear hlen h
  go_enter Try.func33, Try.ntmps33
  go_wp2
  go_loopw [3, 4] (fun t i wr => ∃ (j : Nat) (b : Option Addr) (cp : Nat), j ≤ len ∧ i = .int .i64 j ∧ t = .slice b j cp ∧ Hid (SL w wr (.slice b j cp) (ks.take j))) (fun _ i _ => len - (intOf i).toNat)
  case atStart => exact ⟨0, none, 0, by omega, rfl, rfl, SL.nil w⟩
  case round =>
    obtain ⟨j, b, cp, hj, rfl, rfl, HS⟩ := hrel
    have HTk : Hid ((ks.take j).length = j) := by show _ = _; rw [List.length_take]; have := HL.out; omega
    have c0' := kept_cell HS.out.bel c0
    by_cases hlt : j < len
    · have hjl : (j : Int) < (len : Int) := by omega
      obtain ⟨s, hs⟩ : ∃ s, ks[j]? = some s := ⟨_, List.getElem?_eq_getElem (by have := HL.out; omega)⟩
      obtain ⟨g, rfl, hc⟩ := HC.out j s hs
      have hc' := kept_cell HS.out.bel hc
      have hrow := HS.out.row
      rw [HTk.out] at hrow
      have HRow := hide hrow
      have HNx : Hid (ks.take (j + 1) = ks.take j ++ [s]) := by show _ = _; rw [List.take_add_one, hs]; rfl
      have hws := HS.out.bel.size
      clear hrow hs hc
      go_wp2_with (at_builtin; refine wpList_append_lies _ rfl _ _ 22 rfl w.heap.size 9 i0 (.string ⟨#[]⟩) 1 16 Try.underlying22 hi0 hz0 hz1 hz2 rfl (by decide) (.slice b j cp) j ((ks.take j).map Value.string) rfl (HRow.out.alloc _) ⟨wr.heap.size, 0, none⟩ 1 1 [.string s] rfl rfl str_new (by simp [Value.oneCell']) (by decide) (by unfold maxLen; omega) (by omega) (by rw [World.size_alloc]; omega) (wr.heap.size + 1) (by rw [World.size_alloc]) ?_; intro gg cap' W4 hown1 hgrow hat hlt1; have hS4 := HS.out.push (by rw [HTk.out]; exact hown1) hgrow; rw [HTk.out] at hS4; have HS4 := hide hS4; clear hown1 hgrow hat hlt1 hS4)
      go_roundw
      case rel => exact ⟨j + 1, _, cap', by omega, by go_num, rfl, by rw [HNx.out]; exact HS4⟩
      case measure => simp [intOf]; omega
    · obtain rfl : j = len := by omega
      have hjl : ¬ (j : Int) < (j : Int) := by omega
      have HX : Hid (SL w wr (.slice b j cp) ks) := by
        have := HS.out
        rw [List.take_of_length_le (by rw [HL.out]; exact Nat.le_refl _)] at this
        exact this
      go_wp2
      go_ret
      exact ⟨_, rfl, HX⟩
end Go.Proofs.Ythhoiejjejdffaa
