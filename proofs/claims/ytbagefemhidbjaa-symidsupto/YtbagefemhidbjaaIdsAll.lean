/- edictlaw01's idsStep: All, and All ahead of a Cut. -/
import Derived.Test.YtbagefemhidbjaaIdsSteps
namespace Go.Proofs.Ytbagefemhidbjaa
set_option linter.unusedSimpArgs false
set_option linter.unusedVariables false
open Go.RowKit Go.Maps

variable {w0 W : World} {p m py : Nat} {ao : Option Addr} {v : Value} {ks kx ky : List ByteArray} {b : Nat}

theorem take_dOf (qs : List ByteArray) (z : Int) : qs.take z.toNat = qs.take (dOf qs.length z) := by
  unfold dOf
  rcases Nat.le_total qs.length z.toNat with h | h
  · rw [Nat.min_eq_left h, List.take_of_length_le h, List.take_of_length_le (Nat.le_refl _)]
  · rw [Nat.min_eq_right h]

theorem SL.strs {w W : World} {a : Option Addr} {n cap : Nat} {xs : List ByteArray} (h : SL w W (.slice a n cap) xs) (hn : xs.length = n) (hl : n ≤ 4194304) (hs : ∀ s ∈ xs, s.size ≤ 140737488351232) : IsStrs W a n xs := IsStrs.of h.row hn hl hs

theorem SL.keep {w W W' : World} {S : Nat → Prop} {v : Value} {xs : List ByteArray} (h : SL w W v xs) (ho : Only S W W') (hS : ∀ q, S q → q < w.heap.size) (hb : Below w.heap.size w W') : SL w W' v xs := by
  refine ⟨⟨h.row.1, ?_⟩, hb⟩
  rcases h.row.2 with h0 | ⟨g, cap, cur, hv, hbase, hblk, rest⟩
  · exact .inl h0
  · refine .inr ⟨g, cap, cur, hv, hbase, ?_, rest⟩
    rw [ho.block g (Array.getElem?_eq_some_iff.1 hblk).1 (fun hs => by have := hS g hs; omega)]
    exact hblk

theorem strs_kept {W W' : World} {a : Option Addr} {n : Nat} {xs : List ByteArray} (h : IsStrs W a n xs) (hb : Below W.heap.size W W') : IsStrs W' a n xs := by
  obtain ⟨h1, h2, h3, h4⟩ := h
  refine ⟨h1, h2, h3, fun h0 => ?_⟩
  obtain ⟨bb, off, ha, hr⟩ := h4 h0
  exact ⟨bb, off, ha, fun i s hi => kept_cell hb (hr i s hi)⟩

theorem strs_only {W W' : World} {S : Nat → Prop} {a : Option Addr} {n : Nat} {xs : List ByteArray} {w : World} {v : Value} {cap : Nat} (h : SL w W (.slice a n cap) xs) (hi : IsStrs W a n xs) (ho : Only S W W') (hS : ∀ q, S q → q < w.heap.size) : IsStrs W' a n xs := by
  obtain ⟨h1, h2, h3, h4⟩ := hi
  refine ⟨h1, h2, h3, fun h0 => ?_⟩
  obtain ⟨bb, off, ha, hr⟩ := h4 h0
  refine ⟨bb, off, ha, fun i s hi => ho.cell (hr i s hi) (fun hs => ?_)⟩
  have h5 := hS _ hs
  have h6 := (h.row.lt bb (by rw [ha]; rfl)).1
  simp only at h5
  omega

theorem sl_cap {w W : World} {a : Option Addr} {n cap : Nat} {xs : List ByteArray} (h : SL w W (.slice a n cap) xs) (hn : xs.length = n) : n ≤ cap ∧ cap ≤ maxLen := by
  rcases h.row.2 with ⟨h0, h1⟩ | ⟨g, cap', cur, hv, _, _, h1, h2, _⟩
  · simp only [Value.slice.injEq] at h0
    obtain ⟨_, rfl, rfl⟩ := h0
    exact ⟨Nat.le_refl _, Nat.zero_le _⟩
  · simp only [Value.slice.injEq] at hv
    obtain ⟨_, rfl, rfl⟩ := hv
    exact ⟨by omega, h2⟩

theorem Duo.every (h : Duo w0 W p m py ao v ks ks b) (hbl : b + 1 < 2097152) {k : ByteArray} (z : Int) (hk : k.size ≤ 140737488351232) :
    Calls Try.prog 32 #[.pointer (some ⟨p, 0, none⟩), .string k, .int .i64 z] W fun e w' => ∃ a1 n1 c1 a2 n2 c2, e = .returned (.tuple #[.slice a1 n1 c1, .slice a2 n2 c2, .bool true]) ∧ Hid (∃ w1 ao', IntSaid W p m ao (b + 1) (addS ks k) w1 ∧ Duo w0 w1 p m py ao' v (addS ks k) ks (b + 1) ∧ SL w1 w' (.slice a1 n1 c1) ((addS ks k).take z.toNat) ∧ SL w1 w' (.slice a2 n2 c2) (addS ks k) ∧ ((addS ks k).take z.toNat).length = n1 ∧ (addS ks k).length = n2) := by
  have hal := addS_len ks k
  have hlx := h.lx
  have hint : ∀ V, Below W.heap.size W V → Calls Try.prog 28 #[.pointer (some ⟨p, 0, none⟩), .string k] V fun e w' => (∃ i, e = .returned (.int .i64 i)) ∧ Hid (IntSaid V p m ao (b + 1) (addS ks k) w') := fun V hb => (h.int (by omega) hk hb).mono fun e w' ⟨he, hI⟩ => ⟨⟨_, he⟩, hI⟩
  have hall : Calls Try.prog 32 #[.pointer (some ⟨p, 0, none⟩), .string k, .int .i64 z] W fun e w' => ∃ v1 v2, e = .returned (.tuple #[v1, v2, .bool true]) ∧ Hid (∃ w1, IntSaid W p m ao (b + 1) (addS ks k) w1 ∧ SL w1 w' v1 ((addS ks k).take z.toNat) ∧ SL w1 w' v2 (addS ks k) ∧ W.heap.size ≤ w1.heap.size) := by
    by_cases hz : 0 < z
    · exact every_gt k z hz (h.xlt (.inl rfl)) (h.xlt (.inr (.inl rfl))) (fun a ha => h.xlt (.inr (.inr ⟨a, ha, rfl⟩))) hint (by omega)
    · exact every_le k z (by omega) (h.xlt (.inl rfl)) (h.xlt (.inr (.inl rfl))) (fun a ha => h.xlt (.inr (.inr ⟨a, ha, rfl⟩))) hint (by omega)
  refine hall.mono ?_
  rintro e w' ⟨v1, v2, rfl, hp⟩
  obtain ⟨w1, hI, s1, s2, _⟩ := hp.out
  obtain ⟨ao', hD⟩ := h.symTo hI (Nat.le_refl _) (Nat.le_succ b) (addS_nodup h.ndx k) (addS_ok (fun s hs => h.ok s (.inl hs)) hk) (by omega)
  obtain ⟨a1, c1, rfl⟩ := s1.shape
  obtain ⟨a2, c2, rfl⟩ := s2.shape
  exact ⟨_, _, _, _, _, _, rfl, w1, ao', hI, hD, s1, s2, rfl, rfl⟩
end Go.Proofs.Ytbagefemhidbjaa
