/- An Ids of strings and the document's, side by side, from call to call. -/
import Derived.Test.YtbagefemhidbjaaEveryMem
import Derived.Test.YtbagefemhidbjaaRIds3
namespace Go.Proofs.Ytbagefemhidbjaa
set_option linter.unusedSimpArgs false
set_option linter.unusedVariables false
open Go.RowKit Go.Maps

structure Duo (w0 W : World) (p m py : Nat) (ao : Option Addr) (v : Value) (kx ky : List ByteArray) (b : Nat) : Prop where
  x : ∃ n cap, n ≤ b ∧ StrIds 0 W p m n ao cap kx
  y : RIds 0 W py v ky
  ap : ∀ q, foot p m ao q → ¬ footR py v q
  fr : ∀ q, foot p m ao q ∨ footR py v q → w0.heap.size ≤ q
  bel : Below w0.heap.size w0 W
  ndx : kx.Nodup
  ndy : ky.Nodup
  ok : ∀ k, k ∈ kx ∨ k ∈ ky → k.size ≤ 140737488351232
  lx : kx.length ≤ b
  ly : ky.length ≤ b

variable {w0 W W' : World} {p m py : Nat} {ao : Option Addr} {v : Value} {kx ky : List ByteArray} {b : Nat}

theorem Duo.xlt (h : Duo w0 W p m py ao v kx ky b) {q : Nat} (hq : foot p m ao q) : q < W.heap.size := by
  obtain ⟨n, cap, _, hI⟩ := h.x
  exact (hI.foot_lt (by decide) hq).1
theorem Duo.ylt (h : Duo w0 W p m py ao v kx ky b) {q : Nat} (hq : footR py v q) : q < W.heap.size := by
  rcases hq with rfl | hq
  · exact h.y.plt
  · exact (h.y.own_lt hq).2

theorem Duo.grow (h : Duo w0 W p m py ao v kx ky b) (hb : Below W.heap.size W W') : Duo w0 W' p m py ao v kx ky b := by
  obtain ⟨n, cap, hn, hI⟩ := h.x
  exact { h with x := ⟨n, cap, hn, hI.grow hb⟩, y := h.y.grow hb, bel := h.bel.trans (hb.mono h.bel.size) }

theorem Duo.symTo (h : Duo w0 W p m py ao v kx ky b) {N b' : Nat} {qs : List ByteArray} (hI : IntSaid W p m ao N qs W') (hN : N ≤ b') (hb : b ≤ b') (hnd : qs.Nodup) (hok : ∀ k ∈ qs, k.size ≤ 140737488351232) (hl : qs.length ≤ b') : ∃ ao', Duo w0 W' p m py ao' v qs ky b' := by
  obtain ⟨n, ao', cap', i1, i2, i3, i4⟩ := hI
  have hny : ∀ q, footR py v q → ¬ foot p m ao q := fun q h1 h2 => h.ap q h2 h1
  have hft : ∀ q, foot p m ao' q → foot p m ao q ∨ W.heap.size ≤ q := by
    rintro q (rfl | rfl | ⟨a, ha, rfl⟩)
    · exact .inl (.inl rfl)
    · exact .inl (.inr (.inl rfl))
    · rcases i4 a ha with h1 | h1
      · exact .inl (.inr (.inr ⟨a, h1, rfl⟩))
      · exact .inr h1
  refine ⟨ao', ⟨n, cap', by omega, i1⟩, h.y.only i3 (hny _ (.inl rfl)) (fun g hg => hny g (.inr hg)), ?_, ?_, ?_, hnd, h.ndy, ?_, hl, by have := h.ly; omega⟩
  · intro q hq hr
    rcases hft q hq with h1 | h1
    · exact h.ap q h1 hr
    · have := h.ylt hr; omega
  · rintro q (hq | hq)
    · rcases hft q hq with h1 | h1
      · exact h.fr q (.inl h1)
      · exact Nat.le_trans h.bel.size h1
    · exact h.fr q (.inr hq)
  · exact h.bel.trans (i3.below h.bel.size (fun q hq hf => by have := h.fr q (.inl hf); omega))
  · rintro k (hk | hk)
    · exact hok k hk
    · exact h.ok k (.inr hk)

theorem Duo.refTo (h : Duo w0 W p m py ao v kx ky b) {b' : Nat} {qs : List ByteArray} {v' : Value} (hR : RIds 0 W' py v' qs) (hO : Only (footR py v) W W') (hF : ∀ g, v'.ownBlock = some g → v.ownBlock = some g ∨ W.heap.size ≤ g) (hb : b ≤ b') (hnd : qs.Nodup) (hok : ∀ k ∈ qs, k.size ≤ 140737488351232) (hl : qs.length ≤ b') : Duo w0 W' p m py ao v' kx qs b' := by
  obtain ⟨n, cap, hn, hI⟩ := h.x
  have hft : ∀ q, footR py v' q → footR py v q ∨ W.heap.size ≤ q := by
    rintro q (rfl | hq)
    · exact .inl (.inl rfl)
    · rcases hF q hq with h1 | h1
      · exact .inl (.inr h1)
      · exact .inr h1
  refine ⟨⟨n, cap, by omega, hI.only hO (h.ap _ (.inl rfl)) (h.ap _ (.inr (.inl rfl))) (fun a ha => h.ap _ (.inr (.inr ⟨a, ha, rfl⟩)))⟩, hR, ?_, ?_, ?_, h.ndx, hnd, ?_, by have := h.lx; omega, hl⟩
  · intro q hq hr
    rcases hft q hr with h1 | h1
    · exact h.ap q hq h1
    · have := h.xlt hq; omega
  · rintro q (hq | hq)
    · exact h.fr q (.inl hq)
    · rcases hft q hq with h1 | h1
      · exact h.fr q (.inr h1)
      · exact Nat.le_trans h.bel.size h1
  · exact h.bel.trans (hO.below h.bel.size (fun q hq hf => by have := h.fr q (.inr hf); omega))
  · rintro k (hk | hk)
    · exact h.ok k (.inl hk)
    · exact hok k hk

open Classical in
noncomputable def posS (ks : List ByteArray) (k : ByteArray) : Nat := if h : ∃ i : Nat, ks[i]? = some k then Classical.choose h else 0
open Classical in
noncomputable def idS (ks : List ByteArray) (k : ByteArray) : Nat := if k ∈ ks then posS ks k else ks.length

theorem idx_nodup {ks : List ByteArray} {k : ByteArray} (h : k ∈ ks) : ks[posS ks k]? = some k := by
  have hex : ∃ i : Nat, ks[i]? = some k := List.getElem?_of_mem h
  unfold posS
  rw [dif_pos hex]
  exact Classical.choose_spec hex

theorem size_max {k : ByteArray} (h : k.size ≤ 140737488351232) : k.size ≤ maxLen := by unfold maxLen; omega

theorem addS_ok {ks : List ByteArray} {k : ByteArray} (h : ∀ s ∈ ks, s.size ≤ 140737488351232) (hk : k.size ≤ 140737488351232) : ∀ s ∈ addS ks k, s.size ≤ 140737488351232 := fun s hs => by
  rcases addS_mem.1 hs with h1 | rfl
  · exact h s h1
  · exact hk

theorem Duo.int (h : Duo w0 W p m py ao v kx ky b) (hbl : b < 2097152) {k : ByteArray} (hk : k.size ≤ 140737488351232) (hb : Below W.heap.size W W') :
    Calls Try.prog 28 #[.pointer (some ⟨p, 0, none⟩), .string k] W' fun e w' => e = .returned (.int .i64 (idS kx k)) ∧ Hid (IntSaid W' p m ao (b + 1) (addS kx k) w') := by
  obtain ⟨n, cap, hn, hI⟩ := h.x
  have hlx := h.lx
  by_cases hin : k ∈ kx
  · refine (internStr_old (hI.grow hb) (size_max hk) (idx_nodup hin)).mono ?_
    rintro e w' ⟨rfl, rfl⟩
    refine ⟨by unfold idS; rw [if_pos hin], ⟨n, ao, cap, ?_, by omega, Only.refl _ _, fun a ha => .inl ha⟩⟩
    unfold addS; rw [if_pos hin]; exact hI.grow hb
  · refine (internStr_new (hI.grow hb) (Nat.zero_le _) (size_max hk) hin (by omega) (by omega)).mono ?_
    rintro e w' ⟨rfl, ao', cap', i1, i2, i3⟩
    refine ⟨by unfold idS; rw [if_neg hin], ⟨n + 1, ao', cap', ?_, by omega, i2, i3⟩⟩
    unfold addS; rw [if_neg hin]; exact i1

theorem Duo.rint (h : Duo w0 W p m py ao v kx ky b) (hbl : b < 2097152) {k : ByteArray} (hk : k.size ≤ 140737488351232) (hky : (addS ky k).length ≤ b) :
    Calls Try.prog 27 #[.pointer (some ⟨py, 0, none⟩), .string k] W fun e w' => e = .returned (.int .i64 (idS ky k)) ∧ Hid (∃ v', Duo w0 w' p m py ao v' kx (addS ky k) b ∧ Only (footR py v) W w') := by
  have hly := h.ly
  by_cases hin : k ∈ ky
  · refine (rintern_old h.y h.ndy (by omega) (idx_nodup hin)).mono ?_
    rintro e w' ⟨rfl, rfl⟩
    refine ⟨by unfold idS; rw [if_pos hin], v, ?_, Only.refl _ _⟩
    unfold addS; rw [if_pos hin]
    exact h
  · refine (rintern_new h.y (Nat.zero_le _) (by omega) hin).mono ?_
    rintro e w' ⟨rfl, hp⟩
    obtain ⟨v', r1, r2, r3⟩ := hp.out
    refine ⟨by unfold idS; rw [if_neg hin], v', ?_, r2⟩
    have hnd := addS_nodup h.ndy k
    have hok := addS_ok (fun s hs => h.ok s (.inr hs)) hk
    unfold addS at hnd hok hky ⊢
    rw [if_neg hin] at hnd hok hky ⊢
    exact h.refTo r1 r2 r3 (Nat.le_refl _) hnd hok hky

/-- What a Cut leaves. -/
def dOf (n : Nat) (z : Int) : Nat := min n z.toNat
theorem dOf_is (n : Nat) (z : Int) : (dOf n z = n ∧ dOf n z ≤ z.toNat) ∨ (dOf n z = z.toNat ∧ dOf n z ≤ n) := by unfold dOf; omega

theorem Duo.cutx (h : Duo w0 W p m py ao v kx ky b) (hbl : b < 2097152) (z : Int) (hb : Below W.heap.size W W') :
    Calls Try.prog 36 #[.pointer (some ⟨p, 0, none⟩), .int .i64 z] W' fun e w' => e = .returned (.tuple #[]) ∧ Hid (IntSaid W' p m ao b (kx.take (dOf kx.length z)) w') := by
  obtain ⟨n, cap, hn, hI⟩ := h.x
  have hlx := h.lx
  by_cases hc : (kx.length : Int) ≤ z ∨ (z ≤ 0 ∧ kx.length = 0)
  · refine (cutStr_none (hI.grow hb) (by omega) hc).mono ?_
    rintro e w' ⟨rfl, rfl⟩
    refine ⟨rfl, n, ao, cap, ?_, hn, Only.refl _ _, fun a ha => .inl ha⟩
    rw [List.take_of_length_le (by unfold dOf; omega)]
    exact hI.grow hb
  · refine (cutStr_some (hI.grow hb) h.ndx (fun k hk => size_max (h.ok k (.inl hk))) (by omega) (c := z) (d := dOf kx.length z) (by unfold dOf; omega) (by unfold dOf; omega)).mono ?_
    rintro e w' ⟨rfl, i1, i2⟩
    exact ⟨rfl, n, ao, cap, i1, hn, i2, fun a ha => .inl ha⟩

theorem Duo.cuty (h : Duo w0 W p m py ao v kx ky b) (hbl : b < 2097152) (z : Int) :
    Calls Try.prog 37 #[.pointer (some ⟨py, 0, none⟩), .int .i64 z] W fun e w' => e = .returned (.tuple #[]) ∧ Hid (∃ v', Duo w0 w' p m py ao v' kx (ky.take (dOf ky.length z)) b ∧ Only (footR py v) W w') := by
  have hly := h.ly
  refine (rcut_any h.y (Nat.zero_le _) (by omega) z (dOf ky.length z) (dOf_is _ _)).mono ?_
  rintro e w' ⟨rfl, hp⟩
  obtain ⟨v', r1, r2, r3⟩ := hp.out
  refine ⟨rfl, v', h.refTo r1 (r2.mono (fun k _ hk => .inl hk)) (fun g hg => .inr (r3 g hg)) (Nat.le_refl _) ?_ ?_ ?_, r2.mono (fun k _ hk => .inl hk)⟩
  · exact h.ndy.sublist (List.take_sublist _ _)
  · exact fun k hk => h.ok k (.inr (List.mem_of_mem_take hk))
  · rw [List.length_take]; omega
end Go.Proofs.Ytbagefemhidbjaa
