/- A table and the document's, side by side, from call to call. -/
import Derived.Test.YtbagefemhidbjaaRTab4
import Derived.Test.YtbagefemhidbjaaSortedFn
namespace Go.Proofs.Ytbagefemhidbjaa
set_option linter.unusedSimpArgs false
set_option linter.unusedVariables false
open Go.RowKit Go.Maps

structure DuoT (w0 W : World) (p m pt : Nat) (ao : Option Addr) (v : Value) (kx ky : List Con) (b : Nat) : Prop where
  x : ∃ n cap, n ≤ b ∧ TableAt 0 W p m n ao cap kx
  y : RTab 0 W pt v ky
  ap : ∀ q, foot p m ao q → ¬ footT pt v q
  fr : ∀ q, foot p m ao q ∨ footT pt v q → w0.heap.size ≤ q
  bel : Below w0.heap.size w0 W
  ndx : kx.Nodup
  ndy : ky.Nodup
  ok : ∀ k, k ∈ kx ∨ k ∈ ky → k.ok
  lx : kx.length ≤ 65536
  ly : ky.length ≤ 65536

variable {w0 W W' : World} {p m pt : Nat} {ao : Option Addr} {v : Value} {kx ky ks : List Con} {b : Nat}

theorem DuoT.xlt (h : DuoT w0 W p m pt ao v kx ky b) {q : Nat} (hq : foot p m ao q) : q < W.heap.size := by
  obtain ⟨n, cap, _, hI⟩ := h.x
  exact (hI.foot_lt (by decide) hq).1
theorem DuoT.ylt (h : DuoT w0 W p m pt ao v kx ky b) {q : Nat} (hq : footT pt v q) : q < W.heap.size := by
  rcases hq with rfl | hq
  · exact h.y.plt
  · exact (h.y.own_lt hq).2
theorem DuoT.grow (h : DuoT w0 W p m pt ao v kx ky b) (hb : Below W.heap.size W W') : DuoT w0 W' p m pt ao v kx ky b := by
  obtain ⟨n, cap, hn, hI⟩ := h.x
  exact { h with x := ⟨n, cap, hn, hI.grow hb⟩, y := h.y.grow hb, bel := h.bel.trans (hb.mono h.bel.size) }
theorem DuoT.up (h : DuoT w0 W p m pt ao v kx ky b) {b' : Nat} (hb : b ≤ b') : DuoT w0 W p m pt ao v kx ky b' := by
  obtain ⟨n, cap, hn, hI⟩ := h.x
  exact { h with x := ⟨n, cap, by omega, hI⟩ }

/-- What Intern and Cut leave, and what they may change. -/
def TabSaid (w : World) (p m : Nat) (ao : Option Addr) (N : Nat) (qs : List Con) (w' : World) : Prop :=
  ∃ n ao' cap', TableAt 0 w' p m n ao' cap' qs ∧ n ≤ N ∧ Only (foot p m ao) w w' ∧ ∀ a, ao' = some a → ao = some a ∨ w.heap.size ≤ a.block

theorem DuoT.symTo (h : DuoT w0 W p m pt ao v kx ky b) {N : Nat} {qs : List Con} (hI : TabSaid W p m ao N qs W') (hnd : qs.Nodup) (hok : ∀ k ∈ qs, k.ok) (hl : qs.length ≤ 65536) : ∃ ao', DuoT w0 W' p m pt ao' v qs ky N := by
  obtain ⟨n, ao', cap', i1, i2, i3, i4⟩ := hI
  have hny : ∀ q, footT pt v q → ¬ foot p m ao q := fun q h1 h2 => h.ap q h2 h1
  have hft : ∀ q, foot p m ao' q → foot p m ao q ∨ W.heap.size ≤ q := by
    rintro q (rfl | rfl | ⟨a, ha, rfl⟩)
    · exact .inl (.inl rfl)
    · exact .inl (.inr (.inl rfl))
    · rcases i4 a ha with h1 | h1
      · exact .inl (.inr (.inr ⟨a, h1, rfl⟩))
      · exact .inr h1
  refine ⟨ao', ⟨n, cap', i2, i1⟩, h.y.only i3 (hny _ (.inl rfl)) (fun g hg => hny g (.inr hg)), ?_, ?_, ?_, hnd, h.ndy, ?_, hl, h.ly⟩
  · intro q hq hr
    rcases hft q hq with h1 | h1
    · exact h.ap q h1 hr
    · have := h.ylt hr; omega
  · rintro q (hq | hq)
    · rcases hft q hq with h1 | h1
      · exact h.fr q (.inl h1)
      · exact Nat.le_trans h.bel.size h1
    · exact h.fr q (.inr hq)
  · exact h.bel.trans (i3.below h.bel.size (fun q hq hf => by have := h.fr q (.inl hf); omega))
  · rintro k (hk | hk)
    · exact hok k hk
    · exact h.ok k (.inr hk)

theorem DuoT.refTo (h : DuoT w0 W p m pt ao v kx ky b) {qs : List Con} {v' : Value} (hR : RTab 0 W' pt v' qs) (hO : Only (footT pt v) W W') (hF : ∀ g, v'.ownBlock = some g → v.ownBlock = some g ∨ W.heap.size ≤ g) (hnd : qs.Nodup) (hok : ∀ k ∈ qs, k.ok) (hl : qs.length ≤ 65536) : DuoT w0 W' p m pt ao v' kx qs b := by
  obtain ⟨n, cap, hn, hI⟩ := h.x
  have hft : ∀ q, footT pt v' q → footT pt v q ∨ W.heap.size ≤ q := by
    rintro q (rfl | hq)
    · exact .inl (.inl rfl)
    · rcases hF q hq with h1 | h1
      · exact .inl (.inr h1)
      · exact .inr h1
  refine ⟨⟨n, cap, hn, hI.only hO (h.ap _ (.inl rfl)) (h.ap _ (.inr (.inl rfl))) (fun a ha => h.ap _ (.inr (.inr ⟨a, ha, rfl⟩)))⟩, hR, ?_, ?_, ?_, h.ndx, hnd, ?_, h.lx, hl⟩
  · intro q hq hr
    rcases hft q hr with h1 | h1
    · exact h.ap q hq h1
    · have := h.xlt hq; omega
  · rintro q (hq | hq)
    · exact h.fr q (.inl hq)
    · rcases hft q hq with h1 | h1
      · exact h.fr q (.inr h1)
      · exact Nat.le_trans h.bel.size h1
  · exact h.bel.trans (hO.below h.bel.size (fun q hq hf => by have := h.fr q (.inr hf); omega))
  · rintro k (hk | hk)
    · exact h.ok k (.inl hk)
    · exact hok k hk

open Classical in
noncomputable def posT (ks : List Con) (k : Con) : Nat := if h : ∃ i : Nat, ks[i]? = some k then Classical.choose h else 0
theorem posT_is {ks : List Con} {k : Con} (h : k ∈ ks) : ks[posT ks k]? = some k := by
  have hex : ∃ i : Nat, ks[i]? = some k := List.getElem?_of_mem h
  unfold posT
  rw [dif_pos hex]
  exact Classical.choose_spec hex

open Classical in
noncomputable def addT (ks : List Con) (c : Con) : List Con := if validC c = true ∧ c ∉ ks ∧ ks.length < 65536 then ks ++ [c] else ks
open Classical in
noncomputable def idT (ks : List Con) (c : Con) : Int := if validC c = true then (if c ∈ ks then (posT ks c : Int) else if ks.length < 65536 then (ks.length : Int) else 0) else 0
open Classical in
noncomputable def erT (ks : List Con) (c : Con) : Int := if validC c = true then (if c ∈ ks ∨ ks.length < 65536 then 0 else 6) else 5

theorem addT_nodup (h : ks.Nodup) (c : Con) : (addT ks c).Nodup := by
  unfold addT
  split
  · next hc => exact List.nodup_append.2 ⟨h, by simp, by intro a ha b hb; simp at hb; subst hb; exact fun e => hc.2.1 (e ▸ ha)⟩
  · exact h
theorem addT_ok (h : ∀ k ∈ ks, k.ok) {c : Con} (hc : c.ok) : ∀ k ∈ addT ks c, k.ok := by
  intro k hk
  unfold addT at hk
  split at hk
  · rcases List.mem_append.1 hk with h1 | h1
    · exact h k h1
    · rw [List.mem_singleton.1 h1]; exact hc
  · exact h k hk
theorem addT_len (h : ks.length ≤ 65536) (c : Con) : (addT ks c).length ≤ 65536 := by
  unfold addT
  split
  · next hc => simp; omega
  · exact h

theorem DuoT.int (h : DuoT w0 W p m pt ao v kx ky b) (hbl : b < 4194304) {c : Con} (hc : c.ok) (hb : Below W.heap.size W W') :
    Calls Try.prog 40 #[.pointer (some ⟨p, 0, none⟩), c.val] W' fun e w' => e = .returned (.tuple #[.int .i64 (idT kx c), .int .i64 (erT kx c)]) ∧ Hid (TabSaid W' p m ao (b + 1) (addT kx c) w') := by
  obtain ⟨n, cap, hn, hI⟩ := h.x
  have hlx := h.lx
  have hok : ∀ k ∈ kx, k.ok := fun k hk => h.ok k (.inl hk)
  cases hv : validC c with
  | false =>
    refine (tableIntern_bad (hI.grow hb) hc hv).mono ?_
    rintro e w' ⟨rfl, hb2⟩
    refine ⟨by unfold idT erT; rw [hv]; simp, n, ao, cap, ?_, by omega, Only.of_below hb2 _, fun a ha => .inl ha⟩
    unfold addT; rw [if_neg (by rw [hv]; simp)]; exact (hI.grow hb).grow hb2
  | true =>
    by_cases hin : c ∈ kx
    · refine (tableIntern_old (hI.grow hb) hc hv (posT_is hin)).mono ?_
      rintro e w' ⟨rfl, hb2⟩
      refine ⟨by unfold idT erT; rw [hv]; simp [hin], n, ao, cap, ?_, by omega, Only.of_below hb2 _, fun a ha => .inl ha⟩
      unfold addT; rw [if_neg (fun h => h.2.1 hin)]; exact (hI.grow hb).grow hb2
    · by_cases hf : kx.length < 65536
      · refine (tableIntern_new (hI.grow hb) (Nat.zero_le _) hc hok hv hin (by omega) hf).mono ?_
        rintro e w' ⟨rfl, ao', cap', i1, i2, i3⟩
        refine ⟨by unfold idT erT; rw [hv]; simp [hin, hf], n + 1, ao', cap', ?_, by omega, i2, i3⟩
        unfold addT; rw [if_pos ⟨hv, hin, hf⟩]; exact i1
      · refine (tableIntern_full (hI.grow hb) hc hok hv hin (by omega)).mono ?_
        rintro e w' ⟨rfl, hb2⟩
        refine ⟨by unfold idT erT; rw [hv]; simp [hin, hf], n, ao, cap, ?_, by omega, Only.of_below hb2 _, fun a ha => .inl ha⟩
        unfold addT; rw [if_neg (fun h => hf h.2.2)]; exact (hI.grow hb).grow hb2

theorem DuoT.rint (h : DuoT w0 W p m pt ao v kx ky b) {c : Con} (hc : c.ok) :
    Calls Try.prog 50 #[.pointer (some ⟨pt, 0, none⟩), c.val] W fun e w' => e = .returned (.tuple #[.int .i64 (idT ky c), .int .i64 (erT ky c)]) ∧ Hid (∃ v', DuoT w0 w' p m pt ao v' kx (addT ky c) b ∧ Only (footT pt v) W w') := by
  have hly := h.ly
  have hnd := addT_nodup h.ndy c
  have hok := addT_ok (fun k hk => h.ok k (.inr hk)) hc
  have hln := addT_len h.ly c
  cases hv : validC c with
  | false =>
    refine (tintern_bad c hc hv).mono ?_
    rintro e w' ⟨rfl, hb2⟩
    refine ⟨by unfold idT erT; rw [hv]; simp, v, ?_, Only.of_below hb2 _⟩
    unfold addT; rw [if_neg (by rw [hv]; simp)]; exact h.grow hb2
  | true =>
    by_cases hin : c ∈ ky
    · refine (tintern_old h.y h.ly h.ndy c hc hv (posT_is hin)).mono ?_
      rintro e w' ⟨rfl, hb2⟩
      refine ⟨by unfold idT erT; rw [hv]; simp [hin], v, ?_, Only.of_below hb2 _⟩
      unfold addT; rw [if_neg (fun h => h.2.1 hin)]; exact h.grow hb2
    · by_cases hf : ky.length < 65536
      · refine (tintern_new h.y (Nat.zero_le _) hf c hc hv hin).mono ?_
        rintro e w' ⟨rfl, hp⟩
        obtain ⟨v', r1, r2, r3⟩ := hp.out
        refine ⟨by unfold idT erT; rw [hv]; simp [hin, hf], v', ?_, r2⟩
        unfold addT at hnd hok hln ⊢
        rw [if_pos ⟨hv, hin, hf⟩] at hnd hok hln ⊢
        exact h.refTo r1 r2 r3 hnd hok hln
      · refine (tintern_full h.y (by omega) c hc hv hin).mono ?_
        rintro e w' ⟨rfl, hb2⟩
        refine ⟨by unfold idT erT; rw [hv]; simp [hin, hf], v, ?_, Only.of_below hb2 _⟩
        unfold addT; rw [if_neg (fun h => hf h.2.2)]; exact h.grow hb2

def dOfT (n : Nat) (z : Int) : Nat := min n z.toNat
theorem dOfT_is (n : Nat) (z : Int) : (dOfT n z = n ∧ dOfT n z ≤ z.toNat) ∨ (dOfT n z = z.toNat ∧ dOfT n z ≤ n) := by unfold dOfT; omega

theorem DuoT.cutx (h : DuoT w0 W p m pt ao v kx ky b) (z : Int) (hb : Below W.heap.size W W') :
    Calls Try.prog 59 #[.pointer (some ⟨p, 0, none⟩), .int .i64 z] W' fun e w' => e = .returned (.tuple #[]) ∧ Hid (TabSaid W' p m ao b (kx.take (dOfT kx.length z)) w') := by
  obtain ⟨n, cap, hn, hI⟩ := h.x
  have hlx := h.lx
  by_cases hc : (kx.length : Int) ≤ z ∨ (z ≤ 0 ∧ kx.length = 0)
  · refine (cutCon_none (hI.grow hb) (by omega) hc).mono ?_
    rintro e w' ⟨rfl, rfl⟩
    refine ⟨rfl, n, ao, cap, ?_, hn, Only.refl _ _, fun a ha => .inl ha⟩
    rw [List.take_of_length_le (by unfold dOfT; omega)]
    exact hI.grow hb
  · refine (cutCon_some (hI.grow hb) h.ndx (fun k hk => h.ok k (.inl hk)) (by omega) (c := z) (d := dOfT kx.length z) (by unfold dOfT; omega) (by unfold dOfT; omega)).mono ?_
    rintro e w' ⟨rfl, i1, i2⟩
    exact ⟨rfl, n, ao, cap, i1, hn, i2, fun a ha => .inl ha⟩

theorem DuoT.cuty (h : DuoT w0 W p m pt ao v kx ky b) (z : Int) :
    Calls Try.prog 60 #[.pointer (some ⟨pt, 0, none⟩), .int .i64 z] W fun e w' => e = .returned (.tuple #[]) ∧ Hid (∃ v', DuoT w0 w' p m pt ao v' kx (ky.take (dOfT ky.length z)) b) := by
  have hly := h.ly
  refine (tcut_any h.y (Nat.zero_le _) hly z (dOfT ky.length z) (dOfT_is _ _)).mono ?_
  rintro e w' ⟨rfl, hp⟩
  obtain ⟨v', r1, r2, r3⟩ := hp.out
  refine ⟨rfl, v', h.refTo r1 (r2.mono (fun k _ hk => .inl hk)) (fun g hg => .inr (r3 g hg)) ?_ ?_ ?_⟩
  · exact h.ndy.sublist (List.take_sublist _ _)
  · exact fun k hk => h.ok k (.inr (List.mem_of_mem_take hk))
  · rw [List.length_take]; omega
end Go.Proofs.Ytbagefemhidbjaa
