/- A table that is filled, and the list of what came beside it, from call to call. -/
import Derived.Test.YthhoiejjejdffaaTable
import Derived.Test.YthhoiejjejdffaaHolds
import Derived.Test.YthhoiejjejdffaaTimes
namespace Go.Proofs.Ythhoiejjejdffaa
set_option linter.unusedSimpArgs false
set_option linter.unusedVariables false
open Go.RowKit Go.Maps

/-- Since w: a table of the constants ks at p, and a list of the constants ss in memory of its own. -/
structure Fld (w W : World) (p m : Nat) (v : Value) (ks ss : List Con) : Prop where
  tab : ∃ n ao cap, n ≤ ks.length ∧ TableAt w.heap.size W p m n ao cap ks ∧ ∀ k, foot p m ao k → v.ownBlock ≠ some k
  seen : Holds3 w.heap.size W v ss
  bel : Below w.heap.size w W

variable {w W W' : World} {p m : Nat} {v : Value} {ks ss : List Con}

theorem holds3_grow {base : Nat} (h : Holds3 base W v ss) (hb : Below W.heap.size W W') : Holds3 base W' v ss := by
  refine ⟨h.1, ?_⟩
  rcases h.2 with h0 | ⟨g, cap, cur, hv, hbase, hblk, rest⟩
  · exact .inl h0
  · exact .inr ⟨g, cap, cur, hv, hbase, by rw [hb.block g (Array.getElem?_eq_some_iff.1 hblk).1]; exact hblk, rest⟩

theorem Fld.grow (h : Fld w W p m v ks ss) (hb : Below W.heap.size W W') : Fld w W' p m v ks ss := by
  obtain ⟨n, ao, cap, h1, h2, h3⟩ := h.tab
  exact ⟨⟨n, ao, cap, h1, h2.grow hb, h3⟩, holds3_grow h.seen hb, h.bel.trans (hb.mono h.bel.size)⟩

theorem own_lt3 {base : Nat} (h : Holds3 base W v ss) {g : Nat} (hg : v.ownBlock = some g) : base ≤ g ∧ g < W.heap.size := h.lt g hg

theorem Fld.bad (h : Fld w W p m v ks ss) {c : Con} (hc : c.ok) (hv : validC c = false) :
    Calls Try.prog 40 #[.pointer (some ⟨p, 0, none⟩), c.val] W fun e W' => e = .returned (.tuple #[.int .i64 0, .int .i64 5]) ∧ Hid (Fld w W' p m v ks ss) := by
  obtain ⟨n, ao, cap, h1, h2, h3⟩ := h.tab
  exact (tableIntern_bad h2 hc hv).mono fun e W' ⟨he, hb⟩ => ⟨he, h.grow hb⟩

theorem Fld.old (h : Fld w W p m v ks ss) {c : Con} (hc : c.ok) (hv : validC c = true) {i : Nat} (hi : ks[i]? = some c) :
    Calls Try.prog 40 #[.pointer (some ⟨p, 0, none⟩), c.val] W fun e W' => e = .returned (.tuple #[.int .i64 i, .int .i64 0]) ∧ Hid (Fld w W' p m v ks ss) := by
  obtain ⟨n, ao, cap, h1, h2, h3⟩ := h.tab
  exact (tableIntern_old h2 hc hv hi).mono fun e W' ⟨he, hb⟩ => ⟨he, h.grow hb⟩

theorem Fld.new (h : Fld w W p m v ks ss) {c : Con} (hc : c.ok) (hks : ∀ k ∈ ks, k.ok) (hv : validC c = true) (hi : c ∉ ks) (hl : ks.length < 65536) :
    Calls Try.prog 40 #[.pointer (some ⟨p, 0, none⟩), c.val] W fun e W' => e = .returned (.tuple #[.int .i64 ks.length, .int .i64 0]) ∧ Hid (Fld w W' p m v (ks ++ [c]) ss) := by
  obtain ⟨n, ao, cap, h1, h2, h3⟩ := h.tab
  refine (tableIntern_new h2 h.bel.size hc hks hv hi (by omega) hl).mono ?_
  rintro e W' ⟨he, ao', cap', a1, a2, a3⟩
  refine ⟨he, ⟨⟨n + 1, ao', cap', by simp; omega, a1, ?_⟩, ?_, ?_⟩⟩
  · rintro k (rfl | rfl | ⟨a, ha, rfl⟩) hk
    · exact h3 _ (.inl rfl) hk
    · exact h3 _ (.inr (.inl rfl)) hk
    · rcases a3 a ha with h4 | h4
      · exact h3 _ (.inr (.inr ⟨a, h4, rfl⟩)) hk
      · have := (own_lt3 h.seen hk).2; omega
  · refine ⟨h.seen.1, ?_⟩
    rcases h.seen.2 with h0 | ⟨g, cap, cur, hv, hbase, hblk, rest⟩
    · exact .inl h0
    · refine .inr ⟨g, cap, cur, hv, hbase, ?_, rest⟩
      rw [a2.block g (Array.getElem?_eq_some_iff.1 hblk).1 (fun hf => h3 g hf (by rw [hv]; rfl))]; exact hblk
  · exact h.bel.trans (a2.below h.bel.size (fun k hk hf => by have := (h2.foot_lt (by decide) hf).2; omega))

/-- One more is put behind the list. -/
theorem Fld.push (h : Fld w W p m v ks ss) {tmp : Obj} {c : Con} {g cap' : Nat} (hown : W'.ownsRow w.heap.size 34 3 (.slice (some ⟨g, 0, none⟩) (ss.length + 1) cap') (ss.length + 1) (ss.flatMap cells3 ++ cells3 c))
    (hg : (W.alloc tmp).grownBy W' v.ownBlock) (hat : v.ownBlock = some g ∨ g = W.heap.size + 1) : Fld w W' p m (.slice (some ⟨g, 0, none⟩) (ss.length + 1) cap') ks (ss ++ [c]) := by
  obtain ⟨n, ao, cap, h1, h2, h3⟩ := h.tab
  have ho : Only (fun k => v.ownBlock = some k) W W' := by
    refine ⟨hg.os, hg.tape, hg.output, Nat.le_trans (by simp) hg.size, fun k hk hn => ?_⟩
    rw [hg.block k (by simp; omega) (fun e => hn e.symm)]
    exact Below.heap_alloc _ _ _ hk
  refine ⟨⟨n, ao, cap, h1, h2.only ho (h3 _ (.inl rfl)) (h3 _ (.inr (.inl rfl))) (fun a ha => h3 _ (.inr (.inr ⟨a, ha, rfl⟩))), ?_⟩, ?_, ?_⟩
  · intro k hf hk
    have hk : g = k := by simpa [Value.ownBlock] using hk
    subst hk
    rcases hat with h4 | h4
    · exact h3 g hf h4
    · have := (h2.foot_lt (by decide) hf).1; omega
  · have : (ss ++ [c]).flatMap cells3 = ss.flatMap cells3 ++ cells3 c := by simp
    show World.ownsRow _ _ _ _ _ _ _
    rw [this, List.length_append]
    exact hown
  · exact h.bel.trans (ho.below h.bel.size (fun k hk hf => by have := (own_lt3 h.seen hf).1; omega))

open Classical in
/-- What is in the table when all of cs came. -/
noncomputable def addV (ks : List Con) (c : Con) : List Con := if validC c = true ∧ c ∉ ks then ks ++ [c] else ks
noncomputable def ddV (cs : List Con) : List Con := cs.foldl addV []
theorem ddV_snoc (cs : List Con) (c : Con) : ddV (cs ++ [c]) = addV (ddV cs) c := by unfold ddV; rw [List.foldl_append]; rfl
theorem addV_len (ks : List Con) (c : Con) : (addV ks c).length ≤ ks.length + 1 := by
  unfold addV; split <;> simp
theorem ddV_take (cs : List Con) {k : Nat} {c : Con} (h : cs[k]? = some c) : ddV (cs.take (k + 1)) = addV (ddV (cs.take k)) c := by
  rw [List.take_add_one, h]; exact ddV_snoc _ _
theorem ddV_ind {Q : List Con → Prop} (h0 : Q []) (h1 : ∀ ks c, Q ks → validC c = true → c ∉ ks → Q (ks ++ [c])) : ∀ cs : List Con, Q (ddV cs) := by
  have : ∀ (cs ks : List Con), Q ks → Q (cs.foldl addV ks) := by
    intro cs
    induction cs with
    | nil => intro ks h; exact h
    | cons c r ih =>
      intro ks h
      rw [List.foldl_cons]
      refine ih _ ?_
      unfold addV
      by_cases hc : validC c = true ∧ c ∉ ks
      · rw [if_pos hc]; exact h1 _ _ h hc.1 hc.2
      · rw [if_neg hc]; exact h
  exact fun cs => this cs [] h0
theorem ddV_nodup (cs : List Con) : (ddV cs).Nodup := ddV_ind (Q := List.Nodup) List.nodup_nil (fun ks c h _ hc => by
  rw [List.nodup_append]
  exact ⟨h, by simp, fun a ha b hb e => by rw [List.mem_singleton] at hb; subst hb; subst e; exact hc ha⟩) cs
theorem ddV_mem {cs : List Con} {c : Con} (h : c ∈ ddV cs) : c ∈ cs := by
  have : ∀ (l ks : List Con), c ∈ l.foldl addV ks → c ∈ ks ∨ c ∈ l := by
    intro l
    induction l with
    | nil => intro ks h; exact .inl h
    | cons d r ih =>
      intro ks h
      rw [List.foldl_cons] at h
      rcases ih _ h with h | h
      · unfold addV at h
        split at h
        · rcases List.mem_append.1 h with h | h
          · exact .inl h
          · rw [List.mem_singleton] at h; subst h; exact .inr List.mem_cons_self
        · exact .inl h
      · exact .inr (List.mem_cons_of_mem _ h)
  rcases this cs [] h with h | h
  · cases h
  · exact h
theorem ddV_len (cs : List Con) (k : Nat) : (ddV (cs.take k)).length ≤ k := by
  induction k with
  | zero => simp [ddV]
  | succ k ih =>
    by_cases hk : k < cs.length
    · rw [ddV_take cs (List.getElem?_eq_getElem hk)]
      have := addV_len (ddV (cs.take k)) cs[k]
      omega
    · have : cs.take (k + 1) = cs.take k := by rw [List.take_of_length_le (by omega), List.take_of_length_le (by omega)]
      rw [this]; omega
theorem times_zero (c : Con) (ks : List Con) : timesC c ks = 0 ↔ c ∉ ks := by
  unfold timesC
  rw [List.countP_eq_zero]
  exact ⟨fun h hc => h c hc (conEq_refl c), fun h x hx hq => h ((conEq_iff x c).1 hq ▸ hx)⟩
end Go.Proofs.Ythhoiejjejdffaa
