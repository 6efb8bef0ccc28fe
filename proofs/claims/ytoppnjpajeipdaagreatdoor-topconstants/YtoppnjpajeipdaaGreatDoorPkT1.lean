/- A table that is filled, and the list of what came beside it, from call to call. A table and the list of what came, from call to call; what two of the document's own tests read. The document's fit: whether a constant stands, and its wordByte. The document's before: what Compare says, of constants that stand. The document's decimal and signed: an integer's digits. The document's shown: a constant's text. The document's ordered: true of the ids in the order of their constants, and of each id's place there. (*Table).Const: the constant with an id. -/
import Derived.Test.YtoppnjpajeipdaaGreatDoorTable
import Derived.Test.YtoppnjpajeipdaaGreatDoorHolds
import Derived.Test.YtoppnjpajeipdaaGreatDoorReadBox
import Derived.Test.YtoppnjpajeipdaaGreatDoorProg
import Derived.Test.YtoppnjpajeipdaaGreatDoorValid
import Derived.Test.YtoppnjpajeipdaaGreatDoorBox
import Derived.Test.YtoppnjpajeipdaaGreatDoorCmp
import Derived.Test.YtoppnjpajeipdaaGreatDoorConEq
import Derived.Test.YtoppnjpajeipdaaGreatDoorReadPure
import Derived.Test.YtoppnjpajeipdaaGreatDoorSymTextOwn
import Derived.Test.YtoppnjpajeipdaaGreatDoorDecRead
import Derived.Test.YtoppnjpajeipdaaGreatDoorOverAt
import Derived.Deep.RegionHeld3
import Derived.Test.YtoppnjpajeipdaaGreatDoorSymQuoted
import Derived.Test.YtoppnjpajeipdaaGreatDoorPkT3

namespace Go.Proofs.YtoppnjpajeipdaaGreatDoor
set_option linter.unusedSimpArgs false
set_option linter.unusedVariables false
open Go.RowKit Go.Maps

/-- Since w: a table of the constants ks at p, and a list of the constants ss in memory of its own. -/
structure Fld (w W : World) (p m : Nat) (v : Value) (ks ss : List Con) : Prop where
  tab : ∃ n ao cap, n ≤ ks.length ∧ TableAt w.heap.size W p m n ao cap ks ∧ ∀ k, foot p m ao k → v.ownBlock ≠ some k
  seen : Holds3 w.heap.size W v ss
  bel : Below w.heap.size w W

variable {w W W' : World} {p m : Nat} {v : Value} {ks ss : List Con}

theorem holds3_grow {base : Nat} (h : Holds3 base W v ss) (hb : Below W.heap.size W W') : Holds3 base W' v ss := by
  refine ⟨h.1, ?_⟩
  rcases h.2 with h0 | ⟨g, cap, cur, hv, hbase, hblk, rest⟩
  · exact .inl h0
  · exact .inr ⟨g, cap, cur, hv, hbase, by rw [hb.block g (Array.getElem?_eq_some_iff.1 hblk).1]; exact hblk, rest⟩

theorem Fld.grow (h : Fld w W p m v ks ss) (hb : Below W.heap.size W W') : Fld w W' p m v ks ss := by
  obtain ⟨n, ao, cap, h1, h2, h3⟩ := h.tab
  exact ⟨⟨n, ao, cap, h1, h2.grow hb, h3⟩, holds3_grow h.seen hb, h.bel.trans (hb.mono h.bel.size)⟩

theorem own_lt3 {base : Nat} (h : Holds3 base W v ss) {g : Nat} (hg : v.ownBlock = some g) : base ≤ g ∧ g < W.heap.size := h.lt g hg

theorem Fld.bad (h : Fld w W p m v ks ss) {c : Con} (hc : c.ok) (hv : validC c = false) :
    Calls Tryz.prog 7 #[.pointer (some ⟨p, 0, none⟩), c.val] W fun e W' => e = .returned (.tuple #[.int .i64 0, .int .i64 5]) ∧ Hid (Fld w W' p m v ks ss) := by
  obtain ⟨n, ao, cap, h1, h2, h3⟩ := h.tab
  exact (tableIntern_bad h2 hc hv).mono fun e W' ⟨he, hb⟩ => ⟨he, h.grow hb⟩

theorem Fld.old (h : Fld w W p m v ks ss) {c : Con} (hc : c.ok) (hv : validC c = true) {i : Nat} (hi : ks[i]? = some c) :
    Calls Tryz.prog 7 #[.pointer (some ⟨p, 0, none⟩), c.val] W fun e W' => e = .returned (.tuple #[.int .i64 i, .int .i64 0]) ∧ Hid (Fld w W' p m v ks ss) := by
  obtain ⟨n, ao, cap, h1, h2, h3⟩ := h.tab
  exact (tableIntern_old h2 hc hv hi).mono fun e W' ⟨he, hb⟩ => ⟨he, h.grow hb⟩

theorem Fld.new (h : Fld w W p m v ks ss) {c : Con} (hc : c.ok) (hks : ∀ k ∈ ks, k.ok) (hv : validC c = true) (hi : c ∉ ks) (hl : ks.length < 65536) :
    Calls Tryz.prog 7 #[.pointer (some ⟨p, 0, none⟩), c.val] W fun e W' => e = .returned (.tuple #[.int .i64 ks.length, .int .i64 0]) ∧ Hid (Fld w W' p m v (ks ++ [c]) ss) := by
  obtain ⟨n, ao, cap, h1, h2, h3⟩ := h.tab
  refine (tableIntern_new h2 h.bel.size hc hks hv hi (by omega) hl).mono ?_
  rintro e W' ⟨he, ao', cap', a1, a2, a3⟩
  refine ⟨he, ⟨⟨n + 1, ao', cap', by simp; omega, a1, ?_⟩, ?_, ?_⟩⟩
  · rintro k (rfl | rfl | ⟨a, ha, rfl⟩) hk
    · exact h3 _ (.inl rfl) hk
    · exact h3 _ (.inr (.inl rfl)) hk
    · rcases a3 a ha with h4 | h4
      · exact h3 _ (.inr (.inr ⟨a, h4, rfl⟩)) hk
      · have := (own_lt3 h.seen hk).2; omega
  · refine ⟨h.seen.1, ?_⟩
    rcases h.seen.2 with h0 | ⟨g, cap, cur, hv, hbase, hblk, rest⟩
    · exact .inl h0
    · refine .inr ⟨g, cap, cur, hv, hbase, ?_, rest⟩
      rw [a2.block g (Array.getElem?_eq_some_iff.1 hblk).1 (fun hf => h3 g hf (by rw [hv]; rfl))]; exact hblk
  · exact h.bel.trans (a2.below h.bel.size (fun k hk hf => by have := (h2.foot_lt (by decide) hf).2; omega))

/-- One more is put behind the list. -/
theorem Fld.push (h : Fld w W p m v ks ss) {tmp : Obj} {c : Con} {g cap' : Nat} (hown : W'.ownsRow w.heap.size 26 3 (.slice (some ⟨g, 0, none⟩) (ss.length + 1) cap') (ss.length + 1) (ss.flatMap cells3 ++ cells3 c))
    (hg : (W.alloc tmp).grownBy W' v.ownBlock) (hat : v.ownBlock = some g ∨ g = W.heap.size + 1) : Fld w W' p m (.slice (some ⟨g, 0, none⟩) (ss.length + 1) cap') ks (ss ++ [c]) := by
  obtain ⟨n, ao, cap, h1, h2, h3⟩ := h.tab
  have ho : Only (fun k => v.ownBlock = some k) W W' := by
    refine ⟨hg.os, hg.tape, hg.output, Nat.le_trans (by simp) hg.size, fun k hk hn => ?_⟩
    rw [hg.block k (by simp; omega) (fun e => hn e.symm)]
    exact Below.heap_alloc _ _ _ hk
  refine ⟨⟨n, ao, cap, h1, h2.only ho (h3 _ (.inl rfl)) (h3 _ (.inr (.inl rfl))) (fun a ha => h3 _ (.inr (.inr ⟨a, ha, rfl⟩))), ?_⟩, ?_, ?_⟩
  · intro k hf hk
    have hk : g = k := by simpa [Value.ownBlock] using hk
    subst hk
    rcases hat with h4 | h4
    · exact h3 g hf h4
    · have := (h2.foot_lt (by decide) hf).1; omega
  · have : (ss ++ [c]).flatMap cells3 = ss.flatMap cells3 ++ cells3 c := by simp
    show World.ownsRow _ _ _ _ _ _ _
    rw [this, List.length_append]
    exact hown
  · exact h.bel.trans (ho.below h.bel.size (fun k hk hf => by have := (own_lt3 h.seen hf).1; omega))

open Classical in
/-- What is in the table when all of cs came. -/
noncomputable def addV (ks : List Con) (c : Con) : List Con := if validC c = true ∧ c ∉ ks then ks ++ [c] else ks
noncomputable def ddV (cs : List Con) : List Con := cs.foldl addV []
theorem ddV_snoc (cs : List Con) (c : Con) : ddV (cs ++ [c]) = addV (ddV cs) c := by unfold ddV; rw [List.foldl_append]; rfl
theorem addV_len (ks : List Con) (c : Con) : (addV ks c).length ≤ ks.length + 1 := by
  unfold addV; split <;> simp
theorem ddV_take (cs : List Con) {k : Nat} {c : Con} (h : cs[k]? = some c) : ddV (cs.take (k + 1)) = addV (ddV (cs.take k)) c := by
  rw [List.take_add_one, h]; exact ddV_snoc _ _
theorem ddV_ind {Q : List Con → Prop} (h0 : Q []) (h1 : ∀ ks c, Q ks → validC c = true → c ∉ ks → Q (ks ++ [c])) : ∀ cs : List Con, Q (ddV cs) := by
  have : ∀ (cs ks : List Con), Q ks → Q (cs.foldl addV ks) := by
    intro cs
    induction cs with
    | nil => intro ks h; exact h
    | cons c r ih =>
      intro ks h
      rw [List.foldl_cons]
      refine ih _ ?_
      unfold addV
      by_cases hc : validC c = true ∧ c ∉ ks
      · rw [if_pos hc]; exact h1 _ _ h hc.1 hc.2
      · rw [if_neg hc]; exact h
  exact fun cs => this cs [] h0
theorem ddV_nodup (cs : List Con) : (ddV cs).Nodup := ddV_ind (Q := List.Nodup) List.nodup_nil (fun ks c h _ hc => by
  rw [List.nodup_append]
  exact ⟨h, by simp, fun a ha b hb e => by rw [List.mem_singleton] at hb; subst hb; subst e; exact hc ha⟩) cs
theorem ddV_mem {cs : List Con} {c : Con} (h : c ∈ ddV cs) : c ∈ cs := by
  have : ∀ (l ks : List Con), c ∈ l.foldl addV ks → c ∈ ks ∨ c ∈ l := by
    intro l
    induction l with
    | nil => intro ks h; exact .inl h
    | cons d r ih =>
      intro ks h
      rw [List.foldl_cons] at h
      rcases ih _ h with h | h
      · unfold addV at h
        split at h
        · rcases List.mem_append.1 h with h | h
          · exact .inl h
          · rw [List.mem_singleton] at h; subst h; exact .inr List.mem_cons_self
        · exact .inl h
      · exact .inr (List.mem_cons_of_mem _ h)
  rcases this cs [] h with h | h
  · cases h
  · exact h
theorem ddV_len (cs : List Con) (k : Nat) : (ddV (cs.take k)).length ≤ k := by
  induction k with
  | zero => simp [ddV]
  | succ k ih =>
    by_cases hk : k < cs.length
    · rw [ddV_take cs (List.getElem?_eq_getElem hk)]
      have := addV_len (ddV (cs.take k)) cs[k]
      omega
    · have : cs.take (k + 1) = cs.take k := by rw [List.take_of_length_le (by omega), List.take_of_length_le (by omega)]
      rw [this]; omega
theorem con_new {w : World} {c : Con} : ∀ j u, (cells3 c)[j]? = some u → (w.alloc (.cells #[.int .i64 c.k, .int .i64 c.n, .string c.s] 26)).cell? ((⟨w.heap.size, 0, none⟩ : Addr).add j) = some u :=
  World.news_of_block (cs := #[.int .i64 c.k, .int .i64 c.n, .string c.s]) (t := 26) (fr := (0, 0)) (heap_alloc_new w _)

theorem Tryz.infoC3 : (Tryz.prog.info? 26).map (fun i => (i.zero, i.size, i.bytes)) = some (some (.agg #[.int .i64 0, .int .i64 0, .string ⟨#[]⟩]), 3, 32) := by kernel_rfl

theorem con_cell {base : Nat} {W : World} {v : Value} {ss : List Con} (h : Holds3 base W v ss) {i : Nat} {c : Con} (hi : ss[i]? = some c) : ∃ g cap, v = .slice (some ⟨g, 0, none⟩) ss.length cap ∧ conAt W g (i * 3) c := by
  have hlt : i < ss.length := (List.getElem?_eq_some_iff.1 hi).1
  rcases h.2 with ⟨_, h0⟩ | ⟨g, cap, cur, rfl, _⟩
  · omega
  · have hn := holds_news (n := ss.length) (cap := cap) h
    refine ⟨g, cap, rfl, ?_, ?_, ?_⟩
    · have := hn (i * 3 + 0) _ ((flat3 ss i 0 c hi (by omega)).trans rfl); rwa [addr_add, Nat.zero_add] at this
    · have := hn (i * 3 + 1) _ ((flat3 ss i 1 c hi (by omega)).trans rfl); rwa [addr_add, Nat.zero_add] at this
    · have := hn (i * 3 + 2) _ ((flat3 ss i 2 c hi (by omega)).trans rfl); rwa [addr_add, Nat.zero_add] at this
end Go.Proofs.YtoppnjpajeipdaaGreatDoor

namespace Go.Proofs.YtoppnjpajeipdaaGreatDoor
set_option linter.unusedSimpArgs false
set_option linter.unusedVariables false
open Go.RowKit Go.Maps

/-- Since w: a table of the constants ks at p, its blocks told, and a list of the constants ss in memory of its own. -/
structure Tb (w W : World) (p m n : Nat) (ta : Option Addr) (tc : Nat) (v : Value) (ks ss : List Con) : Prop where
  len : n ≤ ks.length
  tab : TableAt w.heap.size W p m n ta tc ks
  sep : ∀ k, foot p m ta k → v.ownBlock ≠ some k
  seen : Holds3 w.heap.size W v ss
  bel : Below w.heap.size w W

variable {w W W' : World} {p m n : Nat} {ta : Option Addr} {tc : Nat} {v : Value} {ks ss : List Con}

theorem Fld.open (h : Fld w W p m v ks ss) : ∃ n ta tc, Tb w W p m n ta tc v ks ss := by
  obtain ⟨n, ao, cap, h1, h2, h3⟩ := h.tab
  exact ⟨n, ao, cap, h1, h2, h3, h.seen, h.bel⟩
theorem Tb.fld (h : Tb w W p m n ta tc v ks ss) : Fld w W p m v ks ss := ⟨⟨n, ta, tc, h.len, h.tab, h.sep⟩, h.seen, h.bel⟩
theorem Tb.grow (h : Tb w W p m n ta tc v ks ss) (hb : Below W.heap.size W W') : Tb w W' p m n ta tc v ks ss :=
  ⟨h.len, h.tab.grow hb, h.sep, holds3_grow h.seen hb, h.bel.trans (hb.mono h.bel.size)⟩
theorem Tb.ft (h : Tb w W p m n ta tc v ks ss) {k : Nat} (hk : foot p m ta k) : k < W.heap.size := (h.tab.foot_lt (by decide) hk).1
theorem Tb.own (h : Tb w W p m n ta tc v ks ss) {k : Nat} (hk : v.ownBlock = some k) : k < W.heap.size := (own_lt3 h.seen hk).2

theorem Tb.new (h : Tb w W p m n ta tc v ks ss) {c : Con} (hc : c.ok) (hks : ∀ k ∈ ks, k.ok) (hv : validC c = true) (hi : c ∉ ks) (hl : ks.length < 65536) :
    Calls Tryz.prog 7 #[.pointer (some ⟨p, 0, none⟩), c.val] W fun e W' => e = .returned (.tuple #[.int .i64 ks.length, .int .i64 0]) ∧ Hid (Fld w W' p m v (ks ++ [c]) ss) ∧ Hid (Only (foot p m ta) W W') := by
  refine (tableIntern_new h.tab h.bel.size hc hks hv hi (by have := h.len; omega) hl).mono ?_
  rintro e W' ⟨he, ao', cap', a1, a2, a3⟩
  refine ⟨he, ⟨⟨n + 1, ao', cap', by have := h.len; simp; omega, a1, ?_⟩, ?_, ?_⟩, a2⟩
  · rintro k (rfl | rfl | ⟨a, ha, rfl⟩) hk
    · exact h.sep _ (.inl rfl) hk
    · exact h.sep _ (.inr (.inl rfl)) hk
    · rcases a3 a ha with h4 | h4
      · exact h.sep _ (.inr (.inr ⟨a, h4, rfl⟩)) hk
      · have := (own_lt3 h.seen hk).2; omega
  · refine ⟨h.seen.1, ?_⟩
    rcases h.seen.2 with h0 | ⟨g, cap, cur, hv, hbase, hblk, rest⟩
    · exact .inl h0
    · refine .inr ⟨g, cap, cur, hv, hbase, ?_, rest⟩
      rw [a2.block g (Array.getElem?_eq_some_iff.1 hblk).1 (fun hf => h.sep g hf (by rw [hv]; rfl))]; exact hblk
  · exact h.bel.trans (a2.below h.bel.size (fun k hk hf => by have := (h.tab.foot_lt (by decide) hf).2; omega))

/-- One more is put behind the list: the table is as it was; what else has changed is the list's own block. -/
theorem Tb.push (h : Tb w W p m n ta tc v ks ss) {tmp : Obj} {c : Con} {g cap' : Nat} (hown : W'.ownsRow w.heap.size 26 3 (.slice (some ⟨g, 0, none⟩) (ss.length + 1) cap') (ss.length + 1) (ss.flatMap cells3 ++ cells3 c))
    (hg : (W.alloc tmp).grownBy W' v.ownBlock) (hat : v.ownBlock = some g ∨ g = W.heap.size + 1) : Tb w W' p m n ta tc (.slice (some ⟨g, 0, none⟩) (ss.length + 1) cap') ks (ss ++ [c]) ∧ Only (fun k => v.ownBlock = some k) W W' := by
  have ho : Only (fun k => v.ownBlock = some k) W W' := by
    refine ⟨hg.os, hg.tape, hg.output, Nat.le_trans (by simp) hg.size, fun k hk hn => ?_⟩
    rw [hg.block k (by simp; omega) (fun e => hn e.symm)]
    exact Below.heap_alloc _ _ _ hk
  have hf := h.fld.push hown hg hat
  refine ⟨⟨h.len, h.tab.only ho (h.sep _ (.inl rfl)) (h.sep _ (.inr (.inl rfl))) (fun a ha => h.sep _ (.inr (.inr ⟨a, ha, rfl⟩))), ?_, hf.seen, hf.bel⟩, ho⟩
  intro k hfk hk
  have hk : g = k := by simpa [Value.ownBlock] using hk
  subst hk
  rcases hat with h4 | h4
  · exact h.sep g hfk h4
  · have := (h.tab.foot_lt (by decide) hfk).1; omega

/-- A box is kept by what changes other blocks. -/
theorem conBox.only {S : Nat → Prop} {b : Nat} {W W' : World} {k n : Int} {s : ByteArray} (h : conBox b W k n s) (ho : Only S W W') (hs : ¬ S b) : conBox b W' k n s := by
  unfold conBox at h ⊢
  rw [ho.block b (Array.getElem?_eq_some_iff.1 h).1 hs]; exact h
theorem con_at {base g n cap : Nat} {W : World} {ss : List Con} (h : Holds3 base W (.slice (some ⟨g, 0, none⟩) n cap) ss) {i : Nat} {c : Con} (hi : ss[i]? = some c) : conAt W g (i * 3) c := by
  obtain ⟨g', cap', hv, hc⟩ := con_cell h hi
  simp only [Value.slice.injEq, Option.some.injEq, Addr.mk.injEq, and_true] at hv
  obtain ⟨rfl, _, _⟩ := hv
  exact hc
end Go.Proofs.YtoppnjpajeipdaaGreatDoor

namespace Go.Proofs.YtoppnjpajeipdaaGreatDoor
set_option linter.unusedSimpArgs false
set_option linter.unusedVariables false
open Go.RowKit

theorem wordByteT (n : Int) (w : World) (h : 0 ≤ n ∧ n ≤ 255) :
    Calls Tryz.prog 22 #[.int .u8 n] w fun e w' => e = .returned (.bool (wordN n)) ∧ w' = w := by
  have hw : ∀ b, wordN n = b → (Calls Tryz.prog 22 #[.int .u8 n] w fun e w' => e = .returned (.bool b) ∧ w' = w) → Calls Tryz.prog 22 #[.int .u8 n] w fun e w' => e = .returned (.bool (wordN n)) ∧ w' = w := fun b hb hc => by rw [hb]; exact hc
  have H := hide hw
  clear hw
  rcases (show n < 48 ∨ (48 ≤ n ∧ n ≤ 57) ∨ (57 < n ∧ n < 65) ∨ (65 ≤ n ∧ n ≤ 90) ∨ (90 < n ∧ n < 95) ∨ n = 95 ∨ n = 96 ∨ (97 ≤ n ∧ n ≤ 122) ∨ 122 < n from by omega) with h1 | ⟨h1, h2⟩ | ⟨h1, h2⟩ | ⟨h1, h2⟩ | ⟨h1, h2⟩ | rfl | rfl | ⟨h1, h2⟩ | h1
  · refine H.out false (by simp [wordN, lowN, upN, digN]; omega) ?_
    have e : (n == 95) = false := by simp; omega
    clear H
    go_enter Tryz.func22, Tryz.ntmps22
    go_wp2
    go_ret
    first | exact ⟨rfl, rfl⟩ | exact ⟨ret_bool (by simp; omega), rfl⟩
  · refine H.out true (by simp [wordN, lowN, upN, digN]; omega) ?_
    clear H
    go_enter Tryz.func22, Tryz.ntmps22
    go_wp2
    go_ret
    first | exact ⟨rfl, rfl⟩ | exact ⟨ret_bool (by simp; omega), rfl⟩
  · refine H.out false (by simp [wordN, lowN, upN, digN]; omega) ?_
    have e : (n == 95) = false := by simp; omega
    clear H
    go_enter Tryz.func22, Tryz.ntmps22
    go_wp2
    go_ret
    first | exact ⟨rfl, rfl⟩ | exact ⟨ret_bool (by simp; omega), rfl⟩
  · refine H.out true (by simp [wordN, lowN, upN, digN]; omega) ?_
    clear H
    go_enter Tryz.func22, Tryz.ntmps22
    go_wp2
    go_ret
    first | exact ⟨rfl, rfl⟩ | exact ⟨ret_bool (by simp; omega), rfl⟩
  · refine H.out false (by simp [wordN, lowN, upN, digN]; omega) ?_
    have e : (n == 95) = false := by simp; omega
    clear H
    go_enter Tryz.func22, Tryz.ntmps22
    go_wp2
    go_ret
    first | exact ⟨rfl, rfl⟩ | exact ⟨ret_bool (by simp; omega), rfl⟩
  · refine H.out true (by decide) ?_
    clear H
    go_enter Tryz.func22, Tryz.ntmps22
    go_wp2
    go_ret
    first | exact ⟨rfl, rfl⟩ | exact ⟨ret_bool (by simp; omega), rfl⟩
  · refine H.out false (by decide) ?_
    clear H
    go_enter Tryz.func22, Tryz.ntmps22
    go_wp2
    go_ret
    first | exact ⟨rfl, rfl⟩ | exact ⟨ret_bool (by simp; omega), rfl⟩
  · refine H.out true (by simp [wordN, lowN, upN, digN]; omega) ?_
    clear H
    go_enter Tryz.func22, Tryz.ntmps22
    go_wp2
    go_ret
    first | exact ⟨rfl, rfl⟩ | exact ⟨ret_bool (by simp; omega), rfl⟩
  · refine H.out false (by simp [wordN, lowN, upN, digN]; omega) ?_
    have e : (n == 95) = false := by simp; omega
    clear H
    go_enter Tryz.func22, Tryz.ntmps22
    go_wp2
    go_ret
    first | exact ⟨rfl, rfl⟩ | exact ⟨ret_bool (by simp; omega), rfl⟩


def notB : List UInt8 := [110, 111, 116]
theorem empty_flags {s : ByteArray} : (s.size = 0 → s.toList.isEmpty = true ∧ (s.toList == []) = true) ∧ (s.size ≠ 0 → s.toList.isEmpty = false ∧ (s.toList == []) = false) := by
  have h := toListLen s
  cases hd : s.toList with
  | nil => rw [hd] at h; simp at h; exact ⟨fun _ => ⟨rfl, rfl⟩, fun h2 => absurd h.symm h2⟩
  | cons a r => rw [hd] at h; simp at h; exact ⟨fun h2 => by omega, fun _ => ⟨rfl, rfl⟩⟩

/-- Whether a name stands, by its parts. -/
theorem name_parts {s : ByteArray} (h0 : 0 < s.size) : isNameL s.toList = (decide (s.size ≤ 64) && (s.toList.all wordB && (decide ((97 : Int) ≤ (s[0].toNat : Int)) && decide ((s[0].toNat : Int) ≤ 122) && !(s.toList == [110, 111, 116])))) := by
  unfold isNameL isWordL
  rw [head_of s h0, toListLen]
  have : decide (1 ≤ s.size) = true := decide_eq_true h0
  rw [this]
  unfold lowN
  cases decide (s.size ≤ 64) <;> cases s.toList.all wordB <;> rfl

set_option maxHeartbeats 4000000 in
set_option maxRecDepth 100000 in
theorem fit_name (n : Int) (s : ByteArray) (w : World) (hs : s.size ≤ 140737488351232) :
    Calls Tryz.prog 6 #[.agg #[.int .i64 2, .int .i64 n, .string s]] w fun e w' => e = .returned (.bool (validC ⟨2, n, s⟩)) ∧ Below w.heap.size w w' := by
  have HV : Hid (validC ⟨2, n, s⟩ = (n == 0 && isNameL s.toList)) := rfl
  rw [HV.out]
  clear HV
  have HX : Hid (∀ W, Below (w.alloc (.cells #[.int .i64 2, .int .i64 n, .string s] 26)).heap.size (w.alloc (.cells #[.int .i64 2, .int .i64 n, .string s] 26)) W → conAt W w.heap.size 0 ⟨2, n, s⟩) := fun W hb => conAt_kept (conAt_new w ⟨2, n, s⟩ 26) hb
  obtain ⟨x0, x1, x2⟩ := HX.out _ (Below.refl _ _)
  have HB : Hid (Below w.heap.size w (w.alloc (.cells #[.int .i64 2, .int .i64 n, .string s] 26))) := (Below.refl _ _).alloc (Nat.le_refl _) _
  by_cases hn : n = 0
  · subst hn
    by_cases h0 : s.size = 0
    · obtain ⟨q1, q2⟩ := empty_flags.1 h0
      have HE : Hid (((0 : Int) == 0 && isNameL s.toList) = false) := by
        show _ = _
        unfold isNameL isWordL
        rw [toListLen, h0]
        rfl
      rw [HE.out]
      clear HE h0
      go_enter Tryz.func6, Tryz.ntmps6
      go_wp2
      go_ret
      exact ⟨rfl, HB.out⟩
    · obtain ⟨q1, q2⟩ := empty_flags.2 h0
      have hp : 0 < s.size := by omega
      have HN := hide (name_parts hp)
      rw [HN.out]
      by_cases h64 : s.size ≤ 64
      · have d64 : decide (s.size ≤ 64) = true := by simpa using h64
        have g64 : ¬ (64 : Int) < (s.size : Int) := by omega
        have gi : (0 : Int) < (s.size : Int) := by omega
        obtain ⟨b, hb⟩ : ∃ b : Int, b = (s[0].toNat : Int) := ⟨_, rfl⟩
        have hbb : 0 ≤ b ∧ b ≤ 255 := by have := s[0].toNat_lt; omega
        rw [← hb, d64]
        by_cases h97 : 97 ≤ b
        · by_cases h122 : b ≤ 122
          · have e97 : decide (97 ≤ b) = true := by simpa using h97
            have e122 : decide (b ≤ 122) = true := by simpa using h122
            have g97 : ¬ b < 97 := by omega
            have g122 : ¬ 122 < b := by omega
            have hb2 := hb.symm
            rw [e97, e122]
            cases hnot : (s.toList == [110, 111, 116]) with
            | true =>
              have HE : Hid (((0 : Int) == 0 && (true && (s.toList.all wordB && (true && true && !true)))) = false) := by show _ = _; cases s.toList.all wordB <;> rfl
              rw [HE.out]
              clear HE hb HN d64 e97 e122
              go_enter Tryz.func6, Tryz.ntmps6
              go_wp2
              go_ret
              exact ⟨rfl, HB.out⟩
            | false =>
              have HE : Hid (((0 : Int) == 0 && (true && (s.toList.all wordB && (true && true && !false)))) = s.toList.all wordB) := by show _ = _; cases s.toList.all wordB <;> rfl
              rw [HE.out]
              clear HE hb HN d64 e97 e122
              go_enter Tryz.func6, Tryz.ntmps6
              go_wp2
              clear hnot q1 q2 h97 h122 g97 g122 hb2 hbb h0 h64 g64
              generalize w.alloc (.cells #[.int .i64 2, .int .i64 0, .string s] 26) = W1 at *
              go_loopw [3] (fun i wr => ∃ k : Nat, k ≤ s.size ∧ i = .int .i64 k ∧ wr = W1 ∧ Hid ((s.toList.take k).all wordB = true)) (fun i _ => s.size - (intOf i).toNat)
              case atStart => exact ⟨0, Nat.zero_le _, rfl, rfl, rfl⟩
              case round =>
                obtain ⟨k, hk, rfl, rfl, HA⟩ := hrel
                by_cases hlt : k < s.size
                · have hi : (k : Int) < (s.size : Int) := by omega
                  have hb : (0 : Int) ≤ (s[k].toNat : Int) ∧ (s[k].toNat : Int) ≤ 255 := by have := s[k].toNat_lt; omega
                  have HC := hide (fun W => wordByteT (s[k].toNat : Int) W hb)
                  have HS := hide (take_snoc s k hlt)
                  have HW : Hid (wordB s[k] = wordN (s[k].toNat : Int)) := rfl
                  have HM := hide (mem_byte s k hlt)
                  cases hwb : wordN (s[k].toNat : Int) with
                  | true =>
                    rw [hwb] at HC HW
                    go_wp2_with (go_at_call 22; refine (HC.out _).mono ?_; rintro e w' ⟨rfl, hw'⟩; have hw' := hw'.symm; subst hw')
                    go_roundw
                    case rel => exact ⟨k + 1, by omega, by go_num, trivial, by show (s.toList.take (k + 1)).all wordB = true; rw [HS.out, List.all_append, HA.out, List.all_cons, HW.out]; rfl⟩
                    case measure => simp [intOf]; omega
                  | false =>
                    rw [hwb] at HC HW
                    have hall : Hid (s.toList.all wordB = false) := by
                      show s.toList.all wordB = false
                      rw [List.all_eq_false]
                      exact ⟨s[k], HM.out, by rw [HW.out]; decide⟩
                    go_wp2_with (go_at_call 22; refine (HC.out _).mono ?_; rintro e w' ⟨rfl, hw'⟩; have hw' := hw'.symm; subst hw')
                    go_ret
                    exact ⟨by rw [hall.out]; rfl, HB.out⟩
                · have hi : ¬ (k : Int) < (s.size : Int) := by omega
                  go_wp2
                  go_ret
                  refine ⟨?_, HB.out⟩
                  have := HA.out
                  rw [List.take_of_length_le (by rw [toListLen]; omega)] at this
                  rw [this]; rfl
          · have HE : Hid (((0 : Int) == 0 && (true && (s.toList.all wordB && (decide (97 ≤ b) && decide (b ≤ 122) && !(s.toList == [110, 111, 116]))))) = false) := by
              show _ = _
              rw [show decide (b ≤ 122) = false from by simpa using h122]
              cases s.toList.all wordB <;> cases decide (97 ≤ b) <;> rfl
            rw [HE.out]
            have g97 : ¬ b < 97 := by omega
            have g122 : 122 < b := by omega
            have hb2 := hb.symm
            clear HE hb HN d64
            go_enter Tryz.func6, Tryz.ntmps6
            go_wp2
            go_ret
            exact ⟨rfl, HB.out⟩
        · have HE : Hid (((0 : Int) == 0 && (true && (s.toList.all wordB && (decide (97 ≤ b) && decide (b ≤ 122) && !(s.toList == [110, 111, 116]))))) = false) := by
            show _ = _
            rw [show decide (97 ≤ b) = false from by simpa using h97]
            cases s.toList.all wordB <;> rfl
          rw [HE.out]
          have g97 : b < 97 := by omega
          have hb2 := hb.symm
          clear HE hb HN d64
          go_enter Tryz.func6, Tryz.ntmps6
          go_wp2
          go_ret
          exact ⟨rfl, HB.out⟩
      · have g64 : (64 : Int) < (s.size : Int) := by omega
        have HE : Hid (((0 : Int) == 0 && (decide (s.size ≤ 64) && (s.toList.all wordB && (decide ((97 : Int) ≤ (s[0].toNat : Int)) && decide ((s[0].toNat : Int) ≤ 122) && !(s.toList == [110, 111, 116]))))) = false) := by
          show _ = _
          rw [show decide (s.size ≤ 64) = false from by simpa using h64]
          rfl
        rw [HE.out]
        clear HE HN
        go_enter Tryz.func6, Tryz.ntmps6
        go_wp2
        go_ret
        exact ⟨rfl, HB.out⟩
  · have e0 : (n == 0) = false := by simpa using hn
    have HE : Hid ((n == 0 && isNameL s.toList) = false) := by show _ = _; rw [e0]; rfl
    rw [HE.out]
    clear HE
    go_enter Tryz.func6, Tryz.ntmps6
    go_wp2
    go_ret
    exact ⟨rfl, HB.out⟩

set_option maxHeartbeats 4000000 in
set_option maxRecDepth 100000 in
theorem fit_any (c : Con) (w : World) (hc : c.ok) :
    Calls Tryz.prog 6 #[.agg #[.int .i64 c.k, .int .i64 c.n, .string c.s]] w fun e w' => e = .returned (.bool (validC c)) ∧ Below w.heap.size w w' := by
  obtain ⟨k, n, s⟩ := c
  have hs : s.size ≤ 140737488351232 := hc.2.2
  clear hc
  dsimp only
  by_cases h2 : k = 2
  · subst h2
    exact fit_name n s w hs
  have HV : Hid (validC ⟨k, n, s⟩ = if k = 1 then s.toList == [] else if k = 3 then n == 0 && decide (s.size ≤ 255) else false) := by
    show _ = _
    unfold validC
    dsimp only
    rw [if_neg h2]
  rw [HV.out]
  clear HV
  obtain ⟨x0, x1, x2⟩ := conAt_new w ⟨k, n, s⟩ 26
  unfold boxOf at x0 x1 x2
  have HB : Hid (Below w.heap.size w (w.alloc (.cells #[.int .i64 k, .int .i64 n, .string s] 26))) := (Below.refl _ _).alloc (Nat.le_refl _) _
  by_cases h1 : k = 1
  · subst h1
    rw [if_pos rfl]
    go_enter Tryz.func6, Tryz.ntmps6
    go_wp2
    go_ret
    first | exact ⟨rfl, HB.out⟩ | exact ⟨ret_bool (by simp), HB.out⟩
  · rw [if_neg h1]
    have e1 : (k == 1) = false := by simpa using h1
    have e2 : (k == 2) = false := by simpa using h2
    by_cases h3 : k = 3
    · subst h3
      rw [if_pos rfl]
      by_cases h0 : n = 0
      · subst h0
        by_cases h255 : s.size ≤ 255
        · have g1 : (s.size : Int) ≤ 255 := by omega
          have HE : Hid (((0 : Int) == 0 && decide (s.size ≤ 255)) = true) := by show _ = _; rw [decide_eq_true h255]; rfl
          rw [HE.out]
          clear HE
          go_enter Tryz.func6, Tryz.ntmps6
          go_wp2
          go_ret
          exact ⟨rfl, HB.out⟩
        · have g1 : ¬ (s.size : Int) ≤ 255 := by omega
          have HE : Hid (((0 : Int) == 0 && decide (s.size ≤ 255)) = false) := by show _ = _; rw [decide_eq_false h255]; rfl
          rw [HE.out]
          clear HE
          go_enter Tryz.func6, Tryz.ntmps6
          go_wp2
          go_ret
          exact ⟨rfl, HB.out⟩
      · have e0 : (n == 0) = false := by simpa using h0
        have HE : Hid ((n == 0 && decide (s.size ≤ 255)) = false) := by show _ = _; rw [e0]; rfl
        rw [HE.out]
        clear HE
        go_enter Tryz.func6, Tryz.ntmps6
        go_wp2
        go_ret
        exact ⟨rfl, HB.out⟩
    · rw [if_neg h3]
      have e3 : (k == 3) = false := by simpa using h3
      go_enter Tryz.func6, Tryz.ntmps6
      go_wp2
      go_ret
      exact ⟨rfl, HB.out⟩
end Go.Proofs.YtoppnjpajeipdaaGreatDoor

namespace Go.Proofs.YtoppnjpajeipdaaGreatDoor
set_option linter.unusedSimpArgs false
set_option linter.unusedVariables false
open Go.RowKit

/-- How two constants that stand lie to each other. -/
theorem bef_cases {c d : Con} (hc : validC c = true) (hd : validC d = true) : (c = d ∧ cmpC c d = 0) ∨ (c ≠ d ∧ ((c.k < d.k ∧ cmpC c d = -1) ∨ (d.k < c.k ∧ cmpC c d = 1) ∨
    (c.k = 1 ∧ d.k = 1 ∧ c.n < d.n ∧ cmpC c d = -1) ∨ (c.k = 1 ∧ d.k = 1 ∧ d.n < c.n ∧ cmpC c d = 1) ∨ (c.k = d.k ∧ c.k ≠ 1 ∧ Op.bytesLess c.s.toList d.s.toList = true ∧ cmpC c d = -1) ∨ (c.k = d.k ∧ c.k ≠ 1 ∧ Op.bytesLess c.s.toList d.s.toList = false ∧ cmpC c d = 1))) := by
  have hz : ∀ {x : Con}, validC x = true → (x.k = 1 → x.s.toList = []) ∧ (x.k ≠ 1 → x.n = 0) := by
    intro x hx
    unfold validC at hx
    constructor
    · intro h; rw [if_pos h] at hx; simpa using hx
    · intro h
      rw [if_neg h] at hx
      split at hx
      · simp only [Bool.and_eq_true] at hx; simpa using hx.1
      · split at hx
        · simp only [Bool.and_eq_true] at hx; simpa using hx.1
        · cases hx
  by_cases e : c = d
  · subst e
    refine .inl ⟨rfl, ?_⟩
    rcases cmpC_cases c c with ⟨h, _⟩ | ⟨h, _⟩ | ⟨_, h, _⟩ | ⟨_, h, _⟩ | ⟨_, _, h⟩
    · omega
    · omega
    · omega
    · omega
    · rw [h, cmpL_refl]
  refine .inr ⟨e, ?_⟩
  rcases cmpC_cases c d with ⟨h, h2⟩ | ⟨h, h2⟩ | ⟨h1, h, h2⟩ | ⟨h1, h, h2⟩ | ⟨h1, h, h2⟩
  · exact .inl ⟨h, h2⟩
  · exact .inr (.inl ⟨h, h2⟩)
  · by_cases hk : c.k = 1
    · exact .inr (.inr (.inl ⟨hk, by omega, h, h2⟩))
    · have := (hz hc).2 hk; have := (hz hd).2 (by omega); omega
  · by_cases hk : c.k = 1
    · exact .inr (.inr (.inr (.inl ⟨hk, by omega, h, h2⟩)))
    · have := (hz hc).2 hk; have := (hz hd).2 (by omega); omega
  · have hne : c.s.toList ≠ d.s.toList := fun hs => e ((conEq_iff c d).1 (by unfold conEq; rw [h1, h, hs]; simp))
    by_cases hk : c.k = 1
    · exact absurd ((hz hc).1 hk |>.trans ((hz hd).1 (by omega)).symm) hne
    · rcases cmpL_rng c.s.toList d.s.toList with hr | hr | hr
      · exact .inr (.inr (.inr (.inr (.inl ⟨h1, hk, (less_iff _ _).2 hr, by rw [h2, hr]⟩))))
      · exact absurd (cmpL_zero _ _ hr) hne
      · refine .inr (.inr (.inr (.inr (.inr ⟨h1, hk, ?_, by rw [h2, hr]⟩))))
        cases hb : Op.bytesLess c.s.toList d.s.toList with
        | false => rfl
        | true => have := (less_iff _ _).1 hb; omega

set_option maxHeartbeats 4000000 in
set_option maxRecDepth 100000 in
theorem before_any (c d : Con) (w : World) (hc : validC c = true) (hd : validC d = true) :
    Calls Tryz.prog 15 #[.agg #[.int .i64 c.k, .int .i64 c.n, .string c.s], .agg #[.int .i64 d.k, .int .i64 d.n, .string d.s]] w fun e w' => e = .returned (.int .i64 (cmpC c d)) ∧ Below w.heap.size w w' := by
  have HQ := hide (fun W => eqCon c d W)
  have HB : Hid (∀ o o', Below w.heap.size w ((w.alloc o).alloc o')) := fun o o' => ((Below.refl w.heap.size w).alloc (Nat.le_refl _) o).alloc (by simp) o'
  have HC := bef_cases hc hd
  clear hc hd
  obtain ⟨k, n, s⟩ := c
  obtain ⟨k', n', s'⟩ := d
  dsimp only at HQ HC ⊢
  have HF : Hid (conEq ⟨k, n, s⟩ ⟨k', n', s'⟩ = true ↔ (⟨k, n, s⟩ : Con) = ⟨k', n', s'⟩) := conEq_iff _ _
  rcases HC with ⟨e, h⟩ | ⟨e, HC⟩
  · rw [h]
    have hq := HQ.out
    rw [HF.out.2 e] at hq
    clear h e
    go_enter Tryz.func15, Tryz.ntmps15
    go_wp2
    go_ret
    exact ⟨rfl, HB.out _ _⟩
  have hf : conEq ⟨k, n, s⟩ ⟨k', n', s'⟩ = false := by
    cases hb : conEq ⟨k, n, s⟩ ⟨k', n', s'⟩ with
    | false => rfl
    | true => exact absurd (HF.out.1 hb) e
  rw [hf] at HQ
  clear HF hf e
  rcases HC with ⟨h1, h⟩ | ⟨h1, h⟩ | ⟨h1, h2, h3, h⟩ | ⟨h1, h2, h3, h⟩ | ⟨h1, h2, h3, h⟩ | ⟨h1, h2, h3, h⟩
  · rw [h]
    have hq := HQ.out
    have g1 : (k == k') = false := by simp; omega
    clear h
    go_enter Tryz.func15, Tryz.ntmps15
    go_wp2
    go_ret
    exact ⟨rfl, HB.out _ _⟩
  · rw [h]
    have hq := HQ.out
    have g1 : (k == k') = false := by simp; omega
    have g2 : ¬ k < k' := by omega
    clear h
    go_enter Tryz.func15, Tryz.ntmps15
    go_wp2
    go_ret
    exact ⟨rfl, HB.out _ _⟩
  · rw [h]
    subst h1 h2
    have hq := HQ.out
    clear h
    go_enter Tryz.func15, Tryz.ntmps15
    go_wp2
    go_ret
    exact ⟨rfl, HB.out _ _⟩
  · rw [h]
    subst h1 h2
    have hq := HQ.out
    have g2 : ¬ n < n' := by omega
    clear h
    go_enter Tryz.func15, Tryz.ntmps15
    go_wp2
    go_ret
    exact ⟨rfl, HB.out _ _⟩
  · rw [h]
    subst h1
    have hq := HQ.out
    have g3 : (k == 1) = false := by simp; omega
    clear h
    go_enter Tryz.func15, Tryz.ntmps15
    go_wp2
    go_ret
    exact ⟨rfl, HB.out _ _⟩
  · rw [h]
    subst h1
    have hq := HQ.out
    have g3 : (k == 1) = false := by simp; omega
    clear h
    go_enter Tryz.func15, Tryz.ntmps15
    go_wp2
    go_ret
    exact ⟨rfl, HB.out _ _⟩
end Go.Proofs.YtoppnjpajeipdaaGreatDoor

namespace Go.Proofs.YtoppnjpajeipdaaGreatDoor
set_option linter.unusedSimpArgs false
set_option linter.unusedVariables false
open Go.RowKit
attribute [local go_sem] over_cellAt

theorem decT_small {a : Nat} (h : a < 10) : Lib.decDigits a = [UInt8.ofNat (48 + a)] := by rw [Lib.decDigits, dif_pos h]
theorem decT_big {a : Nat} (h : ¬ a < 10) : Lib.decDigits a = Lib.decDigits (a / 10) ++ [UInt8.ofNat (48 + a % 10)] := by rw [Lib.decDigits, dif_neg h]
theorem decT_len (u : Nat) (h : u < 18446744073709551616) : (Lib.decDigits u).length ≤ 20 := by
  rw [Go.Lib.decDigits_length]; exact Go.Lib.nDigits_le20 u (by omega)

theorem wrapU64 (n : Int) : IntKind.u64.wrap n = n % 18446744073709551616 := by simp [IntKind.wrap, IntKind.bits, IntKind.signed]
theorem wrapU8 (n : Int) : IntKind.u8.wrap n = n % 256 := by simp [IntKind.wrap, IntKind.bits, IntKind.signed]
/-- A row of one byte as a string. -/
theorem one_string (W : World) (g : Nat) (z : Int) (h : W.cell? ⟨g, 0, none⟩ = some (.int .u8 z)) :
    (convert 56 9 (.slice (some ⟨g, 0, none⟩) 1 1)).run Tryz.prog W = .ok (.string (strOf [z])) W := by
  rw [run_convert_bytes_string W _ _ 5 _ _ _ Tryz.underlying56 Tryz.underlying5 Tryz.underlying9]
  refine run_bytesToString W ⟨g, 0, none⟩ _ _ [z] ?_
  have := run_loadCells_list (P := Tryz.prog) W ⟨g, 0, none⟩ ([z].map (Value.int .u8)) (fun j v hv => ?_)
  · simpa using this
  · match j, hv with
    | 0, hv =>
      simp only [List.map_cons, List.map_nil, List.getElem?_cons_zero, Option.some.injEq] at hv
      subst hv
      exact h
    | j + 1, hv => simp at hv
theorem one_bytes (d : Nat) (h : d < 10) : strOf [48 + (d : Int)] = ⟨[UInt8.ofNat (48 + d)].toArray⟩ := by
  apply bytes_ext
  rw [strOf_data]
  simp [byteOf, show (48 + (d : Int)).toNat = 48 + d from by omega]

set_option maxHeartbeats 8000000 in
set_option maxRecDepth 100000 in
theorem decT_any : ∀ (m : Nat) (w : World), m < 18446744073709551616 →
    Calls Tryz.prog 41 #[.int .u64 m] w fun e w' => e = .returned (.string ⟨(Lib.decDigits m).toArray⟩) ∧ Below w.heap.size w w' := by
  intro m
  induction m using Nat.strongRecOn with
  | ind m ih =>
    intro w hm
    by_cases h10 : m < 10
    · have HD : Hid ((⟨(Lib.decDigits m).toArray⟩ : ByteArray) = strOf [48 + (m : Int)]) := by show _ = _; rw [decT_small h10, one_bytes m h10]
      rw [HD.out]
      have hconv := one_string (w.alloc (.cells #[.int .u8 (48 + (m : Int))] 5)) w.heap.size (48 + (m : Int)) (by simp)
      have hi : (m : Int) < 10 := by omega
      clear ih
      go_enter Tryz.func41, Tryz.ntmps41
      go_wp2
      go_ret
      exact ⟨rfl, (Below.refl _ _).alloc (Nat.le_refl _) _⟩
    · have hl := decT_len m hm
      have HI : Hid (∀ W, Calls Tryz.prog 41 #[.int .u64 ((m : Int) / 10)] W fun e w' => e = .returned (.string ⟨(Lib.decDigits (m / 10)).toArray⟩) ∧ Below W.heap.size W w') := fun W => by
        have := ih (m / 10) (by omega) W (by omega)
        rwa [show ((m / 10 : Nat) : Int) = (m : Int) / 10 from by omega] at this
      have hi : ¬ (m : Int) < 10 := by omega
      have hd : ((m % 10 : Nat) : Int) = (m : Int) % 10 := by omega
      have hcv : ∀ (W : World) (g : Nat), W.cell? ⟨g, 0, none⟩ = some (.int .u8 (48 + (m : Int) % 10)) → (convert 56 9 (.slice (some ⟨g, 0, none⟩) 1 1)).run Tryz.prog W = .ok (.string ⟨[UInt8.ofNat (48 + m % 10)].toArray⟩) W := fun W g h => by
        rw [one_string W g _ h, ← hd, one_bytes _ (by omega)]
      have HE : Hid (Lib.decDigits m = Lib.decDigits (m / 10) ++ [UInt8.ofNat (48 + m % 10)]) := decT_big h10
      rw [HE.out] at hl ⊢
      obtain ⟨L, hL⟩ : ∃ L, L = Lib.decDigits (m / 10) := ⟨_, rfl⟩
      obtain ⟨D, hD⟩ : ∃ D : ByteArray, D = ⟨[UInt8.ofNat (48 + m % 10)].toArray⟩ := ⟨_, rfl⟩
      rw [← hL] at HI hl ⊢
      rw [← hD] at hcv
      obtain ⟨LB, hLB⟩ : ∃ LB : ByteArray, LB = ⟨L.toArray⟩ := ⟨_, rfl⟩
      obtain ⟨R, hR⟩ : ∃ R : ByteArray, R = ⟨(L ++ [UInt8.ofNat (48 + m % 10)]).toArray⟩ := ⟨_, rfl⟩
      have hcat : ∀ W : World, (Op.stringOp .add LB D).run Tryz.prog W = .ok (.string R) W := fun W => by
        have h1 : LB.size = L.length := by rw [hLB]; show L.toArray.size = _; simp
        have h2 : D.size = 1 := by rw [hD]; rfl
        have h3 : ¬ (((LB.size + D.size : Nat) : Int) > IntKind.i64.max) := by show ¬ _ > (9223372036854775807 : Int); rw [List.length_append] at hl; omega
        have h4 : LB ++ D = R := by
          apply bytes_ext
          rw [hLB, hD, hR, ByteArray.data_append]
          simp
        unfold Op.stringOp
        simp only
        rw [if_neg h3, h4]
        rfl
      rw [← hLB] at HI
      rw [← hR]
      clear hL hD hLB hR hl HE ih h10 hd
      have hm0 : (0 : Int) ≤ (m : Int) := by omega
      have hr1 : 0 ≤ (m : Int) % 10 := by omega
      have hr2 : (m : Int) % 10 < 10 := by omega
      have ht : (m : Int).tmod 10 = (m : Int) % 10 := Int.tmod_eq_emod_of_nonneg hm0
      have hw1 : IntKind.u64.wrap ((m : Int) / 10) = (m : Int) / 10 := by rw [wrapU64]; omega
      have hw2 : IntKind.u8.wrap ((m : Int) % 10) = (m : Int) % 10 := by rw [wrapU8]; omega
      have hw3 : IntKind.u8.wrap (48 + (m : Int) % 10) = 48 + (m : Int) % 10 := by rw [wrapU8]; omega
      go_enter Tryz.func41, Tryz.ntmps41
      go_wp2_with fail
      go_region_with (go_at_call 41; refine (HI.out _).mono ?_; rintro e w1 ⟨rfl, hb1⟩; obtain ⟨x1, rfl⟩ := over_of hb1)
      all_goals (try go_wp2)
      all_goals go_ret
      all_goals first
        | exact ⟨rfl, ((Below.refl w.heap.size w).drew.trans hb1).alloc (by have := hb1.size; simpa using this) _⟩
        | exact ⟨rfl, ((Below.refl w.heap.size w).drew.alloc (Nat.le_refl _) _).trans (hb1.mono (by simp))⟩

set_option maxHeartbeats 4000000 in
set_option maxRecDepth 100000 in
theorem signed_any (n : Int) (w : World) (hn : I64 n) :
    Calls Tryz.prog 26 #[.int .i64 n] w fun e w' => e = .returned (.string ⟨(Lib.itoa n).toArray⟩) ∧ Below w.heap.size w w' := by
  obtain ⟨h1, h2⟩ := hn
  by_cases hneg : n < 0
  · have HI : Hid (Lib.itoa n = 45 :: Lib.decDigits n.natAbs) := by show _ = _; unfold Lib.itoa; rw [if_pos hneg]
    have hl := decT_len n.natAbs (by omega)
    have HD : Hid (∀ W, Calls Tryz.prog 41 #[.int .u64 (-(n + 1) + 1)] W fun e w' => e = .returned (.string ⟨(Lib.decDigits n.natAbs).toArray⟩) ∧ Below W.heap.size W w') := fun W => by
      have := decT_any n.natAbs W (by omega)
      rwa [show ((n.natAbs : Nat) : Int) = -(n + 1) + 1 from by omega] at this
    rw [HI.out]
    obtain ⟨D, hD⟩ : ∃ D : ByteArray, D = ⟨(Lib.decDigits n.natAbs).toArray⟩ := ⟨_, rfl⟩
    obtain ⟨R, hR⟩ : ∃ R : ByteArray, R = ⟨(45 :: Lib.decDigits n.natAbs).toArray⟩ := ⟨_, rfl⟩
    have hcat : ∀ W : World, (Op.stringOp .add ⟨#[45]⟩ D).run Tryz.prog W = .ok (.string R) W := fun W => by
      have e1 : D.size = (Lib.decDigits n.natAbs).length := by rw [hD]; show (Lib.decDigits n.natAbs).toArray.size = _; simp
      have e3 : ¬ ((((⟨#[45]⟩ : ByteArray).size + D.size : Nat) : Int) > IntKind.i64.max) := by show ¬ (((1 + D.size : Nat) : Int) > (9223372036854775807 : Int)); omega
      have e4 : (⟨#[45]⟩ : ByteArray) ++ D = R := by
        apply bytes_ext
        rw [hD, hR, ByteArray.data_append]
        simp
      unfold Op.stringOp
      simp only
      rw [if_neg e3, e4]
      rfl
    rw [← hD] at HD
    rw [← hR]
    clear hD hR hl HI
    go_enter Tryz.func26, Tryz.ntmps26
    go_wp2_with (go_at_call 41; refine (HD.out _).mono ?_; rintro e w1 ⟨rfl, hb1⟩)
    go_ret
    exact ⟨rfl, hb1⟩
  · have HI : Hid (Lib.itoa n = Lib.decDigits n.toNat) := by show _ = _; unfold Lib.itoa; rw [if_neg hneg]
    have HD : Hid (∀ W, Calls Tryz.prog 41 #[.int .u64 n] W fun e w' => e = .returned (.string ⟨(Lib.decDigits n.toNat).toArray⟩) ∧ Below W.heap.size W w') := fun W => by
      have := decT_any n.toNat W (by omega)
      rwa [show ((n.toNat : Nat) : Int) = n from by omega] at this
    rw [HI.out]
    have hw1 : IntKind.u64.wrap n = n := by rw [wrapU64]; omega
    clear HI
    go_enter Tryz.func26, Tryz.ntmps26
    go_wp2_with (go_at_call 41; refine (HD.out _).mono ?_; rintro e w1 ⟨rfl, hb1⟩)
    go_ret
    exact ⟨rfl, hb1⟩
end Go.Proofs.YtoppnjpajeipdaaGreatDoor

namespace Go.Proofs.YtoppnjpajeipdaaGreatDoor
set_option linter.unusedSimpArgs false
set_option linter.unusedVariables false
open Go.RowKit

set_option maxHeartbeats 2000000 in
set_option maxRecDepth 100000 in
theorem shown_int (n : Int) (s : ByteArray) (w : World) (hn : I64 n) :
    Calls Tryz.prog 11 #[.agg #[.int .i64 1, .int .i64 n, .string s]] w fun e w' => e = .returned (.string ⟨(Lib.itoa n).toArray⟩) ∧ Below w.heap.size w w' := by
  have HS := hide (fun W => signed_any n W hn)
  clear hn
  go_enter Tryz.func11, Tryz.ntmps11
  go_wp2_with (go_at_call 26; refine (HS.out _).mono ?_; rintro e w1 ⟨rfl, hb1⟩)
  go_ret
  exact ⟨rfl, ((Below.refl _ _).alloc (Nat.le_refl _) _).trans (hb1.mono (by simp))⟩

set_option maxHeartbeats 2000000 in
set_option maxRecDepth 100000 in
theorem shown_name (n : Int) (s : ByteArray) (w : World) :
    Calls Tryz.prog 11 #[.agg #[.int .i64 2, .int .i64 n, .string s]] w fun e w' => e = .returned (.string s) ∧ Below w.heap.size w w' := by
  go_enter Tryz.func11, Tryz.ntmps11
  go_wp2
  go_ret
  exact ⟨rfl, (Below.refl _ _).alloc (Nat.le_refl _) _⟩

set_option maxHeartbeats 16000000 in
set_option maxRecDepth 100000 in
theorem shown_text (n : Int) (s : ByteArray) (w : World) (hs : s.size ≤ 255) :
    Calls Tryz.prog 11 #[.agg #[.int .i64 3, .int .i64 n, .string s]] w fun e w' => e = .returned (.string (strOf (quotI s))) ∧ Below w.heap.size w w' := by
  obtain ⟨i0, hi0, hz0, hz1, hz2⟩ := info_parts Tryz.infoByte
  have HX : Hid (∀ W, Below (w.alloc (.cells #[.int .i64 3, .int .i64 n, .string s] 26)).heap.size (w.alloc (.cells #[.int .i64 3, .int .i64 n, .string s] 26)) W → conAt W w.heap.size 0 ⟨3, n, s⟩) := fun W hb => conAt_kept (conAt_new w ⟨3, n, s⟩ 26) hb
  obtain ⟨x0, x1, x2⟩ := HX.out _ (Below.refl _ _)
  have HB0 : Hid (Below w.heap.size w (w.alloc (.cells #[.int .i64 3, .int .i64 n, .string s] 26))) := (Below.refl _ _).alloc (Nat.le_refl _) _
  obtain ⟨W0, hW0⟩ : ∃ W0, W0 = w.alloc (.cells #[.int .i64 3, .int .i64 n, .string s] 26) := ⟨_, rfl⟩
  have hsz0 : W0.heap.size = w.heap.size + 1 := by rw [hW0]; simp
  have HO0 : Hid ((W0.alloc (.cells #[.int .u8 34] 5)).ownsRow W0.heap.size 5 1 (.slice (some ⟨W0.heap.size, 0, none⟩) 1 1) ([34] : List Int).length (([34] : List Int).map (Value.int .u8))) := World.ownsRow_lit W0 #[.int .u8 34] 1 (Nat.le_refl _) (by decide) rfl
  have HB1 : Hid (Below W0.heap.size W0 (W0.alloc (.cells #[.int .u8 34] 5))) := (Below.refl _ _).alloc (Nat.le_refl _) _
  rw [← hW0] at HX HB0 x0 x1 x2
  go_enter Tryz.func11, Tryz.ntmps11
  go_wp2_with fail
  rw [← hW0]
  go_loopw [3, 4] (fun v i wr => ∃ (k : Nat) (vs : List Int), k ≤ s.size ∧ i = .int .i64 k ∧ Hid (vs = 34 :: ((intsOf s).take k).flatMap escI) ∧ Hid (wr.ownsRow W0.heap.size 5 1 v vs.length (vs.map (Value.int .u8))) ∧ Hid (Below W0.heap.size W0 wr)) (fun _ i _ => s.size - (intOf i).toNat)
  case atStart => exact ⟨0, [34], by omega, rfl, rfl, (by show World.ownsRow _ _ _ _ _ _ _; rw [← hsz0]; exact HO0.out), HB1.out⟩
  case round =>
    clear x0 x1 x2 HO0 HB1
    obtain ⟨k, vs, hk, rfl, HV, HO, HB⟩ := hrel
    obtain ⟨x0, x1, x2⟩ := HX.out _ HB.out
    have hvs : vs.length ≤ 1 + 4 * k := by
      have h1 := escs_len ((intsOf s).take k)
      have h2 : ((intsOf s).take k).length ≤ k := by rw [List.length_take]; omega
      rw [HV.out, List.length_cons]; omega
    obtain ⟨ao, cap, rfl⟩ := own_shape HO.out
    by_cases hlt : k < s.size
    · have hi : (k : Int) < (s.size : Int) := by omega
      have hb : (0 : Int) ≤ (s[k].toNat : Int) ∧ (s[k].toNat : Int) ≤ 255 := by have := s[k].toNat_lt; omega
      have HV2 : Hid (vs ++ escI (s[k].toNat : Int) = 34 :: ((intsOf s).take (k + 1)).flatMap escI) := by
        show _ = _
        rw [intsOf_take s k hlt, List.flatMap_append, HV.out]; simp
      obtain ⟨b, hbe⟩ : ∃ b : Int, b = (s[k].toNat : Int) := ⟨_, rfl⟩
      rw [← hbe] at hb HV2
      have hb2 := hbe.symm
      clear hbe
      by_cases e34 : b = 34
      · subst e34
        have HE : Hid (escI 34 = ([92, 34] : List Int)) := by show escI _ = _; unfold escI; rfl
        rw [HE.out] at HV2
        clear HE
        go_wp2_with (at_builtin; refine wpList_append_lies _ rfl _ _ 56 rfl W0.heap.size 5 i0 (.int .u8 0) 1 1 Tryz.underlying56 hi0 hz0 hz1 hz2 rfl (by decide) (.slice ao vs.length cap) vs.length (vs.map (Value.int .u8)) rfl (World.ownsRow.alloc HO.out _) ⟨wr.heap.size, 0, none⟩ 2 2 (([92, 34] : List Int).map (Value.int .u8)) rfl rfl (news_bytes wr ([92, 34] : List Int)) (by simp [Value.oneCell']) (by decide) (by unfold maxLen; omega) (by omega) (by have := HB.out.size; simp; omega) (wr.heap.size + 1) (by simp) ?_; intro gg cap' w2 hown1 hgrow hat hlt1)
        have HB2 := hide (grown_below HB.out HB.out.size HO.out hgrow)
        have HO2 : Hid (w2.ownsRow W0.heap.size 5 1 (.slice (some ⟨gg, 0, none⟩) (vs.length + 2) cap') (vs ++ [92, 34]).length ((vs ++ [92, 34]).map (Value.int .u8))) := by
          show World.ownsRow _ _ _ _ _ _ _
          rw [List.length_append, List.map_append]; exact hown1
        clear hown1 hgrow hat hlt1 HO
        go_wp2
        go_roundw
        case rel => exact ⟨k + 1, _, by omega, by go_num, HV2, HO2, HB2⟩
        case measure => simp [intOf]; omega
      by_cases e92 : b = 92
      · subst e92
        have HE : Hid (escI 92 = ([92, 92] : List Int)) := by show escI _ = _; unfold escI; rfl
        rw [HE.out] at HV2
        clear HE
        go_wp2_with (at_builtin; refine wpList_append_lies _ rfl _ _ 56 rfl W0.heap.size 5 i0 (.int .u8 0) 1 1 Tryz.underlying56 hi0 hz0 hz1 hz2 rfl (by decide) (.slice ao vs.length cap) vs.length (vs.map (Value.int .u8)) rfl (World.ownsRow.alloc HO.out _) ⟨wr.heap.size, 0, none⟩ 2 2 (([92, 92] : List Int).map (Value.int .u8)) rfl rfl (news_bytes wr ([92, 92] : List Int)) (by simp [Value.oneCell']) (by decide) (by unfold maxLen; omega) (by omega) (by have := HB.out.size; simp; omega) (wr.heap.size + 1) (by simp) ?_; intro gg cap' w2 hown1 hgrow hat hlt1)
        have HB2 := hide (grown_below HB.out HB.out.size HO.out hgrow)
        have HO2 : Hid (w2.ownsRow W0.heap.size 5 1 (.slice (some ⟨gg, 0, none⟩) (vs.length + 2) cap') (vs ++ [92, 92]).length ((vs ++ [92, 92]).map (Value.int .u8))) := by
          show World.ownsRow _ _ _ _ _ _ _
          rw [List.length_append, List.map_append]; exact hown1
        clear hown1 hgrow hat hlt1 HO
        go_wp2
        go_roundw
        case rel => exact ⟨k + 1, _, by omega, by go_num, HV2, HO2, HB2⟩
        case measure => simp [intOf]; omega
      by_cases e10 : b = 10
      · subst e10
        have HE : Hid (escI 10 = ([92, 110] : List Int)) := by show escI _ = _; unfold escI; rfl
        rw [HE.out] at HV2
        clear HE
        go_wp2_with (at_builtin; refine wpList_append_lies _ rfl _ _ 56 rfl W0.heap.size 5 i0 (.int .u8 0) 1 1 Tryz.underlying56 hi0 hz0 hz1 hz2 rfl (by decide) (.slice ao vs.length cap) vs.length (vs.map (Value.int .u8)) rfl (World.ownsRow.alloc HO.out _) ⟨wr.heap.size, 0, none⟩ 2 2 (([92, 110] : List Int).map (Value.int .u8)) rfl rfl (news_bytes wr ([92, 110] : List Int)) (by simp [Value.oneCell']) (by decide) (by unfold maxLen; omega) (by omega) (by have := HB.out.size; simp; omega) (wr.heap.size + 1) (by simp) ?_; intro gg cap' w2 hown1 hgrow hat hlt1)
        have HB2 := hide (grown_below HB.out HB.out.size HO.out hgrow)
        have HO2 : Hid (w2.ownsRow W0.heap.size 5 1 (.slice (some ⟨gg, 0, none⟩) (vs.length + 2) cap') (vs ++ [92, 110]).length ((vs ++ [92, 110]).map (Value.int .u8))) := by
          show World.ownsRow _ _ _ _ _ _ _
          rw [List.length_append, List.map_append]; exact hown1
        clear hown1 hgrow hat hlt1 HO
        go_wp2
        go_roundw
        case rel => exact ⟨k + 1, _, by omega, by go_num, HV2, HO2, HB2⟩
        case measure => simp [intOf]; omega
      by_cases e9 : b = 9
      · subst e9
        have HE : Hid (escI 9 = ([92, 116] : List Int)) := by show escI _ = _; unfold escI; rfl
        rw [HE.out] at HV2
        clear HE
        go_wp2_with (at_builtin; refine wpList_append_lies _ rfl _ _ 56 rfl W0.heap.size 5 i0 (.int .u8 0) 1 1 Tryz.underlying56 hi0 hz0 hz1 hz2 rfl (by decide) (.slice ao vs.length cap) vs.length (vs.map (Value.int .u8)) rfl (World.ownsRow.alloc HO.out _) ⟨wr.heap.size, 0, none⟩ 2 2 (([92, 116] : List Int).map (Value.int .u8)) rfl rfl (news_bytes wr ([92, 116] : List Int)) (by simp [Value.oneCell']) (by decide) (by unfold maxLen; omega) (by omega) (by have := HB.out.size; simp; omega) (wr.heap.size + 1) (by simp) ?_; intro gg cap' w2 hown1 hgrow hat hlt1)
        have HB2 := hide (grown_below HB.out HB.out.size HO.out hgrow)
        have HO2 : Hid (w2.ownsRow W0.heap.size 5 1 (.slice (some ⟨gg, 0, none⟩) (vs.length + 2) cap') (vs ++ [92, 116]).length ((vs ++ [92, 116]).map (Value.int .u8))) := by
          show World.ownsRow _ _ _ _ _ _ _
          rw [List.length_append, List.map_append]; exact hown1
        clear hown1 hgrow hat hlt1 HO
        go_wp2
        go_roundw
        case rel => exact ⟨k + 1, _, by omega, by go_num, HV2, HO2, HB2⟩
        case measure => simp [intOf]; omega
      by_cases e13 : b = 13
      · subst e13
        have HE : Hid (escI 13 = ([92, 114] : List Int)) := by show escI _ = _; unfold escI; rfl
        rw [HE.out] at HV2
        clear HE
        go_wp2_with (at_builtin; refine wpList_append_lies _ rfl _ _ 56 rfl W0.heap.size 5 i0 (.int .u8 0) 1 1 Tryz.underlying56 hi0 hz0 hz1 hz2 rfl (by decide) (.slice ao vs.length cap) vs.length (vs.map (Value.int .u8)) rfl (World.ownsRow.alloc HO.out _) ⟨wr.heap.size, 0, none⟩ 2 2 (([92, 114] : List Int).map (Value.int .u8)) rfl rfl (news_bytes wr ([92, 114] : List Int)) (by simp [Value.oneCell']) (by decide) (by unfold maxLen; omega) (by omega) (by have := HB.out.size; simp; omega) (wr.heap.size + 1) (by simp) ?_; intro gg cap' w2 hown1 hgrow hat hlt1)
        have HB2 := hide (grown_below HB.out HB.out.size HO.out hgrow)
        have HO2 : Hid (w2.ownsRow W0.heap.size 5 1 (.slice (some ⟨gg, 0, none⟩) (vs.length + 2) cap') (vs ++ [92, 114]).length ((vs ++ [92, 114]).map (Value.int .u8))) := by
          show World.ownsRow _ _ _ _ _ _ _
          rw [List.length_append, List.map_append]; exact hown1
        clear hown1 hgrow hat hlt1 HO
        go_wp2
        go_roundw
        case rel => exact ⟨k + 1, _, by omega, by go_num, HV2, HO2, HB2⟩
        case measure => simp [intOf]; omega
      have f34 : (b == 34) = false := by simpa using e34
      have f92 : (b == 92) = false := by simpa using e92
      have f10 : (b == 10) = false := by simpa using e10
      have f9 : (b == 9) = false := by simpa using e9
      have f13 : (b == 13) = false := by simpa using e13
      by_cases h3 : 32 ≤ b ∧ b ≤ 126
      · obtain ⟨h32, h126⟩ := h3
        have HE : Hid (escI b = [b]) := by show escI _ = _; unfold escI; rw [if_neg e34, if_neg e92, if_neg e10, if_neg e9, if_neg e13, if_pos ⟨h32, h126⟩]
        rw [HE.out] at HV2
        clear HE e34 e92 e10 e9 e13
        go_wp2_with (at_builtin; refine wpList_append_lies _ rfl _ _ 56 rfl W0.heap.size 5 i0 (.int .u8 0) 1 1 Tryz.underlying56 hi0 hz0 hz1 hz2 rfl (by decide) (.slice ao vs.length cap) vs.length (vs.map (Value.int .u8)) rfl (World.ownsRow.alloc HO.out _) ⟨wr.heap.size, 0, none⟩ 1 1 (([b] : List Int).map (Value.int .u8)) rfl rfl (news_bytes wr ([b] : List Int)) (by simp [Value.oneCell']) (by decide) (by unfold maxLen; omega) (by omega) (by have := HB.out.size; simp; omega) (wr.heap.size + 1) (by simp) ?_; intro gg cap' w2 hown1 hgrow hat hlt1)
        have HB2 := hide (grown_below HB.out HB.out.size HO.out hgrow)
        have HO2 : Hid (w2.ownsRow W0.heap.size 5 1 (.slice (some ⟨gg, 0, none⟩) (vs.length + 1) cap') (vs ++ [b]).length ((vs ++ [b]).map (Value.int .u8))) := by
          show World.ownsRow _ _ _ _ _ _ _
          rw [List.length_append, List.map_append]; exact hown1
        clear hown1 hgrow hat hlt1 HO
        go_wp2
        go_roundw
        case rel => exact ⟨k + 1, _, by omega, by go_num, HV2, HO2, HB2⟩
        case measure => simp [intOf]; omega
      · have HE : Hid (escI b = [92, 120, hexI (b / 16).toNat, hexI (b % 16).toNat]) := by show escI _ = _; unfold escI; rw [if_neg e34, if_neg e92, if_neg e10, if_neg e9, if_neg e13, if_neg h3]
        rw [HE.out] at HV2
        clear HE e34 e92 e10 e9 e13
        have q1 : 0 ≤ b / 16 ∧ b / 16 < 16 := by omega
        have q2 : 0 ≤ b % 16 ∧ b % 16 < 16 := by omega
        have ha := and15 hb
        rw [hexI_at (b / 16).toNat (by show _ < 16; omega), hexI_at (b % 16).toNat (by show _ < 16; omega)] at HV2
        unfold hexS at HV2
        by_cases h32 : 32 ≤ b
        · have h126 : ¬ b ≤ 126 := by omega
          clear h3
          go_wp2_with fail
          go_region_law (refine step_append_lies _ (by rfl) _ _ _ (by rfl) W0.heap.size 5 i0 _ 1 1 Tryz.underlying56 hi0 hz0 hz1 hz2 rfl (by decide) (.slice ao vs.length cap) vs.length (vs.map (Value.int .u8)) (by rfl) ((World.ownsRow.drew HO.out).alloc _) ⟨wr.heap.size, 0, none⟩ 4 4 (List.map (Value.int .u8) [92, 120, _, _]) (by rfl) (by rfl) (news_bytes wr.drew [92, 120, _, _]) (by simp [Value.oneCell']) (by decide) (by unfold maxLen; omega) (by omega) (by have := HB.out.size; simp; omega) (wr.heap.size + 1) (by simp) ?_; intro gg cap' w2 hown1 hgrow hat hlt1)
          all_goals (try go_wp2)
          all_goals go_roundw
          all_goals first
            | exact ⟨k + 1, _, by omega, by go_num, HV2, (by show World.ownsRow _ _ _ _ _ _ _; rw [List.length_append, List.map_append]; exact hown1), hide (grown_below HB.out.drew HB.out.size (World.ownsRow.drew HO.out) hgrow)⟩
            | (simp [intOf]; omega)
        · clear h3
          go_wp2_with fail
          go_region_law (refine step_append_lies _ (by rfl) _ _ _ (by rfl) W0.heap.size 5 i0 _ 1 1 Tryz.underlying56 hi0 hz0 hz1 hz2 rfl (by decide) (.slice ao vs.length cap) vs.length (vs.map (Value.int .u8)) (by rfl) ((World.ownsRow.drew HO.out).alloc _) ⟨wr.heap.size, 0, none⟩ 4 4 (List.map (Value.int .u8) [92, 120, _, _]) (by rfl) (by rfl) (news_bytes wr.drew [92, 120, _, _]) (by simp [Value.oneCell']) (by decide) (by unfold maxLen; omega) (by omega) (by have := HB.out.size; simp; omega) (wr.heap.size + 1) (by simp) ?_; intro gg cap' w2 hown1 hgrow hat hlt1)
          all_goals (try go_wp2)
          all_goals go_roundw
          all_goals first
            | exact ⟨k + 1, _, by omega, by go_num, HV2, (by show World.ownsRow _ _ _ _ _ _ _; rw [List.length_append, List.map_append]; exact hown1), hide (grown_below HB.out.drew HB.out.size (World.ownsRow.drew HO.out) hgrow)⟩
            | (simp [intOf]; omega)
    · have hi : ¬ (k : Int) < (s.size : Int) := by omega
      have HQ : Hid (vs ++ [34] = quotI s) := by
        show _ = _
        unfold quotI
        rw [HV.out, List.take_of_length_le (by rw [intsOf_len]; omega)]
      go_wp2_with (at_builtin; refine wpList_append_lies _ rfl _ _ 56 rfl W0.heap.size 5 i0 (.int .u8 0) 1 1 Tryz.underlying56 hi0 hz0 hz1 hz2 rfl (by decide) (.slice ao vs.length cap) vs.length (vs.map (Value.int .u8)) rfl (World.ownsRow.alloc HO.out _) ⟨wr.heap.size, 0, none⟩ 1 1 (([34] : List Int).map (Value.int .u8)) rfl rfl (news_bytes wr ([34] : List Int)) (by simp [Value.oneCell']) (by decide) (by unfold maxLen; omega) (by omega) (by have := HB.out.size; simp; omega) (wr.heap.size + 1) (by simp) ?_; intro gg cap' w2 hown1 hgrow hat hlt1)
      have HB2 := hide (grown_below HB.out HB.out.size HO.out hgrow)
      have hown2 : w2.ownsRow W0.heap.size 5 1 (.slice (some ⟨gg, 0, none⟩) (vs.length + 1) cap') (vs ++ [34]).length ((vs ++ [34]).map (Value.int .u8)) := by rw [List.length_append, List.map_append]; exact hown1
      have hconv := text_string hown2
      rw [HQ.out] at hconv
      clear hown1 hown2 hgrow hat hlt1 HO
      go_wp2
      rw [hconv]
      go_wp2
      go_ret
      exact ⟨rfl, HB0.out.trans (HB2.out.mono HB0.out.size)⟩

/-- Every constant that stands. -/
theorem shown_any (c : Con) (w : World) (hc : c.ok) (hv : validC c = true) :
    Calls Tryz.prog 11 #[.agg #[.int .i64 c.k, .int .i64 c.n, .string c.s]] w fun e w' => e = .returned (.string (textC c)) ∧ Below w.heap.size w w' := by
  obtain ⟨k, n, s⟩ := c
  have hk := valid_kind hv
  dsimp only at hk ⊢
  rcases hk with rfl | rfl | ⟨rfl, hs⟩
  · rw [show textC ⟨1, n, s⟩ = ⟨(Lib.itoa n).toArray⟩ from by unfold textC; rw [hv]; rfl]
    exact shown_int n s w hc.2.1
  · rw [show textC ⟨2, n, s⟩ = s from by unfold textC; rw [hv]; rfl]
    exact shown_name n s w
  · rw [show textC ⟨3, n, s⟩ = strOf (quotI s) from by unfold textC; rw [hv]; rfl]
    exact shown_text n s w hs
end Go.Proofs.YtoppnjpajeipdaaGreatDoor

namespace Go.Proofs.YtoppnjpajeipdaaGreatDoor
set_option linter.unusedSimpArgs false
set_option linter.unusedVariables false
open Go.RowKit Go.Maps

set_option maxRecDepth 100000 in
set_option maxHeartbeats 8000000 in
theorem ordered_any {W : World} {base gs gr n ic : Nat} {ia : Option Addr} {ks : List Con} (hnd : ks.Nodup) (hok : ∀ x ∈ ks, x.ok ∧ validC x = true) (hn : n = ks.length) (hn64 : n ≤ 65536)
    (hS : ∀ V, Below W.heap.size W V → ∀ x, x < n → V.cell? ⟨gs, x, none⟩ = some (.int .i64 ((sortL ks).getD x 0 : Nat)))
    (hR : ∀ V, Below W.heap.size W V → ∀ x, x < n → V.cell? ⟨gr, x, none⟩ = some (.int .i64 ((sortL ks).idxOf x : Nat)))
    (hI : Holds3 base W (.slice ia n ic) ks) :
    Calls Tryz.prog 16 #[.slice (some ⟨gs, 0, none⟩) n n, .slice (some ⟨gr, 0, none⟩) n n, .slice ia n ic] W fun e w' => e = .returned (.bool true) ∧ Below W.heap.size W w' := by
  have HIS := hide (sortL_is hnd)
  have HN := hide hn
  have HS := hide hS
  have HR := hide hR
  have HI : Hid (∀ V, Below W.heap.size W V → Holds3 base V (.slice ia n ic) ks) := fun V hb => holds3_grow hI hb
  have HOk := hide hok
  clear hnd hn hS hR hI hok
  go_enter Tryz.func16, Tryz.ntmps16
  go_wp2
  go_loopw [23] (fun t V => ∃ i : Nat, i ≤ n ∧ t = .int .i64 i ∧ Hid (Below W.heap.size W V)) (fun t _ => n - (intOf t).toNat)
  case atStart => exact ⟨0, by omega, rfl, Below.refl _ _⟩
  case round =>
    obtain ⟨i, hin, rfl, HV⟩ := hrel
    by_cases hlt : i < n
    · have hi : (i : Int) < (n : Int) := by omega
      have hll : (sortL ks).length = n := by rw [HN.out]; exact HIS.out.len
      obtain ⟨x, hx⟩ : ∃ x, (sortL ks)[i]? = some x := ⟨_, List.getElem?_eq_getElem (by omega)⟩
      have hxn : x < n := by rw [HN.out]; exact HIS.out.mem.1 (List.mem_of_getElem? hx)
      have c1 := HS.out _ HV.out i hlt
      rw [List.getD_eq_getElem?_getD, hx] at c1
      simp only [Option.getD_some] at c1
      have c2 := HR.out _ HV.out x hxn
      rw [HIS.out.back hx] at c2
      have q1 : ¬ (x : Int) < 0 := by omega
      have q2 : ¬ (n : Int) ≤ (x : Int) := by omega
      have q3 : (x : Int) < (n : Int) := by omega
      have t1 : decide ((x : Int) < 0) = false := decide_eq_false q1
      have t2 : decide ((n : Int) ≤ (x : Int)) = false := decide_eq_false q2
      have t4 : decide ((x : Int) < (n : Int)) = true := decide_eq_true q3
      have t5 : x < n := hxn
      have t6 : decide (x < n) = true := decide_eq_true hxn
      have t7 : decide (n ≤ x) = false := decide_eq_false (by omega)
      obtain ⟨c, hc⟩ : ∃ c, ks[x]? = some c := ⟨_, List.getElem?_eq_getElem (by have := HN.out; omega)⟩
      rcases Nat.eq_zero_or_pos i with h0 | h0
      · subst h0
        clear hx hc hll
        go_wp2_with fail
        refine wp_region_over (fun V => V = wr) (by kernel_rfl) (by kernel_rfl) rfl ?_
        rintro V rfl
        have c1' := over_cell c1
        have c2' := over_cell c2
        clear c1 c2
        repeat (go_big_quiet_step (fail))
        refine wpQuiet_nil ?_
        rintro _ ⟨z, rfl⟩
        have HV2 := hide (HV.out.trans ((over_below V z).mono HV.out.size))
        clear c1' c2' HV
        go_wp2
        go_roundw
        case rel => exact ⟨1, by omega, by go_num, HV2.out⟩
        case measure => simp [intOf]; omega
      · obtain ⟨i', rfl⟩ : ∃ i', i = i' + 1 := ⟨i - 1, by omega⟩
        obtain ⟨y, hy⟩ : ∃ y, (sortL ks)[i']? = some y := ⟨_, List.getElem?_eq_getElem (by omega)⟩
        have hyn : y < n := by rw [HN.out]; exact HIS.out.mem.1 (List.mem_of_getElem? hy)
        have c3 := HS.out _ HV.out i' (by omega)
        rw [List.getD_eq_getElem?_getD, hy] at c3
        simp only [Option.getD_some] at c3
        have q4 : ¬ (y : Int) < 0 := by omega
        have q5 : (y : Int) < (n : Int) := by omega
        have q6 : (i' : Int) < (n : Int) := by omega
        have t3 : decide ((0 : Int) < (i' : Int) + 1) = true := decide_eq_true (by omega)
        obtain ⟨d, hd⟩ : ∃ d, ks[y]? = some d := ⟨_, List.getElem?_eq_getElem (by have := HN.out; omega)⟩
        have hcmp : cmpC d c = -1 := (HIS.out.ahead hc hd).1 (by rw [HIS.out.back hx, HIS.out.back hy]; omega)
        have HBe : Hid (∀ V, Calls Tryz.prog 15 #[.agg #[.int .i64 d.k, .int .i64 d.n, .string d.s], .agg #[.int .i64 c.k, .int .i64 c.n, .string c.s]] V fun e w' => e = .returned (.int .i64 (-1)) ∧ Below V.heap.size V w') := fun V => by rw [← hcmp]; exact before_any d c V (HOk.out d (List.mem_of_getElem? hd)).2 (HOk.out c (List.mem_of_getElem? hc)).2
        obtain ⟨g, gc, hge, hgc⟩ := con_cell (HI.out _ HV.out) hc
        have hgd := con_at (by rw [← hge]; exact HI.out _ HV.out) hd
        simp only [Value.slice.injEq] at hge
        obtain ⟨rfl, -, -⟩ := hge
        obtain ⟨x0, x1, x2⟩ := hgc
        obtain ⟨y0, y1, y2⟩ := hgd
        clear hx hc hy hd hll hcmp
        go_wp2_with fail
        refine wp_region_over (fun V => V = wr) (by kernel_rfl) (by kernel_rfl) rfl ?_
        rintro V rfl
        have c1' := over_cell c1
        have c2' := over_cell c2
        have c3' := over_cell c3
        have x0' := over_cell x0
        have x1' := over_cell x1
        have x2' := over_cell x2
        have y0' := over_cell y0
        have y1' := over_cell y1
        have y2' := over_cell y2
        have G1 := hide (fun v => calls_over (HBe.out (over V v)))
        clear c1 c2 c3 x0 x1 x2 y0 y1 y2 HBe
        repeat (go_big_quiet_step (first | (go_at_call 15; exact G1.out _)))
        refine wpQuiet_nil ?_
        rintro _ ⟨z, rfl⟩
        have HV2 := hide (HV.out.trans ((over_below V z).mono HV.out.size))
        clear c1' c2' c3' x0' x1' x2' y0' y1' y2' G1 HV
        go_wp2
        go_roundw
        case rel => exact ⟨i' + 1 + 1, by omega, by go_num, HV2.out⟩
        case measure => simp [intOf]; omega
    · obtain rfl : i = n := by omega
      have hi : ¬ (i : Int) < (i : Int) := by omega
      go_wp2
      go_ret
      exact ⟨rfl, HV.out⟩
end Go.Proofs.YtoppnjpajeipdaaGreatDoor

namespace Go.Proofs.YtoppnjpajeipdaaGreatDoor
set_option linter.unusedSimpArgs false
set_option linter.unusedVariables false
open Go.RowKit Go.Maps
attribute [local go_sem] over_cellAt over_frozenAt over_setAt

set_option maxRecDepth 100000 in
set_option maxHeartbeats 2000000 in
theorem tConst_in {base : Nat} {w : World} {p m n : Nat} {ao : Option Addr} {cap : Nat} {ks : List Con} (h : TableAt base w p m n ao cap ks) (hl : ks.length < 2199023255552) {i : Nat} {c : Con} (hi : ks[i]? = some c) :
    Calls Tryz.prog 13 #[.pointer (some ⟨p, 0, none⟩), .int .i64 i] w fun e w' => e = .returned (.tuple #[c.val, .int .i64 0]) ∧ Below w.heap.size w w' := by
  have hA := atCon_in (h.grow ((Below.refl _ _).alloc (Nat.le_refl _) (.cells #[.int .i64 0, .int .i64 0, .string ⟨#[]⟩] 26))) hl hi
  have hplt := h.plt
  unfold Con.val at hA ⊢
  have HA := hide hA
  clear hA h hi
  go_enter Tryz.func13, Tryz.ntmps13
  go_upto_region 6 with (go_at_call 27; refine HA.out.mono ?_; rintro e w1 ⟨rfl, hb1⟩; have HB1 := hide hb1; clear hb1)
  obtain ⟨b, hb⟩ : ∃ b, b = w1.heap.size := ⟨_, rfl⟩
  have c0 : (w1.alloc (.cells #[.int .i64 c.k, .int .i64 c.n, .string c.s] 26)).cell? ⟨b, 0, none⟩ = some (.int .i64 c.k) := by rw [hb]; simp
  have c1 : (w1.alloc (.cells #[.int .i64 c.k, .int .i64 c.n, .string c.s] 26)).cell? ⟨b, 1, none⟩ = some (.int .i64 c.n) := by rw [hb]; simp
  have c2 : (w1.alloc (.cells #[.int .i64 c.k, .int .i64 c.n, .string c.s] 26)).cell? ⟨b, 2, none⟩ = some (.string c.s) := by rw [hb]; simp
  rw [← hb]
  clear hb
  have hB2 := HB1.out.alloc HB1.out.size (.cells #[.int .i64 c.k, .int .i64 c.n, .string c.s] 26)
  obtain ⟨z, hz⟩ := over_of hB2
  rw [hz] at c0 c1 c2 ⊢
  clear hz hB2
  go_wp2
  exact bodyPost_ret (v := .tuple #[.agg #[.int .i64 c.k, .int .i64 c.n, .string c.s], .int .i64 0]) (by simp [results, Tryz.results13, go_sem]) rfl ⟨rfl, over_bel ((Below.refl _ _).alloc (Nat.le_refl _) _) (by simp)⟩
end Go.Proofs.YtoppnjpajeipdaaGreatDoor
