/- The document's Ids in memory: a list of different strings behind a pointer; Find, At, Len, Intern. -/
import Derived.Test.YthhoiejjejdffaaProg
import Derived.Test.YthhoiejjejdffaaIdsStr
import Derived.Test.YthhoiejjejdffaaOpen
import Derived.Deep.AppendLies
import Derived.Laws.AppendOwn
import Derived.RangeFuncBox
import Derived.OneCell
namespace Go.Proofs.Ythhoiejjejdffaa
set_option linter.unusedSimpArgs false
set_option linter.unusedVariables false
open Go.RowKit Go.Maps

structure RIds (base : Nat) (W : World) (p : Nat) (v : Value) (ks : List ByteArray) : Prop where
  fields : W.heap[p]? = some (.cells #[v] 70 (0, 0))
  hp : base ≤ p
  row : W.ownsRow base 9 1 v ks.length (ks.map Value.string)

variable {base : Nat} {w w' : World} {p : Nat} {v : Value} {ks : List ByteArray}

theorem RIds.c0 (h : RIds base w p v ks) : w.cell? ⟨p, 0, none⟩ = some v := by simp [World.cell?, h.fields]
theorem RIds.f0 (h : RIds base w p v ks) : w.frozen? ⟨p, 0, none⟩ = false := by simp [World.frozen?, h.fields]
theorem RIds.plt (h : RIds base w p v ks) : p < w.heap.size := lt_of_cell h.c0
theorem RIds.shape (h : RIds base w p v ks) : ∃ a cap, v = .slice a ks.length cap := by
  rcases h.row.2 with ⟨rfl, h0⟩ | ⟨g, cap, cur, rfl, _⟩
  · exact ⟨none, 0, by rw [h0]⟩
  · exact ⟨_, cap, rfl⟩
theorem RIds.own_lt (h : RIds base w p v ks) {g : Nat} (hg : v.ownBlock = some g) : base ≤ g ∧ g < w.heap.size := h.row.lt g hg
theorem RIds.own_ne (h : RIds base w p v ks) : v.ownBlock ≠ some p := by
  rcases h.row.2 with ⟨rfl, _⟩ | ⟨g, cap, cur, rfl, _, hb, _⟩
  · simp [Value.ownBlock]
  · intro e
    have e : g = p := by simpa [Value.ownBlock] using e
    rw [e, h.fields] at hb
    simp only [Option.some.injEq, Obj.cells.injEq] at hb
    exact absurd hb.2.1 (by decide)

theorem str_cell {xs : List ByteArray} (h : w.ownsRow base 9 1 v xs.length (xs.map Value.string)) {i : Nat} {k : ByteArray} (hi : xs[i]? = some k) : ∃ g cap, v = .slice (some ⟨g, 0, none⟩) xs.length cap ∧ w.cell? ⟨g, i, none⟩ = some (.string k) := by
  have hlt : i < xs.length := (List.getElem?_eq_some_iff.1 hi).1
  rcases h.2 with ⟨_, h0⟩ | ⟨g, cap, cur, rfl, _, hb, h1, h2, h3, h4⟩
  · omega
  · refine ⟨g, cap, rfl, ?_⟩
    have e1 : (cur.toList.take (xs.length * 1))[i]? = (xs.map Value.string)[i]? := by rw [h4]
    rw [List.getElem?_take_of_lt (by omega), List.getElem?_map, hi, Array.getElem?_toList] at e1
    simp only [World.cell?, hb]
    simp only [Option.isSome_none, Bool.false_eq_true, if_false]
    exact e1

theorem own_keptS {xs : List Value} {n : Nat} {e : TypeId} (h : w.ownsRow base e 1 v n xs) (hb : Below w.heap.size w w') : w'.ownsRow base e 1 v n xs := by
  refine ⟨h.1, ?_⟩
  rcases h.2 with h0 | ⟨g, cap, cur, hv, hbase, hblk, rest⟩
  · exact .inl h0
  · exact .inr ⟨g, cap, cur, hv, hbase, by rw [hb.block g (Array.getElem?_eq_some_iff.1 hblk).1]; exact hblk, rest⟩

theorem RIds.grow (h : RIds base w p v ks) (hb : Below w.heap.size w w') : RIds base w' p v ks :=
  ⟨(hb.block p h.plt).trans h.fields, h.hp, own_keptS h.row hb⟩

theorem RIds.only {S : Nat → Prop} (h : RIds base w p v ks) (ho : Only S w w') (h1 : ¬ S p) (h2 : ∀ g, v.ownBlock = some g → ¬ S g) : RIds base w' p v ks := by
  refine ⟨(ho.block p h.plt h1).trans h.fields, h.hp, h.row.1, ?_⟩
  rcases h.row.2 with h0 | ⟨g, cap, cur, hv, hbase, hblk, rest⟩
  · exact .inl h0
  · exact .inr ⟨g, cap, cur, hv, hbase, by rw [ho.block g (Array.getElem?_eq_some_iff.1 hblk).1 (h2 g (by rw [hv]; rfl))]; exact hblk, rest⟩

theorem str_inj {a b : ByteArray} (h : a.toList = b.toList) : a = b := by
  apply data_inj
  rw [ByteArray.toList_eq, ByteArray.toList_eq] at h
  exact h
theorem str_ne {a b : ByteArray} (h : a ≠ b) : (a.toList == b.toList) = false := by
  rw [beq_eq_false_iff_ne]
  exact fun e => h (str_inj e)

set_option maxHeartbeats 1000000 in
theorem rfind_some (h : RIds base w p v ks) (hnd : ks.Nodup) (hl : ks.length < 2199023255552) {k : ByteArray} {i : Nat} (hi : ks[i]? = some k) :
    Calls Try.prog 29 #[.pointer (some ⟨p, 0, none⟩), .string k] w fun e w' => e = .returned (.int .i64 i) ∧ w' = w := by
  have hlt : i < ks.length := (List.getElem?_eq_some_iff.1 hi).1
  obtain ⟨g, cap, rfl, _⟩ := str_cell h.row hi
  have c0 := h.c0
  have HC : Hid (∀ j s, ks[j]? = some s → w.cell? ⟨g, j, none⟩ = some (.string s)) := fun j s hj => by
    obtain ⟨g', cap', hv, hc⟩ := str_cell h.row hj
    simp only [Value.slice.injEq, Option.some.injEq, Addr.mk.injEq] at hv
    rw [hv.1.1]; exact hc
  obtain ⟨len, hlen⟩ : ∃ len, len = ks.length := ⟨_, rfl⟩
  have HL := hide hlen
  rw [← hlen] at c0 hl hlt
  have HI := hide hi
  have HND := hide hnd
  clear hlen h hi hnd
  go_enter Try.func29, Try.ntmps29
  go_wp2
  go_loopw [5] (fun t wr => ∃ j : Nat, j ≤ i ∧ t = .int .i64 j ∧ wr = w) (fun t _ => i - (intOf t).toNat)
  case atStart => exact ⟨0, by omega, rfl, rfl⟩
  case round =>
    obtain ⟨j, hj, rfl, rfl⟩ := hrel
    have hjl : (j : Int) < (len : Int) := by omega
    obtain ⟨s, hs⟩ : ∃ s, ks[j]? = some s := ⟨_, List.getElem?_eq_getElem (by have := HL.out; omega)⟩
    have hc := HC.out j s hs
    by_cases he : j = i
    · subst he
      rw [HI.out] at hs
      cases hs
      go_wp2
      go_ret
      exact ⟨rfl, rfl⟩
    · have hne : (s.toList == k.toList) = false := str_ne (fun e => he (nodupS_at HND.out hs (by rw [e]; exact HI.out)))
      go_wp2
      go_roundw
      case rel => exact ⟨j + 1, by omega, by go_num, by trivial⟩
      case measure => simp [intOf]; omega

set_option maxHeartbeats 1000000 in
theorem rfind_none (h : RIds base w p v ks) (hl : ks.length < 2199023255552) {k : ByteArray} (hi : k ∉ ks) :
    Calls Try.prog 29 #[.pointer (some ⟨p, 0, none⟩), .string k] w fun e w' => e = .returned (.int .i64 (-1)) ∧ w' = w := by
  obtain ⟨a, cap, rfl⟩ := h.shape
  have c0 := h.c0
  have HC : Hid (∀ j s, ks[j]? = some s → ∃ g, a = some ⟨g, 0, none⟩ ∧ w.cell? ⟨g, j, none⟩ = some (.string s)) := fun j s hj => by
    obtain ⟨g', cap', hv, hc⟩ := str_cell h.row hj
    simp only [Value.slice.injEq] at hv
    exact ⟨g', hv.1, hc⟩
  obtain ⟨len, hlen⟩ : ∃ len, len = ks.length := ⟨_, rfl⟩
  have HL := hide hlen
  rw [← hlen] at c0 hl
  have HI := hide hi
  clear hlen h hi
  go_enter Try.func29, Try.ntmps29
  go_wp2
  go_loopw [5] (fun t wr => ∃ j : Nat, j ≤ len ∧ t = .int .i64 j ∧ wr = w) (fun t _ => len - (intOf t).toNat)
  case atStart => exact ⟨0, by omega, rfl, rfl⟩
  case round =>
    obtain ⟨j, hj, rfl, rfl⟩ := hrel
    by_cases hlt : j < len
    · have hjl : (j : Int) < (len : Int) := by omega
      obtain ⟨s, hs⟩ : ∃ s, ks[j]? = some s := ⟨_, List.getElem?_eq_getElem (by have := HL.out; omega)⟩
      obtain ⟨g, rfl, hc⟩ := HC.out j s hs
      have hne : (s.toList == k.toList) = false := str_ne (fun e => HI.out (by rw [← e]; exact List.mem_of_getElem? hs))
      go_wp2
      go_roundw
      case rel => exact ⟨j + 1, by omega, by go_num, by trivial⟩
      case measure => simp [intOf]; omega
    · obtain rfl : j = len := by omega
      have hjl : ¬ (j : Int) < (j : Int) := by omega
      go_wp2
      go_ret
      exact ⟨rfl, rfl⟩

theorem rlen_any (h : RIds base w p v ks) :
    Calls Try.prog 31 #[.pointer (some ⟨p, 0, none⟩)] w fun e w' => e = .returned (.int .i64 ks.length) ∧ w' = w := by
  obtain ⟨a, cap, rfl⟩ := h.shape
  have c0 := h.c0
  clear h
  generalize ks.length = len at *
  go_enter Try.func31, Try.ntmps31
  go_wp2
  go_ret
  exact ⟨rfl, rfl⟩

theorem rat_in (h : RIds base w p v ks) (hl : ks.length < 2199023255552) {i : Nat} {k : ByteArray} (hi : ks[i]? = some k) :
    Calls Try.prog 30 #[.pointer (some ⟨p, 0, none⟩), .int .i64 i] w fun e w' => e = .returned (.tuple #[.string k, .bool true]) ∧ w' = w := by
  have hlt : i < ks.length := (List.getElem?_eq_some_iff.1 hi).1
  obtain ⟨g, cap, rfl, hc⟩ := str_cell h.row hi
  have c0 := h.c0
  clear h hi
  generalize ks.length = len at *
  have h1 : ¬ (i : Int) < 0 := by omega
  have h2 : (i : Int) < (len : Int) := by omega
  go_enter Try.func30, Try.ntmps30
  go_wp2
  go_ret2
  exact ⟨rfl, rfl⟩

theorem rat_out (h : RIds base w p v ks) (hl : ks.length < 2199023255552) {i : Int} (hi : i < 0 ∨ (ks.length : Int) ≤ i) :
    Calls Try.prog 30 #[.pointer (some ⟨p, 0, none⟩), .int .i64 i] w fun e w' => e = .returned (.tuple #[.string ⟨#[]⟩, .bool false]) ∧ w' = w := by
  obtain ⟨a, cap, rfl⟩ := h.shape
  have c0 := h.c0
  clear h
  generalize ks.length = len at *
  rcases hi with hi | hi
  · go_enter Try.func30, Try.ntmps30
    go_wp2
    go_ret2
    exact ⟨rfl, rfl⟩
  · have h1 : ¬ i < 0 := by omega
    have h2 : ¬ i < (len : Int) := by omega
    go_enter Try.func30, Try.ntmps30
    go_wp2
    go_ret2
    exact ⟨rfl, rfl⟩

theorem rintern_old (h : RIds base w p v ks) (hnd : ks.Nodup) (hl : ks.length < 2199023255552) {k : ByteArray} {i : Nat} (hi : ks[i]? = some k) :
    Calls Try.prog 27 #[.pointer (some ⟨p, 0, none⟩), .string k] w fun e w' => e = .returned (.int .i64 i) ∧ w' = w := by
  have HF := hide (rfind_some h hnd hl hi)
  have hp : ¬ (i : Int) < 0 := by omega
  clear h hi
  go_enter Try.func27, Try.ntmps27
  go_wp2_with (go_at_call 29; refine HF.out.mono ?_; rintro e w' ⟨rfl, hw'⟩; have hw' := hw'.symm; subst hw')
  go_ret
  exact ⟨rfl, rfl⟩

theorem str_new {w : World} {k : ByteArray} : ∀ j u, [Value.string k][j]? = some u → (w.alloc (.cells #[.string k] 9)).cell? ((⟨w.heap.size, 0, none⟩ : Addr).add j) = some u :=
  World.news_of_block (cs := #[.string k]) (t := 9) (fr := (0, 0)) (heap_alloc_new w _)

/-- What Intern and Cut of the document's Ids may change. -/
def footR (p : Nat) (v : Value) (k : Nat) : Prop := k = p ∨ v.ownBlock = some k

theorem RIds.push (h : RIds base w p v ks) {tmp : Obj} {W4 : World} {k : ByteArray} {gg cap' : Nat} (hown : W4.ownsRow base 9 1 (.slice (some ⟨gg, 0, none⟩) (ks.length + 1) cap') (ks.length + 1) (ks.map Value.string ++ [.string k]))
    (hg : (w.alloc tmp).grownBy W4 v.ownBlock) (hat : v.ownBlock = some gg ∨ gg = w.heap.size + 1) :
    RIds base (W4.setCell ⟨p, 0, none⟩ (.slice (some ⟨gg, 0, none⟩) (ks.length + 1) cap')) p (.slice (some ⟨gg, 0, none⟩) (ks.length + 1) cap') (ks ++ [k]) ∧ Only (footR p v) w (W4.setCell ⟨p, 0, none⟩ (.slice (some ⟨gg, 0, none⟩) (ks.length + 1) cap')) := by
  have hplt := h.plt
  have hpg : gg ≠ p := by
    rcases hat with h1 | h1
    · exact fun e => h.own_ne (by rw [h1, e])
    · omega
  have hb : Boxed W4 p 70 v := (hg.block p (by rw [World.size_alloc]; omega) (fun e => h.own_ne e.symm)).trans ((Below.heap_alloc _ _ _ hplt).trans h.fields)
  refine ⟨⟨hb.set _, h.hp, ?_⟩, ?_⟩
  · have := ownsRow_setCell_other hown (a := ⟨p, 0, none⟩) (by simp [Value.ownBlock, hpg]) (.slice (some ⟨gg, 0, none⟩) (ks.length + 1) cap')
    rw [List.map_append, List.length_append]
    exact this
  · have ho : Only (footR p v) w W4 := by
      refine ⟨hg.os, hg.tape, hg.output, Nat.le_trans (by rw [World.size_alloc]; omega) hg.size, fun k hk hn => ?_⟩
      rw [hg.block k (by rw [World.size_alloc]; omega) (fun e => hn (.inr e.symm))]
      exact Below.heap_alloc _ _ _ hk
    exact ho.setCell (p := ⟨p, 0, none⟩) (.inl rfl) _

set_option maxRecDepth 100000 in
set_option maxHeartbeats 1000000 in
theorem rintern_new (h : RIds base w p v ks) (hb : base ≤ w.heap.size) (hl : ks.length < 2199023255552) {k : ByteArray} (hi : k ∉ ks) :
    Calls Try.prog 27 #[.pointer (some ⟨p, 0, none⟩), .string k] w fun e w' => e = .returned (.int .i64 ks.length) ∧ Hid (∃ v', RIds base w' p v' (ks ++ [k]) ∧ Only (footR p v) w w' ∧ ∀ g, v'.ownBlock = some g → v.ownBlock = some g ∨ w.heap.size ≤ g) := by
  have HF := hide (rfind_none h hl hi)
  obtain ⟨i0, hi0, hz0, hz1, hz2⟩ := info_parts Try.infoStr
  obtain ⟨a, cap, rfl⟩ := h.shape
  have c0 := h.c0
  have hplt := h.plt
  have hpa := kept_cell ((Below.refl _ w).alloc (Nat.le_refl _) (.cells #[.string k] 9)) c0
  have HR := hide h
  obtain ⟨len, hlen⟩ : ∃ len, len = ks.length := ⟨_, rfl⟩
  have HL := hide hlen
  have hrow := h.row
  rw [← hlen] at c0 hl hpa hrow HR ⊢
  have HRow := hide hrow
  clear hlen h hi hrow
  go_enter Try.func27, Try.ntmps27
  go_wp2_with (first
    | (go_at_call 29; refine HF.out.mono ?_; rintro e w' ⟨rfl, hw'⟩; have hw' := hw'.symm; subst hw')
    | (at_builtin; refine wpList_append_lies _ rfl _ _ 22 rfl base 9 i0 (.string ⟨#[]⟩) 1 16 Try.underlying22 hi0 hz0 hz1 hz2 rfl (by decide) (.slice a len cap) len (ks.map Value.string) rfl (HRow.out.alloc _) ⟨w.heap.size, 0, none⟩ 1 1 [.string k] rfl rfl str_new (by simp [Value.oneCell']) (by decide) (by unfold maxLen; omega) (by omega) (by rw [World.size_alloc]; omega) (w.heap.size + 1) (by rw [World.size_alloc]) ?_; intro gg cap' W4 hown1 hgrow hat hlt1; obtain ⟨hR4, hO4⟩ := HR.out.push (by rw [← HL.out]; exact hown1) hgrow hat; rw [← HL.out] at hR4 hO4; have HP4 : Hid (W4.heap[p]? = some (.cells #[.slice a len cap] 70 (0, 0))) := (by show _ = _; exact (hgrow.block p (by rw [World.size_alloc]; omega) (fun e => HR.out.own_ne e.symm)).trans ((Below.heap_alloc _ _ _ hplt).trans HR.out.fields)); have c4 : W4.cell? ⟨p, 0, none⟩ = some (.slice a len cap) := (by simp [World.cell?, HP4.out]); have f4 : W4.frozen? ⟨p, 0, none⟩ = false := (by simp [World.frozen?, HP4.out]); have HR4 := hide hR4; have HO4 := hide hO4; have HA := hide hat; clear hR4 hO4 hown1 hgrow hat))
  go_ret
  refine ⟨rfl, _, HR4.out, HO4.out, fun g hg => ?_⟩
  have hg : gg = g := by simpa [Value.ownBlock] using hg
  subst hg
  rcases HA.out with h1 | h1
  · exact .inl h1
  · exact .inr (by omega)
end Go.Proofs.Ythhoiejjejdffaa
