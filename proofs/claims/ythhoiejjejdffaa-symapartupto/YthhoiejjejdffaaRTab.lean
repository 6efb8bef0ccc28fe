/- The document's Table in memory: a list of different constants behind a pointer; Same, Find, At, Const, Len. -/
import Derived.Test.YthhoiejjejdffaaProg
import Derived.Test.YthhoiejjejdffaaFilled
import Derived.Test.YthhoiejjejdffaaOverAt
import Derived.Test.YthhoiejjejdffaaRefValid
import Derived.Deep.AppendLies
import Derived.Laws.AppendOwn
import Derived.RangeFuncBox
import Derived.OneCell
namespace Go.Proofs.Ythhoiejjejdffaa
set_option linter.unusedSimpArgs false
set_option linter.unusedVariables false
open Go.RowKit Go.Maps

theorem same_any (a b : Con) (w : World) : Calls Try.prog 53 #[a.val, b.val] w fun e w' => e = .returned (.bool (conEq a b)) ∧ Below w.heap.size w w' := by
  obtain ⟨k, n, s⟩ := a
  obtain ⟨k', n', s'⟩ := b
  unfold Con.val conEq
  cases h1 : (k == k') with
  | false =>
    go_enter Try.func53, Try.ntmps53
    go_wp2
    go_ret
    exact ⟨by simp, ((Below.refl _ _).alloc (Nat.le_refl _) _).alloc (by simp) _⟩
  | true =>
    cases h2 : (n == n') with
    | false =>
      go_enter Try.func53, Try.ntmps53
      go_wp2
      go_ret
      exact ⟨by simp, ((Below.refl _ _).alloc (Nat.le_refl _) _).alloc (by simp) _⟩
    | true =>
      go_enter Try.func53, Try.ntmps53
      go_wp2
      go_ret
      exact ⟨by simp, ((Below.refl _ _).alloc (Nat.le_refl _) _).alloc (by simp) _⟩

structure RTab (base : Nat) (W : World) (p : Nat) (v : Value) (ks : List Con) : Prop where
  fields : W.heap[p]? = some (.cells #[v] 103 (0, 0))
  hp : base ≤ p
  row : Holds3 base W v ks

variable {base : Nat} {w w' : World} {p : Nat} {v : Value} {ks : List Con}

theorem RTab.c0 (h : RTab base w p v ks) : w.cell? ⟨p, 0, none⟩ = some v := by simp [World.cell?, h.fields]
theorem RTab.plt (h : RTab base w p v ks) : p < w.heap.size := lt_of_cell h.c0
theorem RTab.shape (h : RTab base w p v ks) : ∃ a cap, v = .slice a ks.length cap := by
  rcases h.row.2 with ⟨rfl, h0⟩ | ⟨g, cap, cur, rfl, _⟩
  · exact ⟨none, 0, by rw [h0]⟩
  · exact ⟨_, cap, rfl⟩
theorem RTab.own_lt (h : RTab base w p v ks) {g : Nat} (hg : v.ownBlock = some g) : base ≤ g ∧ g < w.heap.size := h.row.lt g hg
theorem RTab.own_ne (h : RTab base w p v ks) : v.ownBlock ≠ some p := by
  rcases h.row.2 with ⟨rfl, _⟩ | ⟨g, cap, cur, rfl, _, hb, _⟩
  · simp [Value.ownBlock]
  · intro e
    have e : g = p := by simpa [Value.ownBlock] using e
    rw [e, h.fields] at hb
    simp only [Option.some.injEq, Obj.cells.injEq] at hb
    exact absurd hb.2.1 (by decide)
theorem RTab.grow (h : RTab base w p v ks) (hb : Below w.heap.size w w') : RTab base w' p v ks :=
  ⟨(hb.block p h.plt).trans h.fields, h.hp, holds3_grow h.row hb⟩
theorem RTab.only {S : Nat → Prop} (h : RTab base w p v ks) (ho : Only S w w') (h1 : ¬ S p) (h2 : ∀ g, v.ownBlock = some g → ¬ S g) : RTab base w' p v ks := by
  refine ⟨(ho.block p h.plt h1).trans h.fields, h.hp, h.row.1, ?_⟩
  rcases h.row.2 with h0 | ⟨g, cap, cur, hv, hbase, hblk, rest⟩
  · exact .inl h0
  · exact .inr ⟨g, cap, cur, hv, hbase, by rw [ho.block g (Array.getElem?_eq_some_iff.1 hblk).1 (h2 g (by rw [hv]; rfl))]; exact hblk, rest⟩

theorem RTab.at (h : RTab base w p v ks) {a : Option Addr} {n cap : Nat} (hv : v = .slice a n cap) {j : Nat} {c : Con} (hj : ks[j]? = some c) : ∃ g, a = some ⟨g, 0, none⟩ ∧ conAt w g (j * 3) c := by
  obtain ⟨g, cap', hv', hc⟩ := con_cell h.row hj
  rw [hv] at hv'
  simp only [Value.slice.injEq] at hv'
  exact ⟨g, hv'.1, hc⟩

set_option maxRecDepth 100000 in
set_option maxHeartbeats 2000000 in
/-- Find: the place of c among the constants, or -1. -/
theorem tfind_any (h : RTab base w p v ks) (hl : ks.length ≤ 65536) (c : Con) (i : Int) (hi : (i = -1 ∧ c ∉ ks) ∨ ∃ n : Nat, i = n ∧ ks[n]? = some c ∧ ∀ j, j < n → ks[j]? ≠ some c) :
    Calls Try.prog 51 #[.pointer (some ⟨p, 0, none⟩), c.val] w fun e w' => e = .returned (.int .i64 i) ∧ Below w.heap.size w w' := by
  obtain ⟨a, cap, rfl⟩ := h.shape
  have c0 := h.c0
  have hplt := h.plt
  have HC : Hid (∀ j s, ks[j]? = some s → ∃ g, a = some ⟨g, 0, none⟩ ∧ conAt w g (j * 3) s) := fun j s hj => h.at rfl hj
  obtain ⟨len, hlen⟩ : ∃ len, len = ks.length := ⟨_, rfl⟩
  have HL := hide hlen
  rw [← hlen] at c0 hl
  have HI := hide hi
  have HBX := hide (conAt_new w c 34)
  clear hlen h hi
  unfold boxOf at HBX
  unfold Con.val
  go_enter Try.func51, Try.ntmps51
  go_wp2
  have HB0 : Hid (Below w.heap.size w (w.alloc (.cells #[.int .i64 c.k, .int .i64 c.n, .string c.s] 34))) := (Below.refl _ _).alloc (Nat.le_refl _) _
  obtain ⟨W1, hW1⟩ : ∃ W1, W1 = w.alloc (.cells #[.int .i64 c.k, .int .i64 c.n, .string c.s] 34) := ⟨_, rfl⟩
  rw [← hW1] at HB0 HBX ⊢
  clear hW1
  obtain ⟨B, hB⟩ : ∃ B, B = w.heap.size := ⟨_, rfl⟩
  rw [← hB] at HBX ⊢
  clear hB
  go_loopw [5] (fun t wr => ∃ j : Nat, j ≤ len ∧ t = .int .i64 j ∧ Hid (∀ q, q < j → ks[q]? ≠ some c) ∧ Hid (Below W1.heap.size W1 wr)) (fun t _ => len - (intOf t).toNat)
  case atStart => exact ⟨0, by omega, rfl, fun q hq => absurd hq (by omega), Below.refl _ _⟩
  case round =>
    obtain ⟨j, hj, rfl, HNo, HB⟩ := hrel
    have HBW : Hid (Below w.heap.size w wr) := HB0.out.trans (HB.out.mono HB0.out.size)
    have c0' := kept_cell HBW.out c0
    by_cases hlt : j < len
    · have hjl : (j : Int) < (len : Int) := by omega
      obtain ⟨s, hs⟩ : ∃ s, ks[j]? = some s := ⟨_, List.getElem?_eq_getElem (by have := HL.out; omega)⟩
      obtain ⟨g, rfl, hc⟩ := HC.out j s hs
      obtain ⟨x0, x1, x2⟩ := conAt_kept hc HBW.out
      obtain ⟨y0, y1, y2⟩ := conAt_kept HBX.out HB.out
      have HSj := hide hs
      clear hc hs
      have hS := fun z => calls_over (same_any s c (over wr z))
      unfold Con.val at hS
      go_wp2
      cases hq : conEq s c with
      | true =>
        rw [hq] at hS
        have G := hide hS
        obtain rfl := (conEq_iff s c).1 hq
        have HEq : Hid (i = (j : Int)) := by
          show _ = _
          rcases HI.out with ⟨_, h2⟩ | ⟨n, h1, h2, h3⟩
          · exact absurd (List.mem_of_getElem? HSj.out) h2
          · rw [h1]
            rcases Nat.lt_trichotomy n j with h4 | h4 | h4
            · exact absurd h2 (HNo.out n h4)
            · rw [h4]
            · exact absurd HSj.out (h3 j h4)
        clear hS hq
        refine wp_region_over (fun V => wr = V) (by kernel_rfl) (by kernel_rfl) rfl ?_
        rintro _ rfl
        have c0o := over_cell c0'
        have x0' := over_cell x0
        have x1' := over_cell x1
        have x2' := over_cell x2
        have y0' := over_cell y0
        have y1' := over_cell y1
        have y2' := over_cell y2
        clear x0 x1 x2 y0 y1 y2 c0'
        repeat (go_big_quiet_step ((go_at_call 53; exact G.out _)))
        refine wpQuiet_nil ?_
        rintro _ ⟨z, rfl⟩
        go_wp2
        go_ret
        exact ⟨by rw [HEq.out]; rfl, HBW.out.trans ((over_below _ z).mono HBW.out.size)⟩
      | false =>
        rw [hq] at hS
        have G := hide hS
        have HNo2 : Hid (∀ q, q < j + 1 → ks[q]? ≠ some c) := fun q hq2 => by
          rcases Nat.lt_or_ge q j with h | h
          · exact HNo.out q h
          · obtain rfl : q = j := by omega
            rw [HSj.out]
            intro e
            cases e
            rw [conEq_refl] at hq
            cases hq
        clear hS
        refine wp_region_over (fun V => wr = V) (by kernel_rfl) (by kernel_rfl) rfl ?_
        rintro _ rfl
        have c0o := over_cell c0'
        have x0' := over_cell x0
        have x1' := over_cell x1
        have x2' := over_cell x2
        have y0' := over_cell y0
        have y1' := over_cell y1
        have y2' := over_cell y2
        clear x0 x1 x2 y0 y1 y2 c0'
        repeat (go_big_quiet_step ((go_at_call 53; exact G.out _)))
        refine wpQuiet_nil ?_
        rintro _ ⟨z, rfl⟩
        have HB2 : Hid (Below W1.heap.size W1 (over wr z)) := HB.out.trans ((over_below _ z).mono HB.out.size)
        clear x0' x1' x2' y0' y1' y2' c0o
        go_wp2
        go_roundw
        case rel => exact ⟨j + 1, by omega, by go_num, HNo2, HB2⟩
        case measure => simp [intOf]; omega
    · obtain rfl : j = len := by omega
      have hjl : ¬ (j : Int) < (j : Int) := by omega
      have HEq : Hid (i = -1) := by
        show _ = _
        rcases HI.out with ⟨h1, _⟩ | ⟨n, h1, h2, h3⟩
        · exact h1
        · exact absurd h2 (HNo.out n (by rw [HL.out]; exact (List.getElem?_eq_some_iff.1 h2).1))
      go_wp2
      go_ret
      exact ⟨by rw [HEq.out]; rfl, HBW.out⟩
end Go.Proofs.Ythhoiejjejdffaa
