/- The document's Table: Intern. -/
import Derived.Test.YthhoiejjejdffaaRTab2
import Derived.Deep.RegionLaw
namespace Go.Proofs.Ythhoiejjejdffaa
set_option linter.unusedSimpArgs false
set_option linter.unusedVariables false
open Go.RowKit Go.Maps

variable {base : Nat} {w w' : World} {p : Nat} {v : Value} {ks : List Con}

set_option maxRecDepth 100000 in
theorem tintern_bad (c : Con) (hc : c.ok) (hv : validC c = false) :
    Calls Try.prog 50 #[.pointer (some ⟨p, 0, none⟩), c.val] w fun e w' => e = .returned (.tuple #[.int .i64 0, .int .i64 5]) ∧ Below w.heap.size w w' := by
  have hV := fun W => rvalid c W hc
  rw [hv] at hV
  unfold Con.val at hV ⊢
  have HV := hide hV
  clear hV
  go_enter Try.func50, Try.ntmps50
  go_wp2_with (go_at_call 72; refine (HV.out _).mono ?_; rintro e w1 ⟨rfl, hb1⟩; have HB1 := hide hb1; clear hb1)
  go_ret2
  exact ⟨rfl, ((Below.refl _ _).alloc (Nat.le_refl _) _).trans (HB1.out.mono (by simp))⟩

set_option maxRecDepth 100000 in
set_option maxHeartbeats 2000000 in
theorem tintern_old (h : RTab base w p v ks) (hl : ks.length ≤ 65536) (hnd : ks.Nodup) (c : Con) (hc : c.ok) (hv : validC c = true) {i : Nat} (hi : ks[i]? = some c) :
    Calls Try.prog 50 #[.pointer (some ⟨p, 0, none⟩), c.val] w fun e w' => e = .returned (.tuple #[.int .i64 i, .int .i64 0]) ∧ Below w.heap.size w w' := by
  have hV := fun W => rvalid c W hc
  rw [hv] at hV
  have hF := fun W (hb : Below w.heap.size w W) => tfind_any (h.grow hb) hl c (i : Int) (.inr ⟨i, rfl, hi, fun j hj e => by have := nodupC_at hnd e hi; omega⟩)
  unfold Con.val at hV hF ⊢
  have HV := hide hV
  have HF := hide hF
  have HBX := hide (conAt_new w c 34)
  have HB0 : Hid (Below w.heap.size w (w.alloc (.cells #[.int .i64 c.k, .int .i64 c.n, .string c.s] 34))) := (Below.refl _ _).alloc (Nat.le_refl _) _
  have hp0 : ¬ (i : Int) < 0 := by omega
  unfold boxOf at HBX
  clear hV hF h hi
  go_enter Try.func50, Try.ntmps50
  go_wp2_with (first
    | (go_at_call 72; refine (HV.out _).mono ?_; rintro e w1 ⟨rfl, hb1⟩; have HB1 := hide (HB0.out.trans (hb1.mono HB0.out.size)); obtain ⟨x0, x1, x2⟩ := conAt_kept HBX.out hb1; clear hb1 HV)
    | (go_at_call 51; refine (HF.out _ HB1.out).mono ?_; rintro e w2 ⟨rfl, hb2⟩; have HB2 := hide (HB1.out.trans (hb2.mono HB1.out.size)); clear hb2 HF))
  go_ret2
  exact ⟨rfl, HB2.out⟩

set_option maxRecDepth 100000 in
set_option maxHeartbeats 2000000 in
theorem tintern_full (h : RTab base w p v ks) (hl : ks.length = 65536) (c : Con) (hc : c.ok) (hv : validC c = true) (hi : c ∉ ks) :
    Calls Try.prog 50 #[.pointer (some ⟨p, 0, none⟩), c.val] w fun e w' => e = .returned (.tuple #[.int .i64 0, .int .i64 6]) ∧ Below w.heap.size w w' := by
  have hV := fun W => rvalid c W hc
  rw [hv] at hV
  have hF := fun W (hb : Below w.heap.size w W) => tfind_any (h.grow hb) (by omega) c (-1) (.inl ⟨rfl, hi⟩)
  unfold Con.val at hV hF ⊢
  have HV := hide hV
  have HF := hide hF
  have HBX := hide (conAt_new w c 34)
  have HB0 : Hid (Below w.heap.size w (w.alloc (.cells #[.int .i64 c.k, .int .i64 c.n, .string c.s] 34))) := (Below.refl _ _).alloc (Nat.le_refl _) _
  unfold boxOf at HBX
  obtain ⟨a, cap, rfl⟩ := h.shape
  have c0 := h.c0
  rw [hl] at c0
  have HC0 := hide c0
  clear hV hF h hi hl c0
  go_enter Try.func50, Try.ntmps50
  go_wp2_with (first
    | (go_at_call 72; refine (HV.out _).mono ?_; rintro e w1 ⟨rfl, hb1⟩; have HB1 := hide (HB0.out.trans (hb1.mono HB0.out.size)); obtain ⟨x0, x1, x2⟩ := conAt_kept HBX.out hb1; clear hb1 HV)
    | (go_at_call 51; refine (HF.out _ HB1.out).mono ?_; rintro e w2 ⟨rfl, hb2⟩; have HB2 := hide (HB1.out.trans (hb2.mono HB1.out.size)); have c2 := kept_cell HB2.out HC0.out; clear hb2 HF))
  go_ret2
  exact ⟨rfl, HB2.out⟩

set_option maxRecDepth 100000 in
set_option maxHeartbeats 4000000 in
theorem tintern_new (h : RTab base w p v ks) (hbs : base ≤ w.heap.size) (hl : ks.length < 65536) (c : Con) (hc : c.ok) (hv : validC c = true) (hi : c ∉ ks) :
    Calls Try.prog 50 #[.pointer (some ⟨p, 0, none⟩), c.val] w fun e w' => e = .returned (.tuple #[.int .i64 ks.length, .int .i64 0]) ∧ Hid (∃ v', RTab base w' p v' (ks ++ [c]) ∧ Only (footT p v) w w' ∧ ∀ g, v'.ownBlock = some g → v.ownBlock = some g ∨ w.heap.size ≤ g) := by
  have hV := fun W => rvalid c W hc
  rw [hv] at hV
  have hF := fun W (hb : Below w.heap.size w W) => tfind_any (h.grow hb) (by omega) c (-1) (.inl ⟨rfl, hi⟩)
  obtain ⟨i0, hi0, hz0, hz1, hz2⟩ := info_parts Try.infoC3
  unfold Con.val at hV hF ⊢
  have HV := hide hV
  have HF := hide hF
  have HBX := hide (conAt_new w c 34)
  have HB0 : Hid (Below w.heap.size w (w.alloc (.cells #[.int .i64 c.k, .int .i64 c.n, .string c.s] 34))) := (Below.refl _ _).alloc (Nat.le_refl _) _
  unfold boxOf at HBX
  obtain ⟨a, cap, rfl⟩ := h.shape
  have HR := hide h
  have hplt := h.plt
  obtain ⟨len, hlen⟩ : ∃ len, len = ks.length := ⟨_, rfl⟩
  have HL := hide hlen
  rw [← hlen] at hl HR ⊢
  have hl2 : decide ((65536 : Int) ≤ (len : Int)) = false := decide_eq_false (by omega)
  have HLL := hide hl
  clear hV hF h hi hlen hl
  go_enter Try.func50, Try.ntmps50
  go_upto_region 8 with (first
    | (go_at_call 72; refine (HV.out _).mono ?_; rintro e w1 ⟨rfl, hb1⟩; have HB1 := hide (HB0.out.trans (hb1.mono HB0.out.size)); have HX1 := hide (conAt_kept HBX.out hb1); obtain ⟨x0, x1, x2⟩ := conAt_kept HBX.out hb1; clear hb1 HV)
    | (go_at_call 51; refine (HF.out _ HB1.out).mono ?_; rintro e W ⟨rfl, hb2⟩; have HB2 := hide (HB1.out.trans (hb2.mono HB1.out.size)); have c2 := kept_cell HB2.out HR.out.c0; have HX2 := hide (conAt_kept HX1.out hb2); clear hb2 HF))
  obtain ⟨y0, y1, y2⟩ := HX2.out
  have hlW : len < 65536 := HLL.out
  have hrow := (HR.out.grow HB2.out).row
  have hrow2 : W.ownsRow base 34 3 (.slice a len cap) len (ks.flatMap cells3) := by
    have := hrow
    unfold Holds3 at this
    rw [← HL.out] at this
    exact this
  have hbW : w.heap.size ≤ W.heap.size := HB2.out.size
  clear hrow x0 x1 x2
  have hpW : p < W.heap.size := by omega
  have hBne : w.heap.size ≠ p := by omega
  go_region_law ((refine step_append_lies _ (by rfl) _ _ _ (by rfl) base 34 i0 _ 3 32 Try.underlying32 hi0 hz0 hz1 hz2 rfl (by decide) (.slice a len cap) len (ks.flatMap cells3) (by rfl) ((hrow2.alloc _).drew) ⟨W.heap.size, 0, none⟩ 1 1 [.int .i64 c.k, .int .i64 c.n, .string c.s] (by rfl) (by rfl) (World.news_of_block (cs := #[.int .i64 c.k, .int .i64 c.n, .string c.s]) (t := 34) (fr := (0, 0)) (heap_alloc_new W _)) (by simp [Value.oneCell']) (by decide) (by unfold maxLen; omega) (by omega) (by simp; omega) (W.heap.size + 1) (by simp) ?_; intro g cap' w4 hown1 hgrow hat hlt; have HPu := hide (HR.out.push (W0 := W.drew) (c := c) (HB2.out.trans (Below.refl _ _).drew) (by rw [← HL.out]; exact hown1) hgrow (hat.imp id (fun e => by omega))); rw [← HL.out] at HPu; have hbx4 : Boxed w4 p 103 (.slice a len cap) := (hgrow.block p (by show p < (W.alloc _).heap.size; rw [World.size_alloc]; omega) (fun e => HR.out.own_ne e.symm)).trans ((Below.heap_alloc _ _ _ hpW).trans (HR.out.grow HB2.out).fields); have c4 := hbx4.cell; have f4 := hbx4.frozen; have HAt := hide hat; clear hown1 hgrow hat))
  all_goals
    go_wp2
    go_ret2
    refine ⟨rfl, _, HPu.out.1, HPu.out.2, fun q hq => ?_⟩
    have hq : g = q := by simpa [Value.ownBlock] using hq
    subst hq
    rcases HAt.out with h1 | h1
    · exact .inl h1
    · exact .inr (by omega)
end Go.Proofs.Ythhoiejjejdffaa
