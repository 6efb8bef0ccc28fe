/- What the methods of a Table do: New and Intern, at every table that the calls themselves made and every constant. -/
import Derived.Test.YtoppnjpajeipdaaGreatDoorNewCon
import Derived.Test.YtoppnjpajeipdaaGreatDoorValid
namespace Go.Proofs.YtoppnjpajeipdaaGreatDoor
set_option linter.unusedSimpArgs false
set_option linter.unusedVariables false
open Go.RowKit Go.Maps

abbrev TableAt (base : Nat) (w : World) (p m n : Nat) (ao : Option Addr) (cap : Nat) (ks : List Con) : Prop := ConIdsT 37 base w p m n ao cap ks

theorem table_moved {base : Nat} {w : World} {p m n : Nat} (h : ConIds base w p m n none 0 []) (hb : base ≤ w.heap.size) : TableAt base (w.alloc (.cells #[.slice none 0 0, .map (some m)] 37)) w.heap.size m n none 0 [] where
  fields := heap_alloc_new w _
  hp := hb
  hm := h.hm
  row := World.ownsRow_nil _ _ _ _
  map := h.map.same (Below.heap_alloc _ _ _ h.map.lt)

theorem newTable_any (w : World) {base : Nat} (hb : base ≤ w.heap.size) :
    Calls Tryz.prog 4 #[] w fun e w' => ∃ p m, e = .returned (.pointer (some ⟨p, 0, none⟩)) ∧ TableAt base w' p m 0 none 0 [] ∧ Below w.heap.size w w' ∧ w.heap.size ≤ p ∧ w.heap.size ≤ m := by
  have HN := hide (newCon_none w hb)
  go_enter Tryz.func4, Tryz.ntmps4
  go_wp2_with fail
  refine HN.out.mono ?_
  rintro e w1 ⟨rfl, h1, hb1⟩
  have c0 := h1.c0
  have c1 := h1.c1
  have H1 := hide h1
  simp only [List.length_nil] at c0
  clear h1
  go_wp2
  go_ret
  exact ⟨_, _, rfl, table_moved H1.out (Nat.le_trans hb hb1.size), hb1.trans (((Below.refl _ _).alloc (Nat.le_refl _) _).mono hb1.size), hb1.size, Nat.le_refl _⟩

variable {base : Nat} {w : World} {p m n : Nat} {ao : Option Addr} {cap : Nat} {ks : List Con}

set_option maxHeartbeats 400000 in
theorem tableIntern_bad (h : TableAt base w p m n ao cap ks) {c : Con} (hc : c.ok) (hv : validC c = false) :
    Calls Tryz.prog 7 #[.pointer (some ⟨p, 0, none⟩), c.val] w fun e w' => e = .returned (.tuple #[.int .i64 0, .int .i64 5]) ∧ Below w.heap.size w w' := by
  have HV := hide (fun w => valid_any c w hc)
  have HB := conAt_new w c 26
  unfold boxOf at HB
  obtain ⟨b0, b1, b2⟩ := HB
  unfold Con.val
  clear h
  go_enter Tryz.func7, Tryz.ntmps7
  go_wp2_with fail
  refine (HV.out _).mono ?_
  rintro e w1 ⟨rfl, hb1⟩
  go_wp2
  go_ret2
  exact ⟨rfl, (((Below.refl _ _).alloc (Nat.le_refl _) _)).trans (hb1.mono (by simp))⟩

set_option maxRecDepth 100000 in
set_option maxHeartbeats 1000000 in
theorem tableIntern_old (h : TableAt base w p m n ao cap ks) {c : Con} (hc : c.ok) (hv : validC c = true) {i : Nat} (hi : ks[i]? = some c) :
    Calls Tryz.prog 7 #[.pointer (some ⟨p, 0, none⟩), c.val] w fun e w' => e = .returned (.tuple #[.int .i64 i, .int .i64 0]) ∧ Below w.heap.size w w' := by
  have HV := hide (fun w => valid_any c w hc)
  have HB := conAt_new w c 26
  have hB0 : Below w.heap.size w (w.alloc (boxOf c 26)) := (Below.refl _ _).alloc (Nat.le_refl _) _
  have H0 := hide (h.grow hB0)
  unfold Con.val
  clear h
  have HI := hide hi
  clear hi
  go_enter Tryz.func7, Tryz.ntmps7
  go_wp2_with fail
  refine (HV.out _).mono ?_
  rintro e w1 ⟨rfl, hb1⟩
  have S1 := hide (show TableAt base w1 p m n ao cap ks ∧ conAt w1 w.heap.size 0 c ∧ Below w.heap.size w w1 from ⟨H0.out.grow hb1, conAt_kept HB hb1, hB0.trans (hb1.mono hB0.size)⟩)
  clear hb1 HB hB0
  go_wp2_with fail
  refine wp_region_over (fun W => TableAt base W p m n ao cap ks ∧ conAt W w.heap.size 0 c ∧ Below w.heap.size w W) (by kernel_rfl) (by kernel_rfl) S1.out ?_
  clear S1
  rintro W ⟨FW, X, hW⟩
  obtain ⟨x0, x1, x2⟩ := X
  have x0' := over_cell x0
  have x1' := over_cell x1
  have x2' := over_cell x2
  have g1 := fun v => calls_over (findCon_some (FW.grow (over_below W v)) hc HI.out)
  have G1 := hide g1
  clear g1
  repeat (go_big_quiet_step ((go_at_call 9; exact G1.out _)))
  refine wpQuiet_nil ?_
  rintro _ ⟨v, rfl⟩
  go_wp2
  go_ret2
  exact ⟨rfl, hW.trans ((over_below W v).mono hW.size)⟩

set_option maxRecDepth 100000 in
set_option maxHeartbeats 1000000 in
theorem tableIntern_full (h : TableAt base w p m n ao cap ks) {c : Con} (hc : c.ok) (hks : ∀ k ∈ ks, k.ok) (hv : validC c = true) (hi : c ∉ ks) (hl : ks.length = 65536) :
    Calls Tryz.prog 7 #[.pointer (some ⟨p, 0, none⟩), c.val] w fun e w' => e = .returned (.tuple #[.int .i64 0, .int .i64 6]) ∧ Below w.heap.size w w' := by
  have HV := hide (fun w => valid_any c w hc)
  have HB := conAt_new w c 26
  have hB0 : Below w.heap.size w (w.alloc (boxOf c 26)) := (Below.refl _ _).alloc (Nat.le_refl _) _
  have H0 := hide (h.grow hB0)
  unfold Con.val
  clear h
  have HL := hide hl
  clear hl
  go_enter Tryz.func7, Tryz.ntmps7
  go_wp2_with fail
  refine (HV.out _).mono ?_
  rintro e w1 ⟨rfl, hb1⟩
  have S1 := hide (show TableAt base w1 p m n ao cap ks ∧ conAt w1 w.heap.size 0 c ∧ Below w.heap.size w w1 from ⟨H0.out.grow hb1, conAt_kept HB hb1, hB0.trans (hb1.mono hB0.size)⟩)
  clear hb1 HB hB0
  go_wp2_with fail
  refine wp_region_over (fun W => TableAt base W p m n ao cap ks ∧ conAt W w.heap.size 0 c ∧ Below w.heap.size w W) (by kernel_rfl) (by kernel_rfl) S1.out ?_
  clear S1
  rintro W ⟨FW, X, hW⟩
  obtain ⟨x0, x1, x2⟩ := X
  have x0' := over_cell x0
  have x1' := over_cell x1
  have x2' := over_cell x2
  have g1 := fun v => calls_over (findCon_none (FW.grow (over_below W v)) hc hks hi)
  have G1 := hide g1
  clear g1
  repeat (go_big_quiet_step ((go_at_call 9; exact G1.out _)))
  refine wpQuiet_nil ?_
  rintro _ ⟨v, rfl⟩
  have g2 := lenCon_any (FW.grow (over_below W v))
  rw [HL.out] at g2
  have G2 := hide g2
  clear g2
  go_wp2_with (go_at_call 12; refine G2.out.mono ?_; rintro e w' ⟨rfl, hw'⟩; have hw' := hw'.symm; subst hw')
  go_ret2
  exact ⟨rfl, hW.trans ((over_below W v).mono hW.size)⟩

set_option maxRecDepth 100000 in
set_option maxHeartbeats 1000000 in
theorem tableIntern_new (h : TableAt base w p m n ao cap ks) (hb : base ≤ w.heap.size) {c : Con} (hc : c.ok) (hks : ∀ k ∈ ks, k.ok) (hv : validC c = true) (hi : c ∉ ks) (hn : n < 2199023255552) (hl : ks.length < 65536) :
    Calls Tryz.prog 7 #[.pointer (some ⟨p, 0, none⟩), c.val] w fun e w' => e = .returned (.tuple #[.int .i64 ks.length, .int .i64 0]) ∧ ∃ ao' cap', TableAt base w' p m (n + 1) ao' cap' (ks ++ [c]) ∧ Only (foot p m ao) w w' ∧ (∀ a, ao' = some a → ao = some a ∨ w.heap.size ≤ a.block) := by
  have HV := hide (fun w => valid_any c w hc)
  have HB := conAt_new w c 26
  have hB0 : Below w.heap.size w (w.alloc (boxOf c 26)) := (Below.refl _ _).alloc (Nat.le_refl _) _
  have H0 := hide (h.grow hB0)
  have hbx : ¬ foot p m ao w.heap.size := fun hf => by have := (h.foot_lt (by decide) hf).1; omega
  unfold Con.val
  clear h
  obtain ⟨len, hlen⟩ : ∃ len, len = ks.length := ⟨_, rfl⟩
  rw [← hlen] at hl ⊢
  have HL := hide hlen
  clear hlen
  have hl2 : decide ((65536 : Int) ≤ (len : Int)) = false := decide_eq_false (by omega)
  have HLL := hide hl
  clear hl
  go_enter Tryz.func7, Tryz.ntmps7
  go_wp2_with fail
  refine (HV.out _).mono ?_
  rintro e w1 ⟨rfl, hb1⟩
  have S1 := hide (show TableAt base w1 p m n ao cap ks ∧ conAt w1 w.heap.size 0 c ∧ Below w.heap.size w w1 from ⟨H0.out.grow hb1, conAt_kept HB hb1, hB0.trans (hb1.mono hB0.size)⟩)
  clear hb1 HB hB0
  go_wp2_with fail
  refine wp_region_over (fun W => TableAt base W p m n ao cap ks ∧ conAt W w.heap.size 0 c ∧ Below w.heap.size w W) (by kernel_rfl) (by kernel_rfl) S1.out ?_
  clear S1
  rintro W ⟨FW, X, hW⟩
  obtain ⟨x0, x1, x2⟩ := X
  have x0' := over_cell x0
  have x1' := over_cell x1
  have x2' := over_cell x2
  have g1 := fun v => calls_over (findCon_none (FW.grow (over_below W v)) hc hks hi)
  have G1 := hide g1
  clear g1
  repeat (go_big_quiet_step ((go_at_call 9; exact G1.out _)))
  refine wpQuiet_nil ?_
  rintro _ ⟨v, rfl⟩
  have hF2 := FW.grow (over_below W v)
  have hX2 : conAt (over W v) w.heap.size 0 c := conAt_kept ⟨x0, x1, x2⟩ (over_below W v)
  have hB2 : Below w.heap.size w (over W v) := hW.trans ((over_below W v).mono hW.size)
  clear x0 x1 x2 x0' x1' x2' G1 FW
  generalize over W v = W2 at *
  clear hW
  have g2 := lenCon_any hF2
  rw [← HL.out] at g2
  have G2 := hide g2
  have g3 : ∀ W', Below W2.heap.size W2 W' → Calls Tryz.prog 23 #[.pointer (some ⟨p, 0, none⟩), .agg #[.int .i64 c.k, .int .i64 c.n, .string c.s]] W' fun e w' => e = .returned (.int .i64 len) ∧ Hid (∃ ao' cap', TableAt base w' p m (n + 1) ao' cap' (ks ++ [c]) ∧ Only (foot p m ao) w w' ∧ (∀ a, ao' = some a → ao = some a ∨ w.heap.size ≤ a.block)) := fun W' hW' => by
    have := internCon_new (hF2.grow hW') (Nat.le_trans hb (Nat.le_trans hB2.size hW'.size)) hc hks hi hn (by rw [← HL.out]; have := HLL.out; omega)
    rw [← HL.out] at this
    refine this.mono ?_
    rintro e w' ⟨rfl, ao', cap', a1, a2, a3⟩
    exact ⟨rfl, ao', cap', a1, (Only.of_below hB2 _).trans ((Only.of_below hW' _).trans a2), fun a ha => (a3 a ha).imp id (fun e => Nat.le_trans hB2.size (Nat.le_trans hW'.size e))⟩
  have G3 := hide g3
  have F2 := hide hF2
  clear g2 g3 hF2
  obtain ⟨x0, x1, x2⟩ := hX2
  have HB2 := hide hB2
  clear hB2
  go_wp2_with fail
  refine G2.out.mono ?_
  rintro e w' ⟨rfl, hw'⟩
  have hw' := hw'.symm
  subst hw'
  go_wp2_with fail
  go_region_with (go_at_call 23; refine (G3.out _ ?_).mono ?_; exact (Below.refl _ _).drew; rintro e w3 ⟨rfl, hpost⟩)
  go_wp2
  go_ret2
  exact ⟨rfl, hpost.out⟩
end Go.Proofs.YtoppnjpajeipdaaGreatDoor
