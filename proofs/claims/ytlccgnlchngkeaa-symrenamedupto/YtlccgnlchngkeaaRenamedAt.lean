/- edictlaw01.renamed, one call on two Ids that stand for each other: At, inside and outside. -/
import Derived.Test.YtlccgnlchngkeaaRenamed
namespace Go.Proofs.Ytlccgnlchngkeaa
set_option linter.unusedSimpArgs false
set_option linter.unusedVariables false
open Go.RowKit Go.Maps

variable {base : Nat} {w : World} {px mx py my n : Nat} {ax : Option Addr} {cx : Nat} {ay : Option Addr} {cy : Nat} {ks : List Int}

set_option maxRecDepth 100000 in
set_option maxHeartbeats 1000000 in
theorem renamed_at_in (t : Two base w px mx py my n ax cx ay cy ks) (kd k : Int) (i : Nat) (h1 : (kd == 1) = false) (h2 : (kd == 2) = false) (h6 : (kd == 6) = false) {a : Int} (hi : ks[i]? = some a) (hn : n < 2199023255552) :
    Calls Try.prog 18 #[.pointer (some ⟨px, 0, none⟩), .pointer (some ⟨py, 0, none⟩), .agg #[.int .i64 kd, .int .i64 k, .int .i64 i]] w fun e w' => e = .returned (.bool true) ∧ Left2 base px mx py my n w' ∧ Below base w w' := by
  have hB0 : Below w.heap.size w (w.alloc (.cells #[.int .i64 kd, .int .i64 k, .int .i64 i] 39)) := (Below.refl _ _).alloc (Nat.le_refl _) _
  have q1 : (w.alloc (.cells #[.int .i64 kd, .int .i64 k, .int .i64 i] 39)).cell? ⟨w.heap.size, 2, none⟩ = some (.int .i64 i) := by go_simp
  have t0 := t.grow hB0
  have HT := hide t
  have htb := t.hb
  have hlen := t.len
  have hil : i < ks.length := (List.getElem?_eq_some_iff.1 hi).1
  have ha := t.ok a (List.mem_of_getElem? hi)
  clear t
  obtain ⟨len, hl⟩ : ∃ len, len = ks.length := ⟨_, rfl⟩
  have HL := hide hl
  rw [← hl] at hlen hil
  clear hl
  have HI := hide hi
  clear hi
  have hi1 : (i : Int) < (len : Int) := by omega
  go_enter Try.func18, Try.ntmps18
  go_wp2_with fail
  generalize (w.alloc (.cells #[.int .i64 kd, .int .i64 k, .int .i64 i] 39)) = W0 at *
  have T0 := hide t0
  clear t0
  refine (atInt_in T0.out.ix (by rw [← HL.out]; omega) HI.out).mono ?_
  rintro e w' ⟨rfl, hw⟩
  have hw := hw.symm
  subst hw
  go_wp2_with fail
  refine (atCon_in T0.out.iy (by rw [List.length_map, ← HL.out]; omega) (map_idx HI.out)).mono ?_
  rintro e W1 ⟨rfl, hW1⟩
  have T1 := hide (T0.out.grow hW1)
  have q2 := kept_cell hW1 q1
  have hB1 : Below w.heap.size w W1 := hB0.trans (hW1.mono hB0.size)
  clear q1
  unfold Con.val keyC
  have X1 : conAt (W1.alloc (boxOf (keyC a) 23)) W1.heap.size 0 (keyC a) := conAt_new _ _ _
  have hB2 : Below W1.heap.size W1 (W1.alloc (boxOf (keyC a) 23)) := (Below.refl _ _).alloc (Nat.le_refl _) _
  have S1 := hide (show Two base (W1.alloc (boxOf (keyC a) 23)) px mx py my n ax cx ay cy ks ∧ (W1.alloc (boxOf (keyC a) 23)).cell? ⟨w.heap.size, 2, none⟩ = some (.int .i64 i) ∧ Below w.heap.size w (W1.alloc (boxOf (keyC a) 23)) ∧ conAt (W1.alloc (boxOf (keyC a) 23)) W1.heap.size 0 (keyC a) from ⟨T1.out.grow hB2, kept_cell hB2 q2, hB1.trans (hB2.mono hB1.size), X1⟩)
  clear X1 hB2
  go_wp2_with fail
  refine wp_region_over (fun W => Two base W px mx py my n ax cx ay cy ks ∧ W.cell? ⟨w.heap.size, 2, none⟩ = some (.int .i64 i) ∧ Below w.heap.size w W ∧ conAt W W1.heap.size 0 (keyC a)) (by kernel_rfl) (by kernel_rfl) S1.out ?_
  clear q2 S1
  rintro W ⟨FW, q1, hW, X1⟩
  have q1' := over_cell q1
  have g1 := fun x => calls_over_same (lenInt_any (FW.ix.grow (over_below W x)))
  rw [← HL.out] at g1
  have G1 := hide g1
  clear g1
  have hi0 : (0 : Int) ≤ (i : Int) := by omega
  repeat (go_big_quiet_step ((go_at_call 17; exact G1.out _)))
  refine wpQuiet_nil ?_
  rintro _ ⟨v, rfl⟩
  have F2 := FW.grow (over_below W v)
  have q2 := over_cell q1 v
  have X2 := conAt_kept X1 (over_below W v)
  have hB3 : Below w.heap.size w (over W v) := hW.trans ((over_below W v).mono hW.size)
  clear q1 q1' X1 G1 FW
  generalize over W v = W2 at *
  clear hW
  have X3 := X2
  obtain ⟨x0, x1, x2⟩ := X3
  have S2 := hide (show Two base W2 px mx py my n ax cx ay cy ks ∧ W2.cell? ⟨w.heap.size, 2, none⟩ = some (.int .i64 i) ∧ Below w.heap.size w W2 ∧ conAt W2 W1.heap.size 0 (keyC a) from ⟨F2, q2, hB3, X2⟩)
  clear F2 X2
  go_wp2_with fail
  refine wp_region_over (fun W => Two base W px mx py my n ax cx ay cy ks ∧ W.cell? ⟨w.heap.size, 2, none⟩ = some (.int .i64 i) ∧ Below w.heap.size w W ∧ conAt W W1.heap.size 0 (keyC a)) (by kernel_rfl) (by kernel_rfl) S2.out ?_
  clear q2 S2 x0 x1 x2
  rintro W ⟨FW, q1, hW, X1⟩
  have q1' := over_cell q1
  obtain ⟨x0, x1, x2⟩ := X1
  have x0' := over_cell x0
  have x1' := over_cell x1
  have x2' := over_cell x2
  simp only [keyC] at x0' x1' x2'
  have heo : ∀ w, (binOp .eql 23 (.agg #[.int .i64 1, .int .i64 a, .string ⟨#[]⟩]) (.agg #[.int .i64 1, .int .i64 a, .string ⟨#[]⟩])).run Try.prog w = .ok (.bool true) w := fun w => by
    have := eqCon (keyC a) (keyC a) w
    rw [conEq_refl] at this
    exact this
  have g1 := fun x => calls_over_same (findInt_some (FW.ix.grow (over_below W x)) ha HI.out)
  have G1 := hide g1
  clear g1
  repeat (go_big_quiet_step (first | (go_at_call 15; exact calls_over (key_any a _)) | (go_at_call 16; exact G1.out _)))
  refine wpQuiet_nil ?_
  rintro _ ⟨v, rfl⟩
  go_wp2
  go_ret
  exact ⟨rfl, (FW.grow (over_below W v)).left, (hW.trans ((over_below W v).mono hW.size)).mono htb⟩

set_option maxRecDepth 100000 in
set_option maxHeartbeats 1000000 in
theorem renamed_at_out (t : Two base w px mx py my n ax cx ay cy ks) (kd k x : Int) (h1 : (kd == 1) = false) (h2 : (kd == 2) = false) (h6 : (kd == 6) = false) (hx : x < 0 ∨ (ks.length : Int) ≤ x) (hn : n < 2199023255552) :
    Calls Try.prog 18 #[.pointer (some ⟨px, 0, none⟩), .pointer (some ⟨py, 0, none⟩), .agg #[.int .i64 kd, .int .i64 k, .int .i64 x]] w fun e w' => e = .returned (.bool true) ∧ Left2 base px mx py my n w' ∧ Below base w w' := by
  have hB0 : Below w.heap.size w (w.alloc (.cells #[.int .i64 kd, .int .i64 k, .int .i64 x] 39)) := (Below.refl _ _).alloc (Nat.le_refl _) _
  have q1 : (w.alloc (.cells #[.int .i64 kd, .int .i64 k, .int .i64 x] 39)).cell? ⟨w.heap.size, 2, none⟩ = some (.int .i64 x) := by go_simp
  have t0 := t.grow hB0
  have HT := hide t
  have htb := t.hb
  have hlen := t.len
  clear t
  obtain ⟨len, hl⟩ : ∃ len, len = ks.length := ⟨_, rfl⟩
  have HL := hide hl
  rw [← hl] at hlen hx
  clear hl
  have HX := hide hx
  clear hx
  go_enter Try.func18, Try.ntmps18
  go_wp2_with fail
  generalize (w.alloc (.cells #[.int .i64 kd, .int .i64 k, .int .i64 x] 39)) = W0 at *
  have T0 := hide t0
  clear t0
  refine (atInt_out T0.out.ix (by rw [← HL.out]; omega) (by rw [← HL.out]; exact HX.out)).mono ?_
  rintro e w' ⟨rfl, hw⟩
  have hw := hw.symm
  subst hw
  go_wp2_with fail
  refine (atCon_out T0.out.iy (by rw [List.length_map, ← HL.out]; omega) (by rw [List.length_map, ← HL.out]; exact HX.out)).mono ?_
  rintro e W1 ⟨rfl, hW1⟩
  have T1 := hide (T0.out.grow hW1)
  have q2 := kept_cell hW1 q1
  have hB1 : Below w.heap.size w W1 := hB0.trans (hW1.mono hB0.size)
  clear q1
  have X1 : conAt (W1.alloc (boxOf Con.zero 23)) W1.heap.size 0 Con.zero := conAt_new _ _ _
  have hB2 : Below W1.heap.size W1 (W1.alloc (boxOf Con.zero 23)) := (Below.refl _ _).alloc (Nat.le_refl _) _
  have S1 := hide (show Two base (W1.alloc (boxOf Con.zero 23)) px mx py my n ax cx ay cy ks ∧ (W1.alloc (boxOf Con.zero 23)).cell? ⟨w.heap.size, 2, none⟩ = some (.int .i64 x) ∧ Below w.heap.size w (W1.alloc (boxOf Con.zero 23)) ∧ conAt (W1.alloc (boxOf Con.zero 23)) W1.heap.size 0 Con.zero from ⟨T1.out.grow hB2, kept_cell hB2 q2, hB1.trans (hB2.mono hB1.size), X1⟩)
  clear X1 hB2
  unfold Con.val Con.zero
  go_wp2_with fail
  have heo : ∀ w, (binOp .eql 23 (.agg #[.int .i64 0, .int .i64 0, .string ⟨#[]⟩]) (.agg #[.int .i64 0, .int .i64 0, .string ⟨#[]⟩])).run Try.prog w = .ok (.bool true) w := fun w => by
    have := eqCon Con.zero Con.zero w
    rw [conEq_refl] at this
    exact this
  refine wp_region_over (fun W => Two base W px mx py my n ax cx ay cy ks ∧ W.cell? ⟨w.heap.size, 2, none⟩ = some (.int .i64 x) ∧ Below w.heap.size w W ∧ conAt W W1.heap.size 0 Con.zero) (by kernel_rfl) (by kernel_rfl) S1.out ?_
  clear q2 S1
  rintro W ⟨FW, q1, hW, X1⟩
  have q1' := over_cell q1
  have g1 := fun x => calls_over_same (lenInt_any (FW.ix.grow (over_below W x)))
  rw [← HL.out] at g1
  have G1 := hide g1
  clear g1
  have fin : ∀ v, Two base (over W v) px mx py my n ax cx ay cy ks ∧ Below base w (over W v) := fun v => ⟨FW.grow (over_below W v), (hW.trans ((over_below W v).mono hW.size)).mono htb⟩
  have xs : ∀ v, conAt (over W v) W1.heap.size 0 Con.zero := fun v => conAt_kept X1 (over_below W v)
  have FIN := hide fin
  clear fin
  by_cases hneg : x < 0
  · have hneg2 : ¬ (0 : Int) ≤ x := by omega
    repeat (go_big_quiet_step ((go_at_call 17; exact G1.out _)))
    refine wpQuiet_nil ?_
    rintro _ ⟨v, rfl⟩
    obtain ⟨x0, x1, x2⟩ := xs v
    simp only [Con.zero] at x0 x1 x2
    clear xs q1' q1
    go_wp2
    go_ret
    exact ⟨rfl, (FIN.out v).1.left, (FIN.out v).2⟩
  · have hge : ¬ x < (len : Int) := by have := HX.out; omega
    have hpos : (0 : Int) ≤ x := by omega
    repeat (go_big_quiet_step ((go_at_call 17; exact G1.out _)))
    refine wpQuiet_nil ?_
    rintro _ ⟨v, rfl⟩
    obtain ⟨x0, x1, x2⟩ := xs v
    simp only [Con.zero] at x0 x1 x2
    clear xs q1' q1
    go_wp2
    go_ret
    exact ⟨rfl, (FIN.out v).1.left, (FIN.out v).2⟩
end Go.Proofs.Ytlccgnlchngkeaa
