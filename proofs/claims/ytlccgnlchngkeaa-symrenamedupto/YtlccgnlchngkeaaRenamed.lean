/- edictlaw01.renamed, one call on two Ids that stand for each other: Intern, Find and Cut. -/
import Derived.Test.YtlccgnlchngkeaaNewIds
import Derived.Test.YtlccgnlchngkeaaConEq
namespace Go.Proofs.Ytlccgnlchngkeaa
set_option linter.unusedSimpArgs false
set_option linter.unusedVariables false
open Go.RowKit Go.Maps

def keyC (k : Int) : Con := ⟨1, k, ⟨#[]⟩⟩

/-- Two Ids that stand for each other. -/
structure Two (base : Nat) (w : World) (px mx py my n : Nat) (ax : Option Addr) (cx : Nat) (ay : Option Addr) (cy : Nat) (ks : List Int) : Prop where
  ix : IntIds base w px mx n ax cx ks
  iy : ConIds base w py my n ay cy (ks.map keyC)
  hm : mx ≠ my
  nodup : ks.Nodup
  ok : ∀ k ∈ ks, I64 k
  len : ks.length ≤ n
  hb : base ≤ w.heap.size

theorem keyC_inj {a b : Int} (h : keyC a = keyC b) : a = b := by simpa [keyC] using h
theorem keyC_ok {k : Int} (h : I64 k) : (keyC k).ok := ⟨⟨by show (-9223372036854775808 : Int) ≤ 1; decide, by show (1 : Int) ≤ 9223372036854775807; decide⟩, h, by show (0 : Nat) ≤ 140737488351232; decide⟩
theorem Two.oky {base : Nat} {w : World} {px mx py my n : Nat} {ax : Option Addr} {cx : Nat} {ay : Option Addr} {cy : Nat} {ks : List Int} (t : Two base w px mx py my n ax cx ay cy ks) : ∀ c ∈ ks.map keyC, c.ok := by
  intro c hc
  obtain ⟨k, hk, rfl⟩ := List.mem_map.1 hc
  exact keyC_ok (t.ok k hk)
theorem nodup_keyC {ks : List Int} (h : ks.Nodup) : (ks.map keyC).Nodup := by
  rw [List.nodup_iff_pairwise_ne] at *
  exact List.Pairwise.map _ (fun a b hab e => hab (keyC_inj e)) h

theorem Two.grow {base : Nat} {w w' : World} {px mx py my n : Nat} {ax : Option Addr} {cx : Nat} {ay : Option Addr} {cy : Nat} {ks : List Int} (t : Two base w px mx py my n ax cx ay cy ks) (hb : Below w.heap.size w w') : Two base w' px mx py my n ax cx ay cy ks :=
  ⟨t.ix.grow hb, t.iy.grow hb, t.hm, t.nodup, t.ok, t.len, Nat.le_trans t.hb hb.size⟩

/-- What renamed is asked to leave. -/
def Left2 (base : Nat) (px mx py my n : Nat) (w' : World) : Prop := ∃ ax cx ay cy ks, Two base w' px mx py my (n + 1) ax cx ay cy ks

theorem Two.left {base : Nat} {w : World} {px mx py my n : Nat} {ax : Option Addr} {cx : Nat} {ay : Option Addr} {cy : Nat} {ks : List Int} (t : Two base w px mx py my n ax cx ay cy ks) : Left2 base px mx py my n w :=
  ⟨ax, cx, ay, cy, ks, t.ix.mono (by omega), t.iy.mono (by omega), t.hm, t.nodup, t.ok, by have := t.len; omega, t.hb⟩

theorem ret_bool {b : Bool} (h : b = true) : Ending.returned (.bool b) = .returned (.bool true) := by rw [h]

theorem idx_or {ks : List Int} (k : Int) : (∃ i : Nat, ks[i]? = some k) ∨ k ∉ ks := by
  by_cases h : k ∈ ks
  · exact .inl (List.mem_iff_getElem?.1 h)
  · exact .inr h

theorem map_idx {ks : List Int} {i : Nat} {k : Int} (h : ks[i]? = some k) : (ks.map keyC)[i]? = some (keyC k) := by simp [h]
theorem map_not {ks : List Int} {k : Int} (h : k ∉ ks) : keyC k ∉ ks.map keyC := by
  intro hm
  obtain ⟨k', h1, h2⟩ := List.mem_map.1 hm
  exact h (keyC_inj h2 ▸ h1)

variable {base : Nat} {w : World} {px mx py my n : Nat} {ax : Option Addr} {cx : Nat} {ay : Option Addr} {cy : Nat} {ks : List Int}

set_option maxRecDepth 100000 in
set_option maxHeartbeats 1000000 in
theorem renamed_find (t : Two base w px mx py my n ax cx ay cy ks) (k x : Int) (hk : I64 k) :
    Calls Try.prog 18 #[.pointer (some ⟨px, 0, none⟩), .pointer (some ⟨py, 0, none⟩), .agg #[.int .i64 2, .int .i64 k, .int .i64 x]] w fun e w' => e = .returned (.bool true) ∧ Left2 base px mx py my n w' ∧ Below base w w' := by
  go_enter Try.func18, Try.ntmps18
  go_wp2_with fail
  have hB0 : Below w.heap.size w (w.alloc (.cells #[.int .i64 2, .int .i64 k, .int .i64 x] 39)) := (Below.refl _ _).alloc (Nat.le_refl _) _
  have q1 : (w.alloc (.cells #[.int .i64 2, .int .i64 k, .int .i64 x] 39)).cell? ⟨w.heap.size, 1, none⟩ = some (.int .i64 k) := by go_simp
  refine wp_region_over (fun W => Two base W px mx py my n ax cx ay cy ks ∧ W.cell? ⟨w.heap.size, 1, none⟩ = some (.int .i64 k) ∧ Below w.heap.size w W) (by kernel_rfl) (by kernel_rfl) ⟨t.grow hB0, q1, hB0⟩ ?_
  clear q1 hB0
  rintro W ⟨FW, q1, hW⟩
  have q1' := over_cell q1
  rcases idx_or (ks := ks) k with ⟨i, hi⟩ | hi
  · have g1 := fun x => calls_over_same (findInt_some (FW.ix.grow (over_below W x)) hk hi)
    have g2 := fun x => calls_over (findCon_some (FW.iy.grow (over_below W x)) (keyC_ok hk) (map_idx hi))
    have G1 := hide g1
    have G2 := hide g2
    clear g1 g2
    repeat (go_big_quiet_step (first | (go_at_call 16; exact G1.out _) | (go_at_call 15; exact calls_over (key_any k _)) | (go_at_call 32; exact G2.out _)))
    refine wpQuiet_nil ?_
    rintro _ ⟨v, rfl⟩
    go_wp2
    go_ret
    exact ⟨rfl, (FW.grow (over_below W v)).left, (hW.trans ((over_below W v).mono hW.size)).mono t.hb⟩
  · have g1 := fun x => calls_over_same (findInt_none (FW.ix.grow (over_below W x)) hk hi)
    have g2 := fun x => calls_over (findCon_none (FW.iy.grow (over_below W x)) (keyC_ok hk) t.oky (map_not hi))
    have G1 := hide g1
    have G2 := hide g2
    clear g1 g2
    repeat (go_big_quiet_step (first | (go_at_call 16; exact G1.out _) | (go_at_call 15; exact calls_over (key_any k _)) | (go_at_call 32; exact G2.out _)))
    refine wpQuiet_nil ?_
    rintro _ ⟨v, rfl⟩
    go_wp2
    go_ret
    exact ⟨rfl, (FW.grow (over_below W v)).left, (hW.trans ((over_below W v).mono hW.size)).mono t.hb⟩

theorem Two.grown_x {w' : World} {ax' : Option Addr} {cx' n' : Nat} {ks' : List Int} (t : Two base w px mx py my n ax cx ay cy ks) (ho : Only (foot px mx ax) w w') (hi : IntIds base w' px mx n' ax' cx' ks') : ConIds base w' py my n ay cy (ks.map keyC) :=
  t.ix.keep t.iy (by decide) (by decide) (by decide) (by decide) t.hm ho
theorem Two.box {b : Nat} (t : Two base w px mx py my n ax cx ay cy ks) (hb : w.heap.size ≤ b) : ¬ foot px mx ax b ∧ ¬ foot py my ay b := by
  constructor
  · intro h; have := (t.ix.foot_lt (by decide) h).1; omega
  · intro h; have := (t.iy.foot_lt (by decide) h).1; omega

set_option maxRecDepth 100000 in
set_option maxHeartbeats 1000000 in
theorem renamed_intern (t : Two base w px mx py my n ax cx ay cy ks) (k x : Int) (hk : I64 k) (hn : n < 2199023255552) :
    Calls Try.prog 18 #[.pointer (some ⟨px, 0, none⟩), .pointer (some ⟨py, 0, none⟩), .agg #[.int .i64 1, .int .i64 k, .int .i64 x]] w fun e w' => e = .returned (.bool true) ∧ Left2 base px mx py my n w' ∧ Below base w w' := by
  have hB0 : Below w.heap.size w (w.alloc (.cells #[.int .i64 1, .int .i64 k, .int .i64 x] 39)) := (Below.refl _ _).alloc (Nat.le_refl _) _
  have q1 : (w.alloc (.cells #[.int .i64 1, .int .i64 k, .int .i64 x] 39)).cell? ⟨w.heap.size, 1, none⟩ = some (.int .i64 k) := by go_simp
  have t0 := t.grow hB0
  have hbox := t.box (Nat.le_refl _)
  have HT := hide t
  have htb := t.hb
  clear t
  go_enter Try.func18, Try.ntmps18
  go_wp2_with fail
  generalize (w.alloc (.cells #[.int .i64 1, .int .i64 k, .int .i64 x] 39)) = W0 at *
  have hlen := t0.len
  obtain ⟨len, hl⟩ : ∃ len, len = ks.length := ⟨_, rfl⟩
  have HL := hide hl
  rw [← hl] at hlen
  clear hl
  have T0 := hide t0
  clear t0
  refine (lenInt_any T0.out.ix).mono ?_
  rintro e w' ⟨rfl, hw⟩
  have hw := hw.symm
  subst hw
  rw [← HL.out]
  rcases idx_or (ks := ks) k with ⟨i, hi⟩ | hi
  · have hil : i < len := by rw [HL.out]; exact (List.getElem?_eq_some_iff.1 hi).1
    have HI := hide hi
    clear hi
    go_wp2_with fail
    refine (findInt_some T0.out.ix hk HI.out).mono ?_
    rintro e w' ⟨rfl, hw⟩
    have hw := hw.symm
    subst hw
    go_wp2_with fail
    refine (internInt_old T0.out.ix hk HI.out).mono ?_
    rintro e w' ⟨rfl, hw⟩
    have hw := hw.symm
    subst hw
    go_wp2_with fail
    refine (lenInt_any T0.out.ix).mono ?_
    rintro e w' ⟨rfl, hw⟩
    have hw := hw.symm
    subst hw
    rw [← HL.out]
    go_wp2_with fail
    refine (key_any k _).mono ?_
    rintro e W1 ⟨rfl, hW1⟩
    have T1 := hide (T0.out.grow hW1)
    have q2 := kept_cell hW1 q1
    go_wp2_with fail
    refine (internCon_old (c := keyC k) T1.out.iy (keyC_ok hk) (map_idx HI.out)).mono ?_
    rintro e W2 ⟨rfl, hW2⟩
    have T2 := hide (T1.out.grow hW2)
    have q3 := kept_cell hW2 q2
    clear q1 q2
    go_wp2_with fail
    refine (findInt_some T2.out.ix hk HI.out).mono ?_
    rintro e w' ⟨rfl, hw⟩
    have hw := hw.symm
    subst hw
    go_wp2_with fail
    go_ret
    exact ⟨by simp, T2.out.left, ((hB0.trans (hW1.mono hB0.size)).trans (hW2.mono (Nat.le_trans hB0.size hW1.size))).mono htb⟩
  · have HI := hide hi
    clear hi
    go_wp2_with fail
    refine (findInt_none T0.out.ix hk HI.out).mono ?_
    rintro e w' ⟨rfl, hw⟩
    have hw := hw.symm
    subst hw
    go_wp2_with fail
    refine (internInt_new T0.out.ix T0.out.hb hk HI.out hn (by rw [← HL.out]; omega)).mono ?_
    rintro e W1 ⟨rfl, ax', cx', hI1, hO1, hA1⟩
    rw [← HL.out]
    have hY1 := T0.out.grown_x hO1 hI1
    have q2 := hO1.cell q1 hbox.1
    have L1 : (ks ++ [k]).length = len + 1 := by rw [HL.out]; simp
    have I1 := hide hI1
    have Y1 := hide hY1
    clear q1 hI1 hY1
    go_wp2_with fail
    refine (lenInt_any I1.out).mono ?_
    rintro e w' ⟨rfl, hw⟩
    have hw := hw.symm
    subst hw
    rw [L1]
    go_wp2_with fail
    refine (key_any k _).mono ?_
    rintro e W2 ⟨rfl, hW2⟩
    have q3 := kept_cell hW2 q2
    have I2 := hide (I1.out.grow hW2)
    have Y2 := hide (Y1.out.grow hW2)
    clear q2
    go_wp2_with fail
    refine (internCon_new (c := keyC k) Y2.out (Nat.le_trans T0.out.hb (Nat.le_trans hO1.size hW2.size)) (keyC_ok hk) T0.out.oky (map_not HI.out) hn (by rw [List.length_map, ← HL.out]; omega)).mono ?_
    rintro e W3 ⟨rfl, ay', cy', hY3, hO3, hA3⟩
    rw [List.length_map, ← HL.out]
    have hI3 := Y2.out.keep I2.out (by decide) (by decide) (by decide) (by decide) T0.out.hm.symm hO3
    have q4 := hO3.cell q3 hbox.2
    clear q3
    have I3 := hide hI3
    have Y3 := hide hY3
    clear hI3 hY3
    go_wp2_with fail
    refine (findInt_some (i := len) I3.out hk (by rw [HL.out]; simp)).mono ?_
    rintro e w' ⟨rfl, hw⟩
    have hw := hw.symm
    subst hw
    go_wp2_with fail
    go_ret
    refine ⟨by simp, ⟨ax', cx', ay', cy', ks ++ [k], ?_⟩, ?_⟩
    · have hnd : (ks ++ [k]).Nodup := by
        rw [List.nodup_append]
        refine ⟨T0.out.nodup, by simp, fun a ha b hb => ?_⟩
        rw [List.mem_singleton] at hb
        rintro rfl
        exact HI.out (hb ▸ ha)
      refine ⟨I3.out, by rw [List.map_append]; exact Y3.out, T0.out.hm, hnd, fun a ha => ?_, by rw [L1]; omega, Nat.le_trans T0.out.hb (Nat.le_trans hO1.size (Nat.le_trans hW2.size hO3.size))⟩
      rcases List.mem_append.1 ha with ha | ha
      · exact T0.out.ok a ha
      · rw [List.mem_singleton.1 ha]; exact hk
    · have b1 := hO1.below (Nat.le_trans htb hB0.size) (fun q hq hf => by have := (T0.out.ix.foot_lt (by decide) hf).2; omega)
      have b3 := hO3.below (Nat.le_trans T0.out.hb (Nat.le_trans hO1.size hW2.size)) (fun q hq hf => by have := (Y2.out.foot_lt (by decide) hf).2; omega)
      exact (((hB0.mono htb).trans b1).trans (hW2.mono (Nat.le_trans T0.out.hb hO1.size))).trans b3

set_option maxRecDepth 100000 in
set_option maxHeartbeats 1000000 in
theorem renamed_cut (t : Two base w px mx py my n ax cx ay cy ks) (k x : Int) (hx : I64 x) (hn : n < 2199023255552) :
    Calls Try.prog 18 #[.pointer (some ⟨px, 0, none⟩), .pointer (some ⟨py, 0, none⟩), .agg #[.int .i64 6, .int .i64 k, .int .i64 x]] w fun e w' => e = .returned (.bool true) ∧ Left2 base px mx py my n w' ∧ Below base w w' := by
  have hB0 : Below w.heap.size w (w.alloc (.cells #[.int .i64 6, .int .i64 k, .int .i64 x] 39)) := (Below.refl _ _).alloc (Nat.le_refl _) _
  have q1 : (w.alloc (.cells #[.int .i64 6, .int .i64 k, .int .i64 x] 39)).cell? ⟨w.heap.size, 2, none⟩ = some (.int .i64 x) := by go_simp
  have t0 := t.grow hB0
  have hbox := t.box (Nat.le_refl _)
  have HT := hide t
  have htb := t.hb
  clear t
  go_enter Try.func18, Try.ntmps18
  go_wp2_with fail
  generalize (w.alloc (.cells #[.int .i64 6, .int .i64 k, .int .i64 x] 39)) = W0 at *
  have hlen := t0.len
  obtain ⟨len, hl⟩ : ∃ len, len = ks.length := ⟨_, rfl⟩
  have HL := hide hl
  rw [← hl] at hlen
  clear hl
  have T0 := hide t0
  clear t0
  refine (lenInt_any T0.out.ix).mono ?_
  rintro e w' ⟨rfl, hw⟩
  have hw := hw.symm
  subst hw
  rw [← HL.out]
  by_cases hc : (len : Int) ≤ x ∨ (x ≤ 0 ∧ len = 0)
  · have HC := hide hc
    clear hc
    go_wp2_with fail
    refine (cutInt_none T0.out.ix (by rw [← HL.out]; omega) (by rw [← HL.out]; exact HC.out)).mono ?_
    rintro e w' ⟨rfl, hw⟩
    have hw := hw.symm
    subst hw
    go_wp2_with fail
    refine (cutCon_none T0.out.iy (by rw [List.length_map, ← HL.out]; omega) (by rw [List.length_map, ← HL.out]; exact HC.out)).mono ?_
    rintro e w' ⟨rfl, hw⟩
    have hw := hw.symm
    subst hw
    go_wp2_with fail
    refine wp_region_over (fun W => Two base W px mx py my n ax cx ay cy ks ∧ W.cell? ⟨w.heap.size, 2, none⟩ = some (.int .i64 x) ∧ Below w.heap.size w W) (by kernel_rfl) (by kernel_rfl) ⟨T0.out, q1, hB0⟩ ?_
    clear q1 hB0
    rintro W ⟨FW, q1, hW⟩
    have q1' := over_cell q1
    have g1 := fun x => calls_over_same (lenInt_any (FW.ix.grow (over_below W x)))
    rw [← HL.out] at g1
    have G1 := hide g1
    clear g1
    repeat (go_big_quiet_step ((go_at_call 17; exact G1.out _)))
    refine wpQuiet_nil ?_
    rintro _ ⟨v, rfl⟩
    have hc := HC.out
    go_wp2
    all_goals go_ret
    all_goals refine ⟨ret_bool ?_, (FW.grow (over_below W v)).left, (hW.trans ((over_below W v).mono hW.size)).mono htb⟩
    all_goals first | rfl | (simp; done) | (simp; omega) | (simp at *; omega)
  · obtain ⟨d, hd, hcd⟩ : ∃ d : Nat, d < len ∧ (x = d ∨ (x < 0 ∧ d = 0)) := by
      by_cases h0 : x < 0
      · exact ⟨0, by omega, .inr ⟨h0, rfl⟩⟩
      · exact ⟨x.toNat, by omega, .inl (by omega)⟩
    have HC := hide hc
    have HD := hide hcd
    clear hc hcd
    go_wp2_with fail
    refine (cutInt_some T0.out.ix T0.out.nodup T0.out.ok (by rw [← HL.out]; omega) HD.out (by rw [← HL.out]; exact hd)).mono ?_
    rintro e W1 ⟨rfl, hI1, hO1⟩
    have hY1 := T0.out.grown_x hO1 hI1
    have q2 := hO1.cell q1 hbox.1
    have I1 := hide hI1
    have Y1 := hide hY1
    clear q1 hI1 hY1
    go_wp2_with fail
    refine (cutCon_some Y1.out (nodup_keyC T0.out.nodup) T0.out.oky (by rw [List.length_map, ← HL.out]; omega) HD.out (by rw [List.length_map, ← HL.out]; exact hd)).mono ?_
    rintro e W2 ⟨rfl, hY2, hO2⟩
    have hI2 := Y1.out.keep I1.out (by decide) (by decide) (by decide) (by decide) T0.out.hm.symm hO2
    have q3 := hO2.cell q2 hbox.2
    clear q2
    have hsub : (ks.take d).Sublist ks := List.take_sublist d ks
    have L2 : (ks.take d).length = d := by rw [List.length_take, ← HL.out]; omega
    have t2 : Two base W2 px mx py my n ax cx ay cy (ks.take d) := ⟨hI2, by rw [List.map_take]; exact hY2, T0.out.hm, T0.out.nodup.sublist hsub, fun a ha => T0.out.ok a (hsub.subset ha), by rw [L2]; omega, Nat.le_trans T0.out.hb (Nat.le_trans hO1.size hO2.size)⟩
    have hB2 : Below base w W2 := by
      have b1 := hO1.below (Nat.le_trans htb hB0.size) (fun q hq hf => by have := (T0.out.ix.foot_lt (by decide) hf).2; omega)
      have b3 := hO2.below (Nat.le_trans T0.out.hb hO1.size) (fun q hq hf => by have := (Y1.out.foot_lt (by decide) hf).2; omega)
      exact ((hB0.mono htb).trans b1).trans b3
    clear hI2 hY2
    go_wp2_with fail
    refine wp_region_over (fun W => Two base W px mx py my n ax cx ay cy (ks.take d) ∧ W.cell? ⟨w.heap.size, 2, none⟩ = some (.int .i64 x) ∧ Below base w W) (by kernel_rfl) (by kernel_rfl) ⟨t2, q3, hB2⟩ ?_
    clear q3 hB0 hB2
    rintro W ⟨FW, q1, hW⟩
    have q1' := over_cell q1
    have g1 := fun x => calls_over_same (lenInt_any (FW.ix.grow (over_below W x)))
    rw [L2] at g1
    have G1 := hide g1
    clear g1
    repeat (go_big_quiet_step ((go_at_call 17; exact G1.out _)))
    refine wpQuiet_nil ?_
    rintro _ ⟨v, rfl⟩
    have hc := HC.out
    have hcd := HD.out
    go_wp2
    all_goals go_ret
    all_goals refine ⟨ret_bool ?_, (FW.grow (over_below W v)).left, hW.trans ((over_below W v).mono FW.hb)⟩
    all_goals first | rfl | (simp; done) | (simp; omega) | (simp at *; omega)
end Go.Proofs.Ytlccgnlchngkeaa
