/- The law of cuts: its walk. -/
import Derived.Test.YtihkhnljjegopaaBoundToks
import Derived.Test.YtihkhnljjegopaaLawCounts
import Derived.Test.YtihkhnljjegopaaSliceRun
namespace Go.Proofs.Ytihkhnljjegopaa
set_option linter.unusedSimpArgs false
set_option linter.unusedVariables false
open Go.RowKit

theorem fires_split (d : Int) (l : List Rul) (i : Nat) : cutN (cutN (fires d (l.take i)) + cutN (fires d (l.drop i))) = cutN (fires d l) := by
  rw [cutN_add2]
  unfold fires
  rw [← List.sum_append, ← List.map_append, List.take_append_drop]
theorem toks_split (d : Int) (l : List Nod) (i : Nat) : cutN (cutN (toks d (l.take i)) + cutN (toks d (l.drop i))) = cutN (toks d l) := by
  rw [cutN_add2]
  unfold toks tokL
  rw [← List.sum_append, ← List.flatMap_append, List.take_append_drop]
theorem fires_more (d : Int) (l : List Rul) : fires d l ≤ fires (d + 1) l := by
  induction l with
  | nil => exact Nat.le_refl _
  | cons a r ih =>
    unfold fires at ih ⊢
    rw [List.map_cons, List.map_cons, List.sum_cons, List.sum_cons]
    have : d.toNat ^ a.vs.length ≤ (d + 1).toNat ^ a.vs.length := Nat.pow_le_pow_left (by omega) _
    omega
theorem toks_more (d : Int) (l : List Nod) : toks d l ≤ toks (d + 1) l := by
  induction l with
  | nil => exact Nat.le_refl _
  | cons a r ih =>
    unfold toks tokL at ih ⊢
    rw [List.flatMap_cons, List.flatMap_cons, List.sum_append, List.sum_append]
    have : (nodeP d a).sum ≤ (nodeP (d + 1) a).sum := by
      unfold nodeP
      split
      · exact Nat.le_refl _
      · have : d.toNat ^ a.w.toNat ≤ (d + 1).toNat ^ a.w.toNat := Nat.pow_le_pow_left (by omega) _
        simpa using this
    omega

theorem szRule (V : World) : (sizeOf (Try.prog.elem 22)).run Try.prog V = .ok 7 V := by kernel_rfl
theorem szNode (V : World) : (sizeOf (Try.prog.elem 23)).run Try.prog V = .ok 11 V := by kernel_rfl
theorem elRule : Try.prog.underlying 22 = some (.slice (Try.prog.elem 22)) := by kernel_rfl
theorem elNode : Try.prog.underlying 23 = some (.slice (Try.prog.elem 23)) := by kernel_rfl

def xyzR (v : Value) : Rul := ⟨⟨0, .slice none 0 0, []⟩, .slice none 0 0, [], .slice none 0 0, [], .slice none 0 0, [], v, [⟨#[88]⟩, ⟨#[89]⟩, ⟨#[90]⟩], 0⟩
theorem xyz_at (V : World) : Has elRul ((V.alloc (.cells #[.string ⟨#[88]⟩, .string ⟨#[89]⟩, .string ⟨#[90]⟩] 9)).alloc (.cells #[.int .i64 0, .slice none 0 0, .slice none 0 0, .slice none 0 0, .slice none 0 0, .slice (some ⟨V.heap.size, 0, none⟩) 3 3, .int .i64 0] 42)) (.slice (some ⟨V.heap.size + 1, 0, none⟩) 1 1) [xyzR (.slice (some ⟨V.heap.size, 0, none⟩) 3 3)] := by
  have hS := has_new elStr V 9 [⟨#[88]⟩, ⟨#[89]⟩, ⟨#[90]⟩] #[.string ⟨#[88]⟩, .string ⟨#[89]⟩, .string ⟨#[90]⟩] rfl (F := fun _ => True) trivial (fun x hx => by
    simp only [List.mem_cons, List.not_mem_nil, or_false] at hx
    rcases hx with rfl | rfl | rfl <;> (show (1 : Nat) ≤ _; omega)) (by simp)
  generalize (Obj.cells #[Value.string ⟨#[88]⟩, .string ⟨#[89]⟩, .string ⟨#[90]⟩] 9) = o at hS ⊢
  obtain ⟨W, hW⟩ : ∃ W, V.alloc o = W := ⟨_, rfl⟩
  have s : W.heap.size = V.heap.size + 1 := by rw [← hW]; simp
  rw [hW] at hS ⊢
  have hR := has_new elRul W 42 [xyzR (.slice (some ⟨V.heap.size, 0, none⟩) 3 3)] #[.int .i64 0, .slice none 0 0, .slice none 0 0, .slice none 0 0, .slice none 0 0, .slice (some ⟨V.heap.size, 0, none⟩) 3 3, .int .i64 0] rfl (F := fun _ => True) trivial (fun x hx => by
    simp only [List.mem_singleton] at hx
    subst hx
    exact ⟨⟨i64_0, Lst.nil _ _ _⟩, Lst.nil _ _ _, Lst.nil _ _ _, Lst.nil _ _ _, hS.kept (belo1 _ _), i64_0⟩) (by simp)
  rw [s] at hR
  exact hR
theorem fires_xyz (v : Value) : cutN (fires 2 [xyzR v]) = 8 := by simp [fires, xyzR, cutN]

set_option maxHeartbeats 4000000 in
theorem boundSplits_walk (d : Int) (rv nv : Value) (z : Int) (rs : List Rul) (ns : List Nod) (w : World) (hd : I64 d) (hz : I64 z) (hr : Has elRul w rv rs) (hn : Has elNod w nv ns) (hrl : rs.length ≤ 1048576) (hnl : ns.length ≤ 1048576) :
    Calls Try.prog 3 #[.agg #[.int .i64 d, rv, nv, .int .i64 z]] w fun e w' => e = .returned (.bool true) ∧ Below w.heap.size w w' := by
  obtain ⟨ra, rc, rfl, hrc, -, -⟩ := hr.shape
  obtain ⟨na, nc, rfl, hnc, -, -⟩ := hn.shape
  obtain ⟨i, hi⟩ : ∃ i : Nat, z % ((rs.length : Int) + 1) = i := ⟨(z % ((rs.length : Int) + 1)).toNat, by have := Int.emod_nonneg z (show (rs.length : Int) + 1 ≠ 0 by omega); omega⟩
  obtain ⟨j, hj⟩ : ∃ j : Nat, z % ((ns.length : Int) + 1) = j := ⟨(z % ((ns.length : Int) + 1)).toNat, by have := Int.emod_nonneg z (show (ns.length : Int) + 1 ≠ 0 by omega); omega⟩
  have hil : i ≤ rs.length := by have := Int.emod_lt_of_pos z (show (0 : Int) < (rs.length : Int) + 1 by omega); omega
  have hjl : j ≤ ns.length := by have := Int.emod_lt_of_pos z (show (0 : Int) < (ns.length : Int) + 1 by omega); omega
  have M1 := hide (fun V => mod_any (k := (rs.length : Int) + 1) hz (by omega) (by omega) V)
  have M2 := hide (fun V => mod_any (k := (ns.length : Int) + 1) hz (by omega) (by omega) V)
  rw [hi] at M1
  rw [hj] at M2
  obtain ⟨W, hW⟩ : ∃ W, w.alloc (.cells #[.int .i64 d, .slice ra rs.length rc, .slice na ns.length nc, .int .i64 z] 25) = W := ⟨_, rfl⟩
  have c0 : W.cell? ⟨w.heap.size, 0, none⟩ = some (.int .i64 d) := by rw [← hW]; exact new_cells 0 _ rfl
  have c1 : W.cell? ⟨w.heap.size, 1, none⟩ = some (.slice ra rs.length rc) := by rw [← hW]; exact new_cells 1 _ rfl
  have c2 : W.cell? ⟨w.heap.size, 2, none⟩ = some (.slice na ns.length nc) := by rw [← hW]; exact new_cells 2 _ rfl
  have c3 : W.cell? ⟨w.heap.size, 3, none⟩ = some (.int .i64 z) := by rw [← hW]; exact new_cells 3 _ rfl
  have BW : Hid (Below w.heap.size w W) := by rw [← hW]; exact belo1 _ _
  have HR := hide (hr.kept BW.out)
  have HN := hide (hn.kept BW.out)
  have HD := hide hd
  have HF := hide (firings_any (HR.out.kept (Below.refl _ _).drew) hd)
  have HW := hide hW
  obtain ⟨f, hf⟩ : ∃ f, cutN (fires d rs) = f := ⟨_, rfl⟩
  obtain ⟨f1, hf1⟩ : ∃ f, cutN (fires d (rs.take i)) = f := ⟨_, rfl⟩
  obtain ⟨f2, hf2⟩ : ∃ f, cutN (fires d (rs.drop i)) = f := ⟨_, rfl⟩
  have A1 : Hid (cutN (f1 + f2) = f ∧ f1 < 18446744073709551616 ∧ f2 < 18446744073709551616) := by rw [← hf, ← hf1, ← hf2]; exact ⟨fires_split d rs i, cutN_lt _, cutN_lt _⟩
  rw [hf] at HF
  obtain ⟨t, ht⟩ : ∃ f, cutN (toks d ns) = f := ⟨_, rfl⟩
  obtain ⟨t1, ht1⟩ : ∃ f, cutN (toks d (ns.take j)) = f := ⟨_, rfl⟩
  obtain ⟨t2, ht2⟩ : ∃ f, cutN (toks d (ns.drop j)) = f := ⟨_, rfl⟩
  have A2 : Hid (cutN (t1 + t2) = t ∧ t1 < 18446744073709551616 ∧ t2 < 18446744073709551616) := by rw [← ht, ← ht1, ← ht2]; exact ⟨toks_split d ns j, cutN_lt _, cutN_lt _⟩
  have F1 : Hid (∀ V : World, Below W.heap.size W V → Calls Try.prog 8 #[.int .i64 d, .slice ra i rc] V fun e w' => e = .returned (.int .u64 (f1 : Int)) ∧ Below V.heap.size V w') := fun V h => by
    rw [← hf1]; exact firings_any ((HR.out.to hil).kept h) HD.out
  have T0 : Hid (∀ V : World, Below W.heap.size W V → Calls Try.prog 10 #[.int .i64 d, .agg #[.slice none 0 0, .slice na ns.length nc, .slice none 0 0]] V fun e w' => e = .returned (.int .u64 (t : Int)) ∧ Below V.heap.size V w') := fun V h => by
    rw [← ht]; exact tokens_any (HN.out.kept h) HD.out
  have T1 : Hid (∀ V : World, Below W.heap.size W V → Calls Try.prog 10 #[.int .i64 d, .agg #[.slice none 0 0, .slice na j nc, .slice none 0 0]] V fun e w' => e = .returned (.int .u64 (t1 : Int)) ∧ Below V.heap.size V w') := fun V h => by
    rw [← ht1]; exact tokens_any ((HN.out.to hjl).kept h) HD.out
  have s1 := fun V => run_to elRule szRule ra rs.length rc i (by omega) V
  have s2 := fun V => run_from elRule szRule ra rs.length rc i hil V
  have s3 := fun V => run_to elNode szNode na ns.length nc j (by omega) V
  have s4 := fun V => run_from elNode szNode na ns.length nc j hjl V
  have HRd := hide (HR.out.from hil)
  have HNd := hide (HN.out.from hjl)
  rw [show elRul.size = 7 from rfl] at HRd
  rw [show elNod.size = 11 from rfl] at HNd
  obtain ⟨xa, hxa⟩ : ∃ xa, tailA ra i rc 7 = xa := ⟨_, rfl⟩
  obtain ⟨xn, hxn⟩ : ∃ xn, rs.length - i = xn := ⟨_, rfl⟩
  obtain ⟨xc, hxc⟩ : ∃ xc, rc - i = xc := ⟨_, rfl⟩
  obtain ⟨ya, hya⟩ : ∃ ya, tailA na j nc 11 = ya := ⟨_, rfl⟩
  obtain ⟨yn, hyn⟩ : ∃ yn, ns.length - j = yn := ⟨_, rfl⟩
  obtain ⟨yc, hyc⟩ : ∃ yc, nc - j = yc := ⟨_, rfl⟩
  simp only [hxa, hxn, hxc] at s2 HRd
  simp only [hya, hyn, hyc] at s4 HNd
  have F2 : Hid (∀ V : World, Below W.heap.size W V → Calls Try.prog 8 #[.int .i64 d, .slice xa xn xc] V fun e w' => e = .returned (.int .u64 (f2 : Int)) ∧ Below V.heap.size V w') := fun V h => by
    rw [← hf2]; exact firings_any (HRd.out.kept h) HD.out
  have T2 : Hid (∀ V : World, Below W.heap.size W V → Calls Try.prog 10 #[.int .i64 d, .agg #[.slice none 0 0, .slice ya yn yc, .slice none 0 0]] V fun e w' => e = .returned (.int .u64 (t2 : Int)) ∧ Below V.heap.size V w') := fun V h => by
    rw [← ht2]; exact tokens_any (HNd.out.kept h) HD.out
  have HFv : Hid (cutN (fires d rs) = f ∧ cutN (toks d ns) = t) := ⟨hf, ht⟩
  have a1 := fun V => at_of elRule (s1 V)
  have a2 := fun V => at_of elRule (s2 V)
  have a3 := fun V => at_of elNode (s3 V)
  have a4 := fun V => at_of elNode (s4 V)
  clear hr hn hd hz hi hj hW hrc hnc hil hjl hf hf1 hf2 ht ht1 ht2 hxa hxn hxc hya hyn hyc HRd HNd
  go_enter Try.func3, Try.ntmps3
  go_wp2_with (fail)
  rw [HW.out]
  go_region_held3 (fun w' => w'.cell? ⟨w.heap.size, 0, none⟩ = some (.int .i64 d) ∧ w'.cell? ⟨w.heap.size, 1, none⟩ = some (.slice ra rs.length rc) ∧ w'.cell? ⟨w.heap.size, 2, none⟩ = some (.slice na ns.length nc) ∧ w'.cell? ⟨w.heap.size, 3, none⟩ = some (.int .i64 z)) (exact ⟨c0, c1, c2, c3⟩) (fail)
  go_wp2_with (first
    | (go_at_call 7; refine (M1.out _).mono ?_; rintro e w2 ⟨rfl, hw⟩; have hw := hw.symm; subst hw; clear M1)
    | (go_at_call 7; refine (M2.out _).mono ?_; rintro e w2 ⟨rfl, hw⟩; have hw := hw.symm; subst hw; clear M2)
    | (go_at_call 8; refine HF.out.mono ?_; rintro e w3 ⟨rfl, hb⟩; have B1 : Hid (Below W.heap.size W w3) := (below_drewN _ W 1).trans hb; clear hb HF))
  go_region_held3 (fun _ => True) (trivial)
    (first
      | (go_at_call 8; refine (F1.out _ (B1.out.trans ((below_drewN _ w3 1).mono B1.out.size))).mono ?_; rintro e w4 ⟨rfl, hb⟩; have B2 : Hid (Below W.heap.size W w4) := (B1.out.trans ((below_drewN _ w3 1).mono B1.out.size)).trans (hb.mono B1.out.size); clear hb F1)
      | (go_at_call 8; refine (F2.out _ B2.out).mono ?_; rintro e w5 ⟨rfl, hb⟩; have B3 : Hid (Below W.heap.size W w5) := B2.out.trans (hb.mono B2.out.size); clear hb F2)
      | (go_at_call 9; refine (badd_any A1.out.2.1 A1.out.2.2 _).mono ?_; rw [A1.out.1]; rintro e w6 ⟨rfl, hw⟩; have hw := hw.symm; subst hw))
  go_wp2_with (go_at_call 10; refine (T0.out _ B3.out).mono ?_; rintro e w6 ⟨rfl, hb⟩; have B4 : Hid (Below W.heap.size W w6) := B3.out.trans (hb.mono B3.out.size); clear hb T0)
  go_region_held3 (fun _ => True) (trivial)
    (first
      | (go_at_call 10; refine (T1.out _ (B4.out.trans ((below_drewN _ w6 1).mono B4.out.size))).mono ?_; rintro e w7 ⟨rfl, hb⟩; have B5 : Hid (Below W.heap.size W w7) := (B4.out.trans ((below_drewN _ w6 1).mono B4.out.size)).trans (hb.mono B4.out.size); clear hb T1)
      | (go_at_call 10; refine (T2.out _ B5.out).mono ?_; rintro e w8 ⟨rfl, hb⟩; have B6 : Hid (Below W.heap.size W w8) := B5.out.trans (hb.mono B5.out.size); clear hb T2)
      | (go_at_call 9; refine (badd_any A2.out.2.1 A2.out.2.2 _).mono ?_; rw [A2.out.1]; rintro e w9 ⟨rfl, hw⟩; have hw := hw.symm; subst hw))
  clear s1 s2 s3 s4 a1 a2 a3 a4 A1 A2 B1 B2 B3 B4 B5
  by_cases h62 : d < 4611686018427387904
  · obtain ⟨g, hg⟩ : ∃ g, cutN (fires (d + 1) rs) = g := ⟨_, rfl⟩
    obtain ⟨h, hh⟩ : ∃ g, cutN (toks (d + 1) ns) = g := ⟨_, rfl⟩
    have hgf : ¬ g < f := by rw [← HFv.out.1, ← hg]; have := cutN_mono (fires_more d rs); omega
    have hht : ¬ h < t := by rw [← HFv.out.2, ← hh]; have := cutN_mono (toks_more d ns); omega
    have hd1 : I64 (d + 1) := ⟨by have := HD.out.1; omega, by omega⟩
    have hd0 : -9223372036854775808 ≤ d := HD.out.1
    have G1 := hide (firings_any (HR.out.kept B6.out) hd1)
    rw [hg] at G1
    have G2 : Hid (∀ V : World, Below W.heap.size W V → Calls Try.prog 10 #[.int .i64 (d + 1), .agg #[.slice none 0 0, .slice na ns.length nc, .slice none 0 0]] V fun e w' => e = .returned (.int .u64 (h : Int)) ∧ Below V.heap.size V w') := fun V hV => by
      rw [← hh]; exact tokens_any (HN.out.kept hV) hd1
    clear hg hh hd1
    go_wp2_with (first
      | (go_at_call 8; refine G1.out.mono ?_; rintro e wa ⟨rfl, hb⟩; have BA : Hid (Below W.heap.size W wa) := B6.out.trans (hb.mono B6.out.size); clear hb G1)
      | (go_at_call 10; refine (G2.out _ BA.out).mono ?_; rintro e wb ⟨rfl, hb⟩; have BB : Hid (Below W.heap.size W wb) := BA.out.trans (hb.mono BA.out.size); clear hb G2)
      | (go_at_call 8; refine (firings_any (xyz_at wb) (d := 2) ⟨by decide, by decide⟩).mono ?_; rw [fires_xyz]; rintro e wz ⟨rfl, hb⟩; have BZ : Hid (Below wb.heap.size wb wz) := ((belo1 _ _).trans ((belo1 _ _).mono (by simp))).trans (hb.mono (by simp; omega)); clear hb))
    go_ret
    exact ⟨rfl, BW.out.trans ((BB.out.trans (BZ.out.mono BB.out.size)).mono BW.out.size)⟩
  · go_wp2_with (go_at_call 8; refine (firings_any (xyz_at w8) (d := 2) ⟨by decide, by decide⟩).mono ?_; rw [fires_xyz]; rintro e wz ⟨rfl, hb⟩; have BZ : Hid (Below w8.heap.size w8 wz) := ((belo1 _ _).trans ((belo1 _ _).mono (by simp))).trans (hb.mono (by simp; omega)); clear hb)
    go_ret
    exact ⟨rfl, BW.out.trans ((B6.out.trans (BZ.out.mono B6.out.size)).mono BW.out.size)⟩
end Go.Proofs.Ytihkhnljjegopaa
