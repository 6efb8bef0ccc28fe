/- edictlaw01's every, n above 0. -/
import Derived.Test.YtbagefemhidbjaaEveryMem
import Derived.Sort.CutIn
import Derived.Sort.QuietIn
namespace Go.Proofs.Ytbagefemhidbjaa
set_option linter.unusedSimpArgs false
set_option linter.unusedVariables false
open Go.RowKit Go.Maps Go.Shelf
attribute [local go_sem] Oper.semAt_some

set_option maxRecDepth 100000 in
set_option maxHeartbeats 8000000 in
theorem every_gt {w : World} {p m : Nat} {ao : Option Addr} {N : Nat} {qs : List ByteArray} (k : ByteArray) (z : Int) (hz : 0 < z) (hplt : p < w.heap.size) (hmlt : m < w.heap.size) (halt : ∀ a, ao = some a → a.block < w.heap.size)
    (hint : ∀ W, Below w.heap.size w W → Calls Try.prog 28 #[.pointer (some ⟨p, 0, none⟩), .string k] W fun e w' => (∃ i, e = .returned (.int .i64 i)) ∧ Hid (IntSaid W p m ao N qs w')) (hl : qs.length ≤ 2097152) :
    Calls Try.prog 32 #[.pointer (some ⟨p, 0, none⟩), .string k, .int .i64 z] w fun e w' => ∃ v1 v2, e = .returned (.tuple #[v1, v2, .bool true]) ∧ Hid (∃ w1, IntSaid w p m ao N qs w1 ∧ SL w1 w' v1 (qs.take z.toNat) ∧ SL w1 w' v2 qs ∧ w.heap.size ≤ w1.heap.size) := by
  obtain ⟨i0, hi, hz0, hz1, hz2⟩ := info_parts Try.infoStr
  have hfs := func_someS
  have HC := hide (hint _ (((Below.refl _ w).alloc (Nat.le_refl _) (.cells #[.int .i64 z] 3)).alloc (by simp) (.cells #[.pointer (some ⟨p, 0, none⟩)] 26)))
  clear hint
  refine (callsIn_wide (n := 3)).1 ?_
  refine callsIn_of_wp_marks Try.func32 rfl trivial ?_ rfl
  simp only [Try.ntmps32, List.size_toArray, List.length_cons, List.length_nil, Nat.reduceAdd, Nat.reduceSub, Array.replicate_succ, Array.replicate_zero, List.push_toArray, List.append_toArray, List.nil_append, List.cons_append]
  gi_upto_region 5 with (first
    | (refine ⟨trivial, ?_⟩; gi_at_call 48; refine (callsIn_wide.2 (allStr_any p _)).mono ?_; rintro e w' ⟨rfl, rfl⟩)
    | (refine ⟨trivial, ?_⟩; gi_at_call 28; refine (callsIn_wide.2 HC.out).mono ?_; rintro e w1 ⟨⟨i, rfl⟩, hc1⟩; have HC1 := hide hc1.out; clear hc1))
  obtain ⟨n1, ao1, cap1, hI1, hn1, hO1, hA1⟩ := HC1.out
  have HO1 : Hid (Only (foot p m ao) w w1) := (Only.of_below (((Below.refl _ w).alloc (Nat.le_refl _) _).alloc (by simp) _) _).trans hO1
  have hws : w.heap.size + 1 < w1.heap.size := by have := hO1.size; rw [World.size_alloc, World.size_alloc] at this; omega
  have hnf : ∀ q, w.heap.size ≤ q → ¬ foot p m ao q := by
    rintro q hq (e | e | ⟨a, ha, e⟩)
    · omega
    · omega
    · have := halt a ha; omega
  have hbs1 : Boxed w1 (w.heap.size + 1) 26 (.pointer (some ⟨p, 0, none⟩)) := by
    show w1.heap[_]? = _
    rw [hO1.block (w.heap.size + 1) (by rw [World.size_alloc, World.size_alloc]; omega) (hnf _ (by omega))]
    have := heap_alloc_new (w.alloc (.cells #[.int .i64 z] 3)) (.cells #[.pointer (some ⟨p, 0, none⟩)] 26)
    rwa [World.size_alloc] at this
  have hbn1 : Boxed w1 w.heap.size 3 (.int .i64 z) := by
    show w1.heap[_]? = _
    rw [hO1.block w.heap.size (by rw [World.size_alloc, World.size_alloc]; omega) (hnf _ (Nat.le_refl _)), Below.heap_alloc _ _ _ (by rw [World.size_alloc]; omega)]
    exact heap_alloc_new w _
  have HI1 := hide hI1
  have HCS : Hid (IntSaid w p m ao N qs w1) := ⟨n1, ao1, cap1, hI1, hn1, HO1.out, fun a ha => (hA1 a ha).imp id (fun e => by rw [World.size_alloc, World.size_alloc] at e; omega)⟩
  have hft := fun q hq => (hI1.foot_lt (by decide) (k := q) hq).1
  clear HC1 hO1 hA1 hI1
  gi_upto_region 8 with fail
  obtain ⟨B, hBw⟩ : ∃ B, B = w1.heap.size := ⟨_, rfl⟩
  have hsz0 : (((w1.alloc (.cells #[.slice none 0 0] 22)).alloc (.cells #[.slice none 0 0] 22)).alloc (.cells #[.bool true] 4)).heap.size = B + 3 := by simp [hBw]
  have hB0 : Below w1.heap.size w1 (((w1.alloc (.cells #[.slice none 0 0] 22)).alloc (.cells #[.slice none 0 0] 22)).alloc (.cells #[.bool true] 4)) := (((Below.refl _ _).alloc (Nat.le_refl _) _).alloc (by simp) _).alloc (by simp; omega) _
  have bx1 : Boxed (((w1.alloc (.cells #[.slice none 0 0] 22)).alloc (.cells #[.slice none 0 0] 22)).alloc (.cells #[.bool true] 4)) B 22 (.slice none 0 0) := by rw [hBw]; exact ((Boxed.new w1 _ _).alloc _).alloc _
  have bx2 : Boxed (((w1.alloc (.cells #[.slice none 0 0] 22)).alloc (.cells #[.slice none 0 0] 22)).alloc (.cells #[.bool true] 4)) (B + 1) 22 (.slice none 0 0) := by
    have := (Boxed.new (w1.alloc (.cells #[.slice none 0 0] 22)) 22 (.slice none 0 0)).alloc (.cells #[.bool true] 4)
    rw [World.size_alloc, ← hBw] at this; exact this
  have bx3 : Boxed (((w1.alloc (.cells #[.slice none 0 0] 22)).alloc (.cells #[.slice none 0 0] 22)).alloc (.cells #[.bool true] 4)) (B + 2) 4 (.bool true) := by
    have := Boxed.new ((w1.alloc (.cells #[.slice none 0 0] 22)).alloc (.cells #[.slice none 0 0] 22)) 4 (.bool true)
    rw [World.size_alloc, World.size_alloc, ← hBw] at this; exact this
  have e1 : w1.heap.size + 1 = B + 1 := by omega
  have e2 : w1.heap.size + 1 + 1 = B + 2 := by omega
  simp only [e2, e1, ← hBw]
  clear e1 e2
  generalize (((w1.alloc (.cells #[.slice none 0 0] 22)).alloc (.cells #[.slice none 0 0] 22)).alloc (.cells #[.bool true] 4)) = W0 at *
  rw [← hBw] at hB0 hws
  have HBW := hide hBw
  have hB0s : B ≤ W0.heap.size := by omega
  clear hBw
  have hbn0 : Boxed W0 w.heap.size 3 (.int .i64 z) := (hB0.block _ (by omega)).trans hbn1
  have hcn0 := hbn0.cell
  gi_wp2
  refine wpIn_rangeFunc_ownF rfl (by omega) (gf := 71) (lb := #[.pointer (some ⟨w.heap.size + 1, 0, none⟩)]) rfl trivial (enters_of Try.func71 (by kernel_rfl) rfl)
    (allStr_stops 2 (by omega) (n₀ := B) W0 (HI1.out.grow (by rw [← HBW.out]; exact hB0)) (by omega) hB0s (by rw [HBW.out]; exact hft _ (.inl rfl)) (by rw [HBW.out]; exact hft _ (.inr (.inl rfl))) (fun a e => by rw [HBW.out]; exact hft _ (.inr (.inr ⟨a, e, rfl⟩))) ((hB0.block _ (by omega)).trans hbs1)) kpI_t (kpI_b hB0s) (Below.refl _ _) (fun _ => rfl)
    (fun pre W => Coll1 w1 B (pre.map (·.2)) W ∧ (Boxed W (B + 1) 22 (.slice none 0 0) ∧ (Boxed W (B + 2) 4 (.bool (okI pre)) ∧ ((pre.length : Int) < z ∧ Below B w1 W))))
    (fun c pre W => c = .exit 0 ∧ ((pre.length : Int) = z ∧ (Coll1 w1 B (pre.map (·.2)) W ∧ (Boxed W (B + 1) 22 (.slice none 0 0) ∧ (Boxed W (B + 2) 4 (.bool (okI pre)) ∧ Below B w1 W)))))
    (OwnFrom.and (Own.from (coll1_own w1 B (fun pre : List (Nat × ByteArray) => pre.map (·.2))) _) (OwnFrom.and (Own.from (boxed_own (B + 1) 22 (fun _ => .slice none 0 0)) _) (OwnFrom.and (Own.from (boxed_own (B + 2) 4 (fun pre => .bool (okI pre))) _) (OwnFrom.and (fun _ _ _ _ hs _ _ => hs) (ownFrom_below (by rw [HBW.out]; exact Nat.le_refl _) hB0s)))))
    (fun c => OwnFrom.and (fun _ _ _ _ hs _ _ => hs) (OwnFrom.and (fun _ _ _ _ hs _ _ => hs) (OwnFrom.and (Own.from (coll1_own w1 B (fun pre : List (Nat × ByteArray) => pre.map (·.2))) _) (OwnFrom.and (Own.from (boxed_own (B + 1) 22 (fun _ => .slice none 0 0)) _) (OwnFrom.and (Own.from (boxed_own (B + 2) 4 (fun pre => .bool (okI pre))) _) (ownFrom_below (by rw [HBW.out]; exact Nat.le_refl _) hB0s))))))
    ⟨⟨_, bx1, World.ownsRow_nil _ _ _ _, trivial⟩, bx2, bx3, hz, hB0⟩
    ?a1 ?assign ?body ?done ?stop
  case assign =>
    intro l x W K hK
    dsimp only [encS2]
    gi_wp2
    exact hK
  case body =>
    rintro l pre x W ⟨⟨v, hbx, hrow, -⟩, hb2x, hb3, hlz, hB⟩ hltp
    obtain ⟨a, cp, rfl⟩ := own_shapeS hrow
    have hpl : (pre.map (·.2)).length = pre.length := by simp
    have hsz : B ≤ W.heap.size := by have := hB.size; have := HBW.out; omega
    rw [hpl] at hbx hrow
    have hok := okI_snoc pre x
    have hbn : Boxed W w.heap.size 3 (.int .i64 z) := (hB.block _ (by omega)).trans hbn1
    have hc0 := hbx.cell
    have hc3 := hb3.cell
    have hf3 := hb3.frozen
    have HB3 := hide hb3
    have HOk := hide hok
    have HBX := hide hbx
    have HRW := hide hrow
    clear hok hb3 hbx hrow
    cases hO : okI pre with
    | true =>
      rw [hO] at hc3 HB3 HOk
      by_cases hbrk : z ≤ (pre.length : Int) + 1
      · gi_wp2_with (gi_at_builtin; refine wpListIn_append_own _ rfl _ _ 22 rfl w1.heap.size 9 i0 (.string ⟨#[]⟩) 1 16 Try.underlying22 hi hz0 hz1 hz2 rfl (by decide) (.slice a pre.length cp) pre.length ((pre.map (·.2)).map Value.string) rfl ((ownsRow_setCell_other HRW.out (a := ⟨B + 2, 0, none⟩) (fun e => HB3.out.not_row (by decide) HRW.out e.symm) _).alloc _) ⟨W.heap.size, 0, none⟩ 1 1 [.string x.2] rfl rfl (by have := cell_one_new (W.setCell ⟨B + 2, 0, none⟩ (.bool ((x.1 : Int) == (pre.length : Int)))) (.string x.2) 9; rw [size_setCellS] at this; exact this) (by simp [Value.oneCell']) (by unfold maxLen; omega) (by omega) (by rw [World.size_alloc, size_setCellS]; have := HBW.out; omega) ?_; intro v2 w2 hown2 hgrow2 _; obtain ⟨g2, cap2, rfl⟩ := ownsRow_succ hown2; obtain ⟨hv1, hv2, hr2, hk2, hb2⟩ := app2 (n₀ := B) (HBX.out.other (B' := B + 2) (by omega) (.bool ((x.1 : Int) == (pre.length : Int)))) (by decide) (ownsRow_setCell_other HRW.out (a := ⟨B + 2, 0, none⟩) (fun e => HB3.out.not_row (by decide) HRW.out e.symm) (.bool ((x.1 : Int) == (pre.length : Int)))) (by rw [size_setCellS]; omega) (by rw [HBW.out]; exact Nat.le_refl _) (Nat.le_refl _) hown2 hgrow2; have hc1 := hv1.cell; have hf1 := hv1.frozen; have hbb := ((Below.refl B W).setCell (p := ⟨B + 2, 0, none⟩) (show B ≤ B + 2 by omega) (.bool ((x.1 : Int) == (pre.length : Int)))).trans hb2; have hc4 := hv2.cell; have hbn4 : Boxed (w2.setCell ⟨B, 0, none⟩ (.slice (some ⟨g2, 0, none⟩) (pre.length + 1) cap2)) w.heap.size 3 (.int .i64 z) := (hbb.block _ (by omega)).trans hbn; have hcn4 := hbn4.cell)
        have hb3a := boxed_app (Bi := B) (v' := .slice (some ⟨g2, 0, none⟩) (pre.length + 1) cap2) (HB3.out.set (.bool ((x.1 : Int) == (pre.length : Int)))) (by decide) (by omega) (ownsRow_setCell_other HRW.out (a := ⟨B + 2, 0, none⟩) (fun e => HB3.out.not_row (by decide) HRW.out e.symm) (.bool ((x.1 : Int) == (pre.length : Int)))) hgrow2
        have hb2a := boxed_app (Bi := B) (v' := .slice (some ⟨g2, 0, none⟩) (pre.length + 1) cap2) (hb2x.other (B' := B + 2) (by omega) (.bool ((x.1 : Int) == (pre.length : Int)))) (by decide) (by omega) (ownsRow_setCell_other HRW.out (a := ⟨B + 2, 0, none⟩) (fun e => HB3.out.not_row (by decide) HRW.out e.symm) (.bool ((x.1 : Int) == (pre.length : Int)))) hgrow2
        refine ⟨(KeepsOthers.setCell _ _ _).trans hk2, rfl, by rw [List.length_append]; simp; omega, ⟨_, hv2, ?_, trivial⟩, hb2a, ?_, ?_⟩
        · rw [List.map_append, List.map_append, List.length_append, hpl]; exact hr2
        · rw [HOk.out]; exact hb3a
        · exact hB.trans hbb
      · gi_wp2_with (gi_at_builtin; refine wpListIn_append_own _ rfl _ _ 22 rfl w1.heap.size 9 i0 (.string ⟨#[]⟩) 1 16 Try.underlying22 hi hz0 hz1 hz2 rfl (by decide) (.slice a pre.length cp) pre.length ((pre.map (·.2)).map Value.string) rfl ((ownsRow_setCell_other HRW.out (a := ⟨B + 2, 0, none⟩) (fun e => HB3.out.not_row (by decide) HRW.out e.symm) _).alloc _) ⟨W.heap.size, 0, none⟩ 1 1 [.string x.2] rfl rfl (by have := cell_one_new (W.setCell ⟨B + 2, 0, none⟩ (.bool ((x.1 : Int) == (pre.length : Int)))) (.string x.2) 9; rw [size_setCellS] at this; exact this) (by simp [Value.oneCell']) (by unfold maxLen; omega) (by omega) (by rw [World.size_alloc, size_setCellS]; have := HBW.out; omega) ?_; intro v2 w2 hown2 hgrow2 _; obtain ⟨g2, cap2, rfl⟩ := ownsRow_succ hown2; obtain ⟨hv1, hv2, hr2, hk2, hb2⟩ := app2 (n₀ := B) (HBX.out.other (B' := B + 2) (by omega) (.bool ((x.1 : Int) == (pre.length : Int)))) (by decide) (ownsRow_setCell_other HRW.out (a := ⟨B + 2, 0, none⟩) (fun e => HB3.out.not_row (by decide) HRW.out e.symm) (.bool ((x.1 : Int) == (pre.length : Int)))) (by rw [size_setCellS]; omega) (by rw [HBW.out]; exact Nat.le_refl _) (Nat.le_refl _) hown2 hgrow2; have hc1 := hv1.cell; have hf1 := hv1.frozen; have hbb := ((Below.refl B W).setCell (p := ⟨B + 2, 0, none⟩) (show B ≤ B + 2 by omega) (.bool ((x.1 : Int) == (pre.length : Int)))).trans hb2; have hc4 := hv2.cell; have hbn4 : Boxed (w2.setCell ⟨B, 0, none⟩ (.slice (some ⟨g2, 0, none⟩) (pre.length + 1) cap2)) w.heap.size 3 (.int .i64 z) := (hbb.block _ (by omega)).trans hbn; have hcn4 := hbn4.cell)
        have hb3a := boxed_app (Bi := B) (v' := .slice (some ⟨g2, 0, none⟩) (pre.length + 1) cap2) (HB3.out.set (.bool ((x.1 : Int) == (pre.length : Int)))) (by decide) (by omega) (ownsRow_setCell_other HRW.out (a := ⟨B + 2, 0, none⟩) (fun e => HB3.out.not_row (by decide) HRW.out e.symm) (.bool ((x.1 : Int) == (pre.length : Int)))) hgrow2
        have hb2a := boxed_app (Bi := B) (v' := .slice (some ⟨g2, 0, none⟩) (pre.length + 1) cap2) (hb2x.other (B' := B + 2) (by omega) (.bool ((x.1 : Int) == (pre.length : Int)))) (by decide) (by omega) (ownsRow_setCell_other HRW.out (a := ⟨B + 2, 0, none⟩) (fun e => HB3.out.not_row (by decide) HRW.out e.symm) (.bool ((x.1 : Int) == (pre.length : Int)))) hgrow2
        refine ⟨(KeepsOthers.setCell _ _ _).trans hk2, ⟨hbb, fun v t hv => (hbb.block _ (by omega)).trans hv⟩, ⟨_, hv2, ?_, trivial⟩, hb2a, ?_, by rw [List.length_append]; simp; omega, hB.trans hbb⟩
        · rw [List.map_append, List.map_append, List.length_append, hpl]; exact hr2
        · rw [HOk.out]; exact hb3a
    | false =>
      rw [hO] at hc3 HB3 HOk
      by_cases hbrk : z ≤ (pre.length : Int) + 1
      · gi_wp2_with (gi_at_builtin; refine wpListIn_append_own _ rfl _ _ 22 rfl w1.heap.size 9 i0 (.string ⟨#[]⟩) 1 16 Try.underlying22 hi hz0 hz1 hz2 rfl (by decide) (.slice a pre.length cp) pre.length ((pre.map (·.2)).map Value.string) rfl ((ownsRow_setCell_other HRW.out (a := ⟨B + 2, 0, none⟩) (fun e => HB3.out.not_row (by decide) HRW.out e.symm) _).alloc _) ⟨W.heap.size, 0, none⟩ 1 1 [.string x.2] rfl rfl (by have := cell_one_new (W.setCell ⟨B + 2, 0, none⟩ (.bool false)) (.string x.2) 9; rw [size_setCellS] at this; exact this) (by simp [Value.oneCell']) (by unfold maxLen; omega) (by omega) (by rw [World.size_alloc, size_setCellS]; have := HBW.out; omega) ?_; intro v2 w2 hown2 hgrow2 _; obtain ⟨g2, cap2, rfl⟩ := ownsRow_succ hown2; obtain ⟨hv1, hv2, hr2, hk2, hb2⟩ := app2 (n₀ := B) (HBX.out.other (B' := B + 2) (by omega) (.bool false)) (by decide) (ownsRow_setCell_other HRW.out (a := ⟨B + 2, 0, none⟩) (fun e => HB3.out.not_row (by decide) HRW.out e.symm) (.bool false)) (by rw [size_setCellS]; omega) (by rw [HBW.out]; exact Nat.le_refl _) (Nat.le_refl _) hown2 hgrow2; have hc1 := hv1.cell; have hf1 := hv1.frozen; have hbb := ((Below.refl B W).setCell (p := ⟨B + 2, 0, none⟩) (show B ≤ B + 2 by omega) (.bool false)).trans hb2; have hc4 := hv2.cell; have hbn4 : Boxed (w2.setCell ⟨B, 0, none⟩ (.slice (some ⟨g2, 0, none⟩) (pre.length + 1) cap2)) w.heap.size 3 (.int .i64 z) := (hbb.block _ (by omega)).trans hbn; have hcn4 := hbn4.cell)
        have hb3a := boxed_app (Bi := B) (v' := .slice (some ⟨g2, 0, none⟩) (pre.length + 1) cap2) (HB3.out.set (.bool false)) (by decide) (by omega) (ownsRow_setCell_other HRW.out (a := ⟨B + 2, 0, none⟩) (fun e => HB3.out.not_row (by decide) HRW.out e.symm) (.bool false)) hgrow2
        have hb2a := boxed_app (Bi := B) (v' := .slice (some ⟨g2, 0, none⟩) (pre.length + 1) cap2) (hb2x.other (B' := B + 2) (by omega) (.bool false)) (by decide) (by omega) (ownsRow_setCell_other HRW.out (a := ⟨B + 2, 0, none⟩) (fun e => HB3.out.not_row (by decide) HRW.out e.symm) (.bool false)) hgrow2
        refine ⟨(KeepsOthers.setCell _ _ _).trans hk2, rfl, by rw [List.length_append]; simp; omega, ⟨_, hv2, ?_, trivial⟩, hb2a, ?_, ?_⟩
        · rw [List.map_append, List.map_append, List.length_append, hpl]; exact hr2
        · rw [HOk.out]; exact hb3a
        · exact hB.trans hbb
      · gi_wp2_with (gi_at_builtin; refine wpListIn_append_own _ rfl _ _ 22 rfl w1.heap.size 9 i0 (.string ⟨#[]⟩) 1 16 Try.underlying22 hi hz0 hz1 hz2 rfl (by decide) (.slice a pre.length cp) pre.length ((pre.map (·.2)).map Value.string) rfl ((ownsRow_setCell_other HRW.out (a := ⟨B + 2, 0, none⟩) (fun e => HB3.out.not_row (by decide) HRW.out e.symm) _).alloc _) ⟨W.heap.size, 0, none⟩ 1 1 [.string x.2] rfl rfl (by have := cell_one_new (W.setCell ⟨B + 2, 0, none⟩ (.bool false)) (.string x.2) 9; rw [size_setCellS] at this; exact this) (by simp [Value.oneCell']) (by unfold maxLen; omega) (by omega) (by rw [World.size_alloc, size_setCellS]; have := HBW.out; omega) ?_; intro v2 w2 hown2 hgrow2 _; obtain ⟨g2, cap2, rfl⟩ := ownsRow_succ hown2; obtain ⟨hv1, hv2, hr2, hk2, hb2⟩ := app2 (n₀ := B) (HBX.out.other (B' := B + 2) (by omega) (.bool false)) (by decide) (ownsRow_setCell_other HRW.out (a := ⟨B + 2, 0, none⟩) (fun e => HB3.out.not_row (by decide) HRW.out e.symm) (.bool false)) (by rw [size_setCellS]; omega) (by rw [HBW.out]; exact Nat.le_refl _) (Nat.le_refl _) hown2 hgrow2; have hc1 := hv1.cell; have hf1 := hv1.frozen; have hbb := ((Below.refl B W).setCell (p := ⟨B + 2, 0, none⟩) (show B ≤ B + 2 by omega) (.bool false)).trans hb2; have hc4 := hv2.cell; have hbn4 : Boxed (w2.setCell ⟨B, 0, none⟩ (.slice (some ⟨g2, 0, none⟩) (pre.length + 1) cap2)) w.heap.size 3 (.int .i64 z) := (hbb.block _ (by omega)).trans hbn; have hcn4 := hbn4.cell)
        have hb3a := boxed_app (Bi := B) (v' := .slice (some ⟨g2, 0, none⟩) (pre.length + 1) cap2) (HB3.out.set (.bool false)) (by decide) (by omega) (ownsRow_setCell_other HRW.out (a := ⟨B + 2, 0, none⟩) (fun e => HB3.out.not_row (by decide) HRW.out e.symm) (.bool false)) hgrow2
        have hb2a := boxed_app (Bi := B) (v' := .slice (some ⟨g2, 0, none⟩) (pre.length + 1) cap2) (hb2x.other (B' := B + 2) (by omega) (.bool false)) (by decide) (by omega) (ownsRow_setCell_other HRW.out (a := ⟨B + 2, 0, none⟩) (fun e => HB3.out.not_row (by decide) HRW.out e.symm) (.bool false)) hgrow2
        refine ⟨(KeepsOthers.setCell _ _ _).trans hk2, ⟨hbb, fun v t hv => (hbb.block _ (by omega)).trans hv⟩, ⟨_, hv2, ?_, trivial⟩, hb2a, ?_, by rw [List.length_append]; simp; omega, hB.trans hbb⟩
        · rw [List.map_append, List.map_append, List.length_append, hpl]; exact hr2
        · rw [HOk.out]; exact hb3a
  case done =>
    rintro D1 ys WC hD1 rfl ⟨⟨vS, b1C, hrowS, -⟩, b2C, b3C, hlz, hBC⟩ hK1
    rw [uptoS_map] at hrowS
    rw [okI_upto] at b3C
    have hXS : qs.take z.toNat = qs := List.take_of_length_le (by rw [uptoS_length] at hlz; omega)
    rw [← hXS] at hrowS
    have hBCs : B ≤ WC.heap.size := by have := hBC.size; have := HBW.out; omega
    obtain ⟨aS, cS, rfl⟩ := own_shapeS hrowS
    obtain ⟨nS, hnS⟩ : ∃ nS, nS = (qs.take z.toNat).length := ⟨_, rfl⟩
    rw [← hnS] at b1C hrowS
    have HNS : Hid ((qs.take z.toNat).length = nS) := hnS.symm
    have HRS : Hid (WC.ownsRow B 9 1 (.slice aS nS cS) nS ((qs.take z.toNat).map Value.string)) := by show World.ownsRow _ _ _ _ _ _ _; rw [HBW.out]; exact hrowS
    clear hnS hrowS hXS bx1 bx2 bx3
    gi_wp2

    refine wpIn_rangeFunc_ownF rfl (by omega) (gf := 71) (lb := #[.pointer (some ⟨w.heap.size + 1, 0, none⟩)]) rfl trivial (enters_of Try.func71 (by kernel_rfl) rfl)
      (allStr_stops 2 (by omega) (n₀ := B) WC (HI1.out.grow (by rw [← HBW.out]; exact hBC)) (by omega) hBCs (by rw [HBW.out]; exact hft _ (.inl rfl)) (by rw [HBW.out]; exact hft _ (.inr (.inl rfl))) (fun a e => by rw [HBW.out]; exact hft _ (.inr (.inr ⟨a, e, rfl⟩))) ((hBC.block _ (by omega)).trans hbs1)) kpI_t (kpI_b hBCs) (Below.refl _ _) (fun _ => rfl)
      (fun pre W => Coll1 WC (B + 1) (pre.map (·.2)) W ∧ (Boxed W (B + 2) 4 (.bool (okI pre)) ∧ Only (fun q => q = B + 1 ∨ q = B + 2) WC W))
      (fun _ _ _ => False)
      (OwnFrom.and (Own.from (coll1_own WC (B + 1) (fun pre : List (Nat × ByteArray) => pre.map (·.2))) _) (OwnFrom.and (Own.from (boxed_own (B + 2) 4 (fun pre => .bool (okI pre))) _) only_own))
      (fun _ _ _ _ _ hs _ _ => hs)
      ⟨⟨_, b2C, World.ownsRow_nil _ _ _ _, trivial⟩, b3C, Only.refl _ _⟩
      ?a2 ?assign2 ?body2 ?done2 ?stop2
    case assign2 =>
      intro l x W K hK
      dsimp only [encS2]
      gi_wp2
      exact hK
    case stop2 =>
      rintro D c pre W _ _ h _
      exact h.elim
    case body2 =>
      rintro l pre x W ⟨⟨v, hbx, hrow, -⟩, hb3, hO⟩ hltp
      obtain ⟨a, cp, rfl⟩ := own_shapeS hrow
      have hpl : (pre.map (·.2)).length = pre.length := by simp
      have hsz := hO.size
      rw [hpl] at hbx hrow
      have hok := okI_snoc pre x
      have hBW : Below B WC W := hO.below hBCs (by omega)
      have hc0 := hbx.cell
      have hc3 := hb3.cell
      have hf3 := hb3.frozen
      have HB3 := hide hb3
      have HOk := hide hok
      have HBX := hide hbx
      have HRW := hide hrow
      have HO := hide hO
      clear hok hb3 hbx hrow hO
      cases hO : okI pre with
      | true =>
        rw [hO] at hc3 HB3 HOk
        gi_wp2_with (gi_at_builtin; refine wpListIn_append_own _ rfl _ _ 22 rfl WC.heap.size 9 i0 (.string ⟨#[]⟩) 1 16 Try.underlying22 hi hz0 hz1 hz2 rfl (by decide) (.slice a pre.length cp) pre.length ((pre.map (·.2)).map Value.string) rfl ((ownsRow_setCell_other HRW.out (a := ⟨B + 2, 0, none⟩) (fun e => HB3.out.not_row (by decide) HRW.out e.symm) _).alloc _) ⟨W.heap.size, 0, none⟩ 1 1 [.string x.2] rfl rfl (by have := cell_one_new (W.setCell ⟨B + 2, 0, none⟩ (.bool ((x.1 : Int) == (pre.length : Int)))) (.string x.2) 9; rw [size_setCellS] at this; exact this) (by simp [Value.oneCell']) (by unfold maxLen; omega) (by omega) (by rw [World.size_alloc, size_setCellS]; omega) ?_; intro v2 w2 hown2 hgrow2 _; obtain ⟨g2, cap2, rfl⟩ := ownsRow_succ hown2; obtain ⟨hv1, hv2, hr2, hk2, hb2⟩ := app2 (n₀ := B) (HBX.out.other (B' := B + 2) (by omega) (.bool ((x.1 : Int) == (pre.length : Int)))) (by decide) (ownsRow_setCell_other HRW.out (a := ⟨B + 2, 0, none⟩) (fun e => HB3.out.not_row (by decide) HRW.out e.symm) (.bool ((x.1 : Int) == (pre.length : Int)))) (by rw [size_setCellS]; omega) (by omega) (by omega) hown2 hgrow2; have hc1 := hv1.cell; have hf1 := hv1.frozen)
        have hb3a := boxed_app (Bi := B + 1) (v' := .slice (some ⟨g2, 0, none⟩) (pre.length + 1) cap2) (HB3.out.set (.bool ((x.1 : Int) == (pre.length : Int)))) (by decide) (by omega) (ownsRow_setCell_other HRW.out (a := ⟨B + 2, 0, none⟩) (fun e => HB3.out.not_row (by decide) HRW.out e.symm) (.bool ((x.1 : Int) == (pre.length : Int)))) hgrow2
        refine ⟨(KeepsOthers.setCell _ _ _).trans hk2, ⟨((Below.refl B W).setCell (p := ⟨B + 2, 0, none⟩) (show B ≤ B + 2 by omega) _).trans hb2, fun v t hv => ?_⟩, ⟨_, hv2, ?_, trivial⟩, ?_, ?_⟩
        · exact (hb2.block _ (by omega)).trans ((((Below.refl B W).setCell (p := ⟨B + 2, 0, none⟩) (show B ≤ B + 2 by omega) _).block _ (by omega)).trans hv)
        · rw [List.map_append, List.map_append, List.length_append, hpl]; exact hr2
        · rw [HOk.out]; exact hb3a
        · exact only_app (HO.out.setCell (p := ⟨B + 2, 0, none⟩) (.inr rfl) _) (ownsRow_setCell_other HRW.out (a := ⟨B + 2, 0, none⟩) (fun e => HB3.out.not_row (by decide) HRW.out e.symm) (.bool ((x.1 : Int) == (pre.length : Int)))) (Nat.le_refl _) (.inl rfl) hgrow2
      | false =>
        rw [hO] at hc3 HB3 HOk
        gi_wp2_with (gi_at_builtin; refine wpListIn_append_own _ rfl _ _ 22 rfl WC.heap.size 9 i0 (.string ⟨#[]⟩) 1 16 Try.underlying22 hi hz0 hz1 hz2 rfl (by decide) (.slice a pre.length cp) pre.length ((pre.map (·.2)).map Value.string) rfl ((ownsRow_setCell_other HRW.out (a := ⟨B + 2, 0, none⟩) (fun e => HB3.out.not_row (by decide) HRW.out e.symm) _).alloc _) ⟨W.heap.size, 0, none⟩ 1 1 [.string x.2] rfl rfl (by have := cell_one_new (W.setCell ⟨B + 2, 0, none⟩ (.bool false)) (.string x.2) 9; rw [size_setCellS] at this; exact this) (by simp [Value.oneCell']) (by unfold maxLen; omega) (by omega) (by rw [World.size_alloc, size_setCellS]; omega) ?_; intro v2 w2 hown2 hgrow2 _; obtain ⟨g2, cap2, rfl⟩ := ownsRow_succ hown2; obtain ⟨hv1, hv2, hr2, hk2, hb2⟩ := app2 (n₀ := B) (HBX.out.other (B' := B + 2) (by omega) (.bool false)) (by decide) (ownsRow_setCell_other HRW.out (a := ⟨B + 2, 0, none⟩) (fun e => HB3.out.not_row (by decide) HRW.out e.symm) (.bool false)) (by rw [size_setCellS]; omega) (by omega) (by omega) hown2 hgrow2; have hc1 := hv1.cell; have hf1 := hv1.frozen)
        have hb3a := boxed_app (Bi := B + 1) (v' := .slice (some ⟨g2, 0, none⟩) (pre.length + 1) cap2) (HB3.out.set (.bool false)) (by decide) (by omega) (ownsRow_setCell_other HRW.out (a := ⟨B + 2, 0, none⟩) (fun e => HB3.out.not_row (by decide) HRW.out e.symm) (.bool false)) hgrow2
        refine ⟨(KeepsOthers.setCell _ _ _).trans hk2, ⟨((Below.refl B W).setCell (p := ⟨B + 2, 0, none⟩) (show B ≤ B + 2 by omega) _).trans hb2, fun v t hv => ?_⟩, ⟨_, hv2, ?_, trivial⟩, ?_, ?_⟩
        · exact (hb2.block _ (by omega)).trans ((((Below.refl B W).setCell (p := ⟨B + 2, 0, none⟩) (show B ≤ B + 2 by omega) _).block _ (by omega)).trans hv)
        · rw [List.map_append, List.map_append, List.length_append, hpl]; exact hr2
        · rw [HOk.out]; exact hb3a
        · exact only_app (HO.out.setCell (p := ⟨B + 2, 0, none⟩) (.inr rfl) _) (ownsRow_setCell_other HRW.out (a := ⟨B + 2, 0, none⟩) (fun e => HB3.out.not_row (by decide) HRW.out e.symm) (.bool false)) (Nat.le_refl _) (.inl rfl) hgrow2
    case done2 =>
      rintro D ys W hD rfl ⟨⟨v, hbx, hrow, -⟩, hb3, hO⟩ hK
      rw [uptoS_map] at hrow
      rw [okI_upto] at hb3
      have hb1 : Boxed W B 22 (.slice aS nS cS) := (hO.block B b1C.lt (by omega)).trans b1C
      have HRowS : Hid (W.ownsRow B 9 1 (.slice aS nS cS) nS ((qs.take z.toNat).map Value.string)) := by
        refine ⟨HRS.out.1, ?_⟩
        rcases HRS.out.2 with h0 | ⟨g, cap, cur, hv, hbase, hblk, rest⟩
        · exact .inl h0
        · refine .inr ⟨g, cap, cur, hv, hbase, ?_, rest⟩
          rw [hO.block g (Array.getElem?_eq_some_iff.1 hblk).1 (by
            rintro (e | e)
            · exact b2C.not_row (by decide) HRS.out (by rw [hv, e]; rfl)
            · exact b3C.not_row (by decide) HRS.out (by rw [hv, e]; rfl))]
          exact hblk
      have hcb := hbx.cell
      have hcb1 := hb1.cell
      have hcb3 := hb3.cell
      have HRow := hide hrow
      obtain ⟨a, cp, rfl⟩ := own_shapeS hrow
      generalize hq : qs.length = q at *
      have HQ := hide hq
      clear hq
      have hBF : Below B w1 W := hBC.trans (hO.below hBCs (by omega))
      have HBF : Hid (Below w1.heap.size w1 W) := by show Below _ _ _; rw [← HBW.out]; exact hBF
      have hDB : B ≤ D := by omega
      clear hrow
      gi_wp2
      gi_quiet (fail)
      gi_wp2
      have hKq : (W.drewN nq).heap[D]? = some (.deferred (some [])) := hK
      have HBQ : Hid (Below w1.heap.size w1 (W.drewN nq)) := HBF.out.trans (below_drewN _ _ _)
      have HR1 : Hid ((W.drewN nq).ownsRow w1.heap.size 9 1 (.slice aS nS cS) nS ((qs.take z.toNat).map Value.string)) := by show World.ownsRow _ _ _ _ _ _ _; rw [← HBW.out]; exact HRowS.out
      have HR2 : Hid ((W.drewN nq).ownsRow w1.heap.size 9 1 (.slice a q cp) q (qs.map Value.string)) := own_mono1 (show (W.drewN nq).ownsRow _ _ _ _ _ _ from HRow.out) (by rw [← HBW.out]; exact hBCs)
      have hD1x : w1.heap.size ≤ D := by rw [← HBW.out]; exact hDB
      have hsw : w.heap.size ≤ w1.heap.size := by have := HBW.out; omega
      have hD1l : D1 < WC.heap.size := (Array.getElem?_eq_some_iff.1 hK1).1
      have hK1q : (W.drewN nq).heap[D1]? = some (.deferred (some [])) := (hO.block D1 hD1l (by omega)).trans hK1
      have hK1p : ((W.drewN nq).putObj D (.deferred none)).heap[D1]? = some (.deferred (some [])) := by
        simp only [World.putObj]
        rw [Array.getElem?_setIfInBounds_ne (by omega)]
        exact hK1q
      have hD2 : w1.heap.size ≤ D1 := by have := HBW.out; omega
      have HBP := hide (HBQ.out.trans (belowK_b (w := w1) (Nat.le_refl _) _ D _ (.deferred none) hD1x hKq rfl rfl))
      have HP1 := hide (ownsRow_putObj HR1.out (.deferred none) hKq rfl)
      have HP2 := hide (ownsRow_putObj HR2.out (.deferred none) hKq rfl)
      refine ⟨by simp, .inl ⟨_, _, rfl, run_takeDeferred hKq, ?_⟩⟩
      refine ⟨by simp, .inl ⟨_, _, rfl, run_takeDeferred hK1p, ?_⟩⟩
      exact ⟨.tuple #[.slice aS nS cS, .slice a q cp, .bool true], by simp [results, Try.results32, go_sem], _, _, rfl, w1, HCS.out, ⟨by rw [HNS.out]; exact ownsRow_putObj HP1.out _ hK1p rfl, HBP.out.trans (belowK_b (w := w1) (Nat.le_refl _) _ D1 _ _ hD2 hK1p rfl rfl)⟩, ⟨by rw [HQ.out]; exact ownsRow_putObj HP2.out _ hK1p rfl, HBP.out.trans (belowK_b (w := w1) (Nat.le_refl _) _ D1 _ _ hD2 hK1p rfl rfl)⟩, hsw⟩

  case stop =>
    rintro D1 c pre WC hD1 ⟨kk, hkk, rfl⟩ ⟨rfl, hlz, ⟨vS, b1C, hrowS, -⟩, b2C, b3C, hBC⟩ hK1
    rw [uptoS_take qs hkk] at hrowS
    rw [okI_upto] at b3C
    rw [uptoS_length] at hlz
    have hXS : kk = z.toNat := by omega
    rw [hXS] at hrowS
    have hBCs : B ≤ WC.heap.size := by have := hBC.size; have := HBW.out; omega
    obtain ⟨aS, cS, rfl⟩ := own_shapeS hrowS
    obtain ⟨nS, hnS⟩ : ∃ nS, nS = (qs.take z.toNat).length := ⟨_, rfl⟩
    rw [← hnS] at b1C hrowS
    have HNS : Hid ((qs.take z.toNat).length = nS) := hnS.symm
    have HRS : Hid (WC.ownsRow B 9 1 (.slice aS nS cS) nS ((qs.take z.toNat).map Value.string)) := by show World.ownsRow _ _ _ _ _ _ _; rw [HBW.out]; exact hrowS
    clear hnS hrowS hXS bx1 bx2 bx3
    gi_wp2

    refine wpIn_rangeFunc_ownF rfl (by omega) (gf := 71) (lb := #[.pointer (some ⟨w.heap.size + 1, 0, none⟩)]) rfl trivial (enters_of Try.func71 (by kernel_rfl) rfl)
      (allStr_stops 2 (by omega) (n₀ := B) WC (HI1.out.grow (by rw [← HBW.out]; exact hBC)) (by omega) hBCs (by rw [HBW.out]; exact hft _ (.inl rfl)) (by rw [HBW.out]; exact hft _ (.inr (.inl rfl))) (fun a e => by rw [HBW.out]; exact hft _ (.inr (.inr ⟨a, e, rfl⟩))) ((hBC.block _ (by omega)).trans hbs1)) kpI_t (kpI_b hBCs) (Below.refl _ _) (fun _ => rfl)
      (fun pre W => Coll1 WC (B + 1) (pre.map (·.2)) W ∧ (Boxed W (B + 2) 4 (.bool (okI pre)) ∧ Only (fun q => q = B + 1 ∨ q = B + 2) WC W))
      (fun _ _ _ => False)
      (OwnFrom.and (Own.from (coll1_own WC (B + 1) (fun pre : List (Nat × ByteArray) => pre.map (·.2))) _) (OwnFrom.and (Own.from (boxed_own (B + 2) 4 (fun pre => .bool (okI pre))) _) only_own))
      (fun _ _ _ _ _ hs _ _ => hs)
      ⟨⟨_, b2C, World.ownsRow_nil _ _ _ _, trivial⟩, b3C, Only.refl _ _⟩
      ?a2 ?assign2 ?body2 ?done2 ?stop2
    case assign2 =>
      intro l x W K hK
      dsimp only [encS2]
      gi_wp2
      exact hK
    case stop2 =>
      rintro D c pre W _ _ h _
      exact h.elim
    case body2 =>
      rintro l pre x W ⟨⟨v, hbx, hrow, -⟩, hb3, hO⟩ hltp
      obtain ⟨a, cp, rfl⟩ := own_shapeS hrow
      have hpl : (pre.map (·.2)).length = pre.length := by simp
      have hsz := hO.size
      rw [hpl] at hbx hrow
      have hok := okI_snoc pre x
      have hBW : Below B WC W := hO.below hBCs (by omega)
      have hc0 := hbx.cell
      have hc3 := hb3.cell
      have hf3 := hb3.frozen
      have HB3 := hide hb3
      have HOk := hide hok
      have HBX := hide hbx
      have HRW := hide hrow
      have HO := hide hO
      clear hok hb3 hbx hrow hO
      cases hO : okI pre with
      | true =>
        rw [hO] at hc3 HB3 HOk
        gi_wp2_with (gi_at_builtin; refine wpListIn_append_own _ rfl _ _ 22 rfl WC.heap.size 9 i0 (.string ⟨#[]⟩) 1 16 Try.underlying22 hi hz0 hz1 hz2 rfl (by decide) (.slice a pre.length cp) pre.length ((pre.map (·.2)).map Value.string) rfl ((ownsRow_setCell_other HRW.out (a := ⟨B + 2, 0, none⟩) (fun e => HB3.out.not_row (by decide) HRW.out e.symm) _).alloc _) ⟨W.heap.size, 0, none⟩ 1 1 [.string x.2] rfl rfl (by have := cell_one_new (W.setCell ⟨B + 2, 0, none⟩ (.bool ((x.1 : Int) == (pre.length : Int)))) (.string x.2) 9; rw [size_setCellS] at this; exact this) (by simp [Value.oneCell']) (by unfold maxLen; omega) (by omega) (by rw [World.size_alloc, size_setCellS]; omega) ?_; intro v2 w2 hown2 hgrow2 _; obtain ⟨g2, cap2, rfl⟩ := ownsRow_succ hown2; obtain ⟨hv1, hv2, hr2, hk2, hb2⟩ := app2 (n₀ := B) (HBX.out.other (B' := B + 2) (by omega) (.bool ((x.1 : Int) == (pre.length : Int)))) (by decide) (ownsRow_setCell_other HRW.out (a := ⟨B + 2, 0, none⟩) (fun e => HB3.out.not_row (by decide) HRW.out e.symm) (.bool ((x.1 : Int) == (pre.length : Int)))) (by rw [size_setCellS]; omega) (by omega) (by omega) hown2 hgrow2; have hc1 := hv1.cell; have hf1 := hv1.frozen)
        have hb3a := boxed_app (Bi := B + 1) (v' := .slice (some ⟨g2, 0, none⟩) (pre.length + 1) cap2) (HB3.out.set (.bool ((x.1 : Int) == (pre.length : Int)))) (by decide) (by omega) (ownsRow_setCell_other HRW.out (a := ⟨B + 2, 0, none⟩) (fun e => HB3.out.not_row (by decide) HRW.out e.symm) (.bool ((x.1 : Int) == (pre.length : Int)))) hgrow2
        refine ⟨(KeepsOthers.setCell _ _ _).trans hk2, ⟨((Below.refl B W).setCell (p := ⟨B + 2, 0, none⟩) (show B ≤ B + 2 by omega) _).trans hb2, fun v t hv => ?_⟩, ⟨_, hv2, ?_, trivial⟩, ?_, ?_⟩
        · exact (hb2.block _ (by omega)).trans ((((Below.refl B W).setCell (p := ⟨B + 2, 0, none⟩) (show B ≤ B + 2 by omega) _).block _ (by omega)).trans hv)
        · rw [List.map_append, List.map_append, List.length_append, hpl]; exact hr2
        · rw [HOk.out]; exact hb3a
        · exact only_app (HO.out.setCell (p := ⟨B + 2, 0, none⟩) (.inr rfl) _) (ownsRow_setCell_other HRW.out (a := ⟨B + 2, 0, none⟩) (fun e => HB3.out.not_row (by decide) HRW.out e.symm) (.bool ((x.1 : Int) == (pre.length : Int)))) (Nat.le_refl _) (.inl rfl) hgrow2
      | false =>
        rw [hO] at hc3 HB3 HOk
        gi_wp2_with (gi_at_builtin; refine wpListIn_append_own _ rfl _ _ 22 rfl WC.heap.size 9 i0 (.string ⟨#[]⟩) 1 16 Try.underlying22 hi hz0 hz1 hz2 rfl (by decide) (.slice a pre.length cp) pre.length ((pre.map (·.2)).map Value.string) rfl ((ownsRow_setCell_other HRW.out (a := ⟨B + 2, 0, none⟩) (fun e => HB3.out.not_row (by decide) HRW.out e.symm) _).alloc _) ⟨W.heap.size, 0, none⟩ 1 1 [.string x.2] rfl rfl (by have := cell_one_new (W.setCell ⟨B + 2, 0, none⟩ (.bool false)) (.string x.2) 9; rw [size_setCellS] at this; exact this) (by simp [Value.oneCell']) (by unfold maxLen; omega) (by omega) (by rw [World.size_alloc, size_setCellS]; omega) ?_; intro v2 w2 hown2 hgrow2 _; obtain ⟨g2, cap2, rfl⟩ := ownsRow_succ hown2; obtain ⟨hv1, hv2, hr2, hk2, hb2⟩ := app2 (n₀ := B) (HBX.out.other (B' := B + 2) (by omega) (.bool false)) (by decide) (ownsRow_setCell_other HRW.out (a := ⟨B + 2, 0, none⟩) (fun e => HB3.out.not_row (by decide) HRW.out e.symm) (.bool false)) (by rw [size_setCellS]; omega) (by omega) (by omega) hown2 hgrow2; have hc1 := hv1.cell; have hf1 := hv1.frozen)
        have hb3a := boxed_app (Bi := B + 1) (v' := .slice (some ⟨g2, 0, none⟩) (pre.length + 1) cap2) (HB3.out.set (.bool false)) (by decide) (by omega) (ownsRow_setCell_other HRW.out (a := ⟨B + 2, 0, none⟩) (fun e => HB3.out.not_row (by decide) HRW.out e.symm) (.bool false)) hgrow2
        refine ⟨(KeepsOthers.setCell _ _ _).trans hk2, ⟨((Below.refl B W).setCell (p := ⟨B + 2, 0, none⟩) (show B ≤ B + 2 by omega) _).trans hb2, fun v t hv => ?_⟩, ⟨_, hv2, ?_, trivial⟩, ?_, ?_⟩
        · exact (hb2.block _ (by omega)).trans ((((Below.refl B W).setCell (p := ⟨B + 2, 0, none⟩) (show B ≤ B + 2 by omega) _).block _ (by omega)).trans hv)
        · rw [List.map_append, List.map_append, List.length_append, hpl]; exact hr2
        · rw [HOk.out]; exact hb3a
        · exact only_app (HO.out.setCell (p := ⟨B + 2, 0, none⟩) (.inr rfl) _) (ownsRow_setCell_other HRW.out (a := ⟨B + 2, 0, none⟩) (fun e => HB3.out.not_row (by decide) HRW.out e.symm) (.bool false)) (Nat.le_refl _) (.inl rfl) hgrow2
    case done2 =>
      rintro D ys W hD rfl ⟨⟨v, hbx, hrow, -⟩, hb3, hO⟩ hK
      rw [uptoS_map] at hrow
      rw [okI_upto] at hb3
      have hb1 : Boxed W B 22 (.slice aS nS cS) := (hO.block B b1C.lt (by omega)).trans b1C
      have HRowS : Hid (W.ownsRow B 9 1 (.slice aS nS cS) nS ((qs.take z.toNat).map Value.string)) := by
        refine ⟨HRS.out.1, ?_⟩
        rcases HRS.out.2 with h0 | ⟨g, cap, cur, hv, hbase, hblk, rest⟩
        · exact .inl h0
        · refine .inr ⟨g, cap, cur, hv, hbase, ?_, rest⟩
          rw [hO.block g (Array.getElem?_eq_some_iff.1 hblk).1 (by
            rintro (e | e)
            · exact b2C.not_row (by decide) HRS.out (by rw [hv, e]; rfl)
            · exact b3C.not_row (by decide) HRS.out (by rw [hv, e]; rfl))]
          exact hblk
      have hcb := hbx.cell
      have hcb1 := hb1.cell
      have hcb3 := hb3.cell
      have HRow := hide hrow
      obtain ⟨a, cp, rfl⟩ := own_shapeS hrow
      generalize hq : qs.length = q at *
      have HQ := hide hq
      clear hq
      have hBF : Below B w1 W := hBC.trans (hO.below hBCs (by omega))
      have HBF : Hid (Below w1.heap.size w1 W) := by show Below _ _ _; rw [← HBW.out]; exact hBF
      have hDB : B ≤ D := by omega
      clear hrow
      gi_wp2
      gi_quiet (fail)
      gi_wp2
      have hKq : (W.drewN nq).heap[D]? = some (.deferred (some [])) := hK
      have HBQ : Hid (Below w1.heap.size w1 (W.drewN nq)) := HBF.out.trans (below_drewN _ _ _)
      have HR1 : Hid ((W.drewN nq).ownsRow w1.heap.size 9 1 (.slice aS nS cS) nS ((qs.take z.toNat).map Value.string)) := by show World.ownsRow _ _ _ _ _ _ _; rw [← HBW.out]; exact HRowS.out
      have HR2 : Hid ((W.drewN nq).ownsRow w1.heap.size 9 1 (.slice a q cp) q (qs.map Value.string)) := own_mono1 (show (W.drewN nq).ownsRow _ _ _ _ _ _ from HRow.out) (by rw [← HBW.out]; exact hBCs)
      have hD1x : w1.heap.size ≤ D := by rw [← HBW.out]; exact hDB
      have hsw : w.heap.size ≤ w1.heap.size := by have := HBW.out; omega
      have hD1l : D1 < WC.heap.size := (Array.getElem?_eq_some_iff.1 hK1).1
      have hK1q : (W.drewN nq).heap[D1]? = some (.deferred (some [])) := (hO.block D1 hD1l (by omega)).trans hK1
      have hK1p : ((W.drewN nq).putObj D (.deferred none)).heap[D1]? = some (.deferred (some [])) := by
        simp only [World.putObj]
        rw [Array.getElem?_setIfInBounds_ne (by omega)]
        exact hK1q
      have hD2 : w1.heap.size ≤ D1 := by have := HBW.out; omega
      have HBP := hide (HBQ.out.trans (belowK_b (w := w1) (Nat.le_refl _) _ D _ (.deferred none) hD1x hKq rfl rfl))
      have HP1 := hide (ownsRow_putObj HR1.out (.deferred none) hKq rfl)
      have HP2 := hide (ownsRow_putObj HR2.out (.deferred none) hKq rfl)
      refine ⟨by simp, .inl ⟨_, _, rfl, run_takeDeferred hKq, ?_⟩⟩
      refine ⟨by simp, .inl ⟨_, _, rfl, run_takeDeferred hK1p, ?_⟩⟩
      exact ⟨.tuple #[.slice aS nS cS, .slice a q cp, .bool true], by simp [results, Try.results32, go_sem], _, _, rfl, w1, HCS.out, ⟨by rw [HNS.out]; exact ownsRow_putObj HP1.out _ hK1p rfl, HBP.out.trans (belowK_b (w := w1) (Nat.le_refl _) _ D1 _ _ hD2 hK1p rfl rfl)⟩, ⟨by rw [HQ.out]; exact ownsRow_putObj HP2.out _ hK1p rfl, HBP.out.trans (belowK_b (w := w1) (Nat.le_refl _) _ D1 _ _ hD2 hK1p rfl rfl)⟩, hsw⟩
end Go.Proofs.Ytbagefemhidbjaa
