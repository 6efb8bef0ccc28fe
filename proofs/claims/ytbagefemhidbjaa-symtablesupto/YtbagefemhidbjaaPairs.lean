/- edictlaw01's pairs: what All gives of a table, up to n of them. -/
import Derived.Test.YtbagefemhidbjaaAllCon
import Derived.Test.YtbagefemhidbjaaRTab4
import Derived.Sort.QuietIn
namespace Go.Proofs.Ytbagefemhidbjaa
set_option linter.unusedSimpArgs false
set_option linter.unusedVariables false
open Go.RowKit Go.Maps Go.Shelf
attribute [local go_sem] Oper.semAt_some

theorem func_someC (f : Nat) (cb : Array Value) (W : World) : (binOp .eql 89 (.func (.func f) #[] cb) .nilFunc).run Try.prog W = .ok (.bool false) W := by
  first | kernel_rfl | simp [binOp, go_sem] | rfl
theorem size_setCellT (W : World) (a : Addr) (v : Value) : (W.setCell a v).heap.size = W.heap.size := by simp [World.setCell]
def okJ (pre : List (Nat × Con)) : Bool := pre.map (·.1) == List.range pre.length
theorem okJ_upto (ks : List Con) (k : Nat) : okJ (uptoC ks k) = true := by
  unfold okJ
  rw [uptoC_length, beq_iff_eq]
  unfold uptoC
  rw [List.map_map]
  exact List.map_id _
theorem okJ_snoc (pre : List (Nat × Con)) (x : Nat × Con) : okJ (pre ++ [x]) = (okJ pre && ((x.1 : Int) == (pre.length : Int))) := by
  unfold okJ
  rw [List.map_append, List.length_append, List.length_singleton, List.range_succ]
  rw [Bool.eq_iff_iff]
  simp only [beq_iff_eq, Bool.and_eq_true]
  constructor
  · intro h
    obtain ⟨h1, h2⟩ := List.append_inj' h (by simp)
    simp only [List.map_cons, List.map_nil, List.cons.injEq, and_true] at h2
    exact ⟨h1, by omega⟩
  · rintro ⟨h1, h2⟩
    rw [h1, List.map_cons, List.map_nil, show x.1 = pre.length by omega]
theorem uptoC_take (ks : List Con) {k : Nat} (h : k ≤ ks.length) : (uptoC ks k).map (·.2) = ks.take k := by
  apply List.ext_getElem
  · simp [uptoC, h]
  · intro i h1 h2
    have : i < ks.length := by simp at h2; omega
    simp [uptoC, this]
def Coll3 (w1 : World) (B : Nat) (xs : List Con) (W : World) : Prop :=
  ∃ v, Boxed W B 32 v ∧ W.ownsRow w1.heap.size 34 3 v xs.length (xs.flatMap cells3) ∧ True
theorem coll3_own {β : Type} (w1 : World) (B : Nat) (f : β → List Con) : Own (fun s W => Coll3 w1 B (f s) W) :=
  holdsRow_own w1.heap.size B 32 34 3 (fun s => (f s).length) (fun s => (f s).flatMap cells3) (fun _ _ => True)
theorem own_shapeT {W : World} {b : Nat} {v : Value} {xs : List Con} (h : W.ownsRow b 34 3 v xs.length (xs.flatMap cells3)) : ∃ a cap, v = .slice a xs.length cap := by
  rcases h.2 with ⟨rfl, h0⟩ | ⟨g, cap, cur, rfl, _⟩
  · exact ⟨none, 0, by rw [h0]⟩
  · exact ⟨_, cap, rfl⟩
theorem boxed_appT {W w2 : World} {tmp : Obj} {v v' : Value} {B Bi : Nat} {t : TypeId} {u : Value} {xs : List Value} {n b : Nat} (h : Boxed W B t u) (ht : t ≠ 34) (hne : B ≠ Bi) (hrow : W.ownsRow b 34 3 v n xs) (hg : (W.alloc tmp).grownBy w2 v.ownBlock) : Boxed (w2.setCell ⟨Bi, 0, none⟩ v') B t u :=
  ((h.alloc tmp).kept hg (h.not_row ht hrow)).other hne v'
theorem ownsRow_putObj3 {W : World} {base k : Nat} {e : TypeId} {v : Value} {xs : List Value} {l : Nat} {o' : Obj} (h : W.ownsRow base e 3 v k xs) (hl : W.heap[l]? = some (.deferred (some []))) : (W.putObj l o').ownsRow base e 3 v k xs := ownsRow_putObj h o' hl rfl

/-- How many pairs tells. -/
def dP (n : Nat) (z : Int) : Nat := if 0 < z ∧ z ≤ n then z.toNat else n

set_option maxRecDepth 100000 in
set_option maxHeartbeats 8000000 in
theorem pairs_any {base : Nat} {w : World} {p m nn cap : Nat} {ao : Option Addr} {ks : List Con} (hT : TableAt base w p m nn ao cap ks) (hl : ks.length ≤ 65536) (z : Int) :
    Calls Try.prog 56 #[.pointer (some ⟨p, 0, none⟩), .int .i64 z] w fun e w' => ∃ v, e = .returned (.tuple #[v, .bool true]) ∧ CL w w' v (ks.take (dP ks.length z)) := by
  obtain ⟨i0, hi, hz0, hz1, hz2⟩ := info_parts Try.infoC3
  have hfs := func_someC
  have hplt := hT.plt
  have hft := fun q hq => (hT.foot_lt (by decide) (k := q) hq).1
  have HT := hide hT
  clear hT
  refine (callsIn_wide (n := 3)).1 ?_
  refine callsIn_of_wp_marks Try.func56 rfl trivial ?_ rfl
  simp only [Try.ntmps56, List.size_toArray, List.length_cons, List.length_nil, Nat.reduceAdd, Nat.reduceSub, Array.replicate_succ, Array.replicate_zero, List.push_toArray, List.append_toArray, List.nil_append, List.cons_append]
  gi_wp2_with (refine ⟨trivial, ?_⟩; gi_at_call 43; refine (callsIn_wide.2 (allCon_any p _)).mono ?_; rintro e w' ⟨rfl, rfl⟩)
  obtain ⟨W0, hW0⟩ : ∃ W0, W0 = ((((w.alloc (.cells #[.int .i64 z] 3)).alloc (.cells #[.slice none 0 0] 32)).alloc (.cells #[.bool true] 4)).alloc (.cells #[.pointer (some ⟨p, 0, none⟩)] 87)).alloc (.cells #[.pointer (some ⟨p, 0, none⟩)] 87) := ⟨_, rfl⟩
  have hsz0 : W0.heap.size = w.heap.size + 5 := by rw [hW0]; simp
  have hB0 : Below w.heap.size w W0 := by rw [hW0]; exact (((((Below.refl _ w).alloc (Nat.le_refl _) _).alloc (by simp) _).alloc (by simp; omega) _).alloc (by simp; omega) _).alloc (by simp; omega) _
  have bn0 : Boxed W0 w.heap.size 3 (.int .i64 z) := by rw [hW0]; exact ((((Boxed.new w _ _).alloc _).alloc _).alloc _).alloc _
  have bl0 : Boxed W0 (w.heap.size + 1) 32 (.slice none 0 0) := by
    have := (((Boxed.new (w.alloc (.cells #[.int .i64 z] 3)) 32 (.slice none 0 0)).alloc (.cells #[.bool true] 4)).alloc (.cells #[.pointer (some ⟨p, 0, none⟩)] 87)).alloc (.cells #[.pointer (some ⟨p, 0, none⟩)] 87)
    rw [World.size_alloc] at this; rw [hW0]; exact this
  have bi0 : Boxed W0 (w.heap.size + 2) 4 (.bool true) := by
    have := ((Boxed.new ((w.alloc (.cells #[.int .i64 z] 3)).alloc (.cells #[.slice none 0 0] 32)) 4 (.bool true)).alloc (.cells #[.pointer (some ⟨p, 0, none⟩)] 87)).alloc (.cells #[.pointer (some ⟨p, 0, none⟩)] 87)
    rw [World.size_alloc, World.size_alloc] at this; rw [hW0]; exact this
  have bs0 : Boxed W0 (w.heap.size + 4) 87 (.pointer (some ⟨p, 0, none⟩)) := by
    have := Boxed.new ((((w.alloc (.cells #[.int .i64 z] 3)).alloc (.cells #[.slice none 0 0] 32)).alloc (.cells #[.bool true] 4)).alloc (.cells #[.pointer (some ⟨p, 0, none⟩)] 87)) 87 (.pointer (some ⟨p, 0, none⟩))
    rw [World.size_alloc, World.size_alloc, World.size_alloc, World.size_alloc] at this; rw [hW0]; exact this
  rw [← hW0]
  clear hW0
  have hT0 := HT.out.grow hB0
  refine wpIn_rangeFunc_ownH rfl (by omega) (gf := 65) (lb := #[.pointer (some ⟨w.heap.size + 4, 0, none⟩)]) rfl trivial (enters_of Try.func65 (by kernel_rfl) rfl)
    (allCon_stops 2 (by omega) (n₀ := w.heap.size) W0 hT0 (by omega) hB0.size (hft _ (.inl rfl)) (hft _ (.inr (.inl rfl))) (fun a e => hft _ (.inr (.inr ⟨a, e, rfl⟩))) bs0) kpI_t (kpI_b hB0.size) (Below.refl _ _) (fun _ => rfl)
    (fun pre W => Coll3 w (w.heap.size + 1) (pre.map (·.2)) W ∧ (Boxed W w.heap.size 3 (.int .i64 z) ∧ (Boxed W (w.heap.size + 2) 4 (.bool (okJ pre)) ∧ (Boxed W (w.heap.size + 4) 87 (.pointer (some ⟨p, 0, none⟩)) ∧ ((z ≤ 0 ∨ (pre.length : Int) < z) ∧ Below w.heap.size w W)))))
    (fun c pre W => c = .exit 0 ∧ ((pre.length : Int) = z ∧ (0 < z ∧ (Coll3 w (w.heap.size + 1) (pre.map (·.2)) W ∧ (Boxed W (w.heap.size + 2) 4 (.bool (okJ pre)) ∧ Below w.heap.size w W)))))
    (OwnFrom.and (Own.from (coll3_own w (w.heap.size + 1) (fun pre : List (Nat × Con) => pre.map (·.2))) _) (OwnFrom.and (Own.from (boxed_own w.heap.size 3 (fun _ => .int .i64 z)) _) (OwnFrom.and (Own.from (boxed_own (w.heap.size + 2) 4 (fun pre => .bool (okJ pre))) _) (OwnFrom.and (Own.from (boxed_own (w.heap.size + 4) 87 (fun _ => .pointer (some ⟨p, 0, none⟩))) _) (OwnFrom.and (fun _ _ _ _ hs _ _ => hs) (ownFrom_below (Nat.le_refl _) hB0.size))))))
    (fun c => OwnFrom.and (fun _ _ _ _ hs _ _ => hs) (OwnFrom.and (fun _ _ _ _ hs _ _ => hs) (OwnFrom.and (fun _ _ _ _ hs _ _ => hs) (OwnFrom.and (Own.from (coll3_own w (w.heap.size + 1) (fun pre : List (Nat × Con) => pre.map (·.2))) _) (OwnFrom.and (Own.from (boxed_own (w.heap.size + 2) 4 (fun pre => .bool (okJ pre))) _) (ownFrom_below (Nat.le_refl _) hB0.size))))))
    ⟨⟨_, bl0, World.ownsRow_nil _ _ _ _, trivial⟩, bn0, bi0, bs0, (show z ≤ 0 ∨ ((0 : Nat) : Int) < z by omega), hB0⟩
    (fun x a' W => ∃ Bx, w.heap.size + 5 ≤ Bx ∧ conAt W Bx 0 x.2 ∧ a' = { tmps := #[.pointer (some ⟨p, 0, none⟩), .int .i64 z, undef, .pointer (some ⟨w.heap.size, 0, none⟩), .slice none 0 0, .bool false, .pointer (some ⟨w.heap.size + 1, 0, none⟩), .pointer (some ⟨w.heap.size + 2, 0, none⟩), .int .i64 (x.1 : Int), .pointer (some ⟨Bx, 0, none⟩), .pointer (some ⟨p, 0, none⟩), .pointer (some ⟨p, 0, none⟩), .pointer (some ⟨p, 0, none⟩), .func (.func 65) #[] #[.pointer (some ⟨w.heap.size + 3, 0, none⟩)], .bool false, .pointer (some ⟨p, 0, none⟩), .pointer (some ⟨p, 0, none⟩), .pointer (some ⟨p, 0, none⟩), .func (.func 65) #[] #[.pointer (some ⟨w.heap.size + 4, 0, none⟩)], .int .i64 (x.1 : Int), .agg #[.int .i64 x.2.k, .int .i64 x.2.n, .string x.2.s], undef, undef, undef, undef, undef, undef, undef, undef, undef, undef, undef, undef, undef, undef, undef, undef, undef], defers := [] })
    (fun x a' _ X Y row hs hg hr => by obtain ⟨Bx, h1, ⟨h2, h3, h4⟩, h5⟩ := hs; exact ⟨Bx, h1, ⟨cell_kept h2 hg (fun r e => (hr r e).2), cell_kept h3 hg (fun r e => (hr r e).2), cell_kept h4 hg (fun r e => (hr r e).2)⟩, h5⟩)
    ?assign ?body ?done ?stop
  case assign =>
    rintro l pre x W K ⟨⟨v, q1, q2, q3⟩, q4, q5, q6, q7, q8⟩ hK
    dsimp only [encC]
    gi_wp2
    exact hK _ _ ((KeepsOthers.alloc _ _).from _) ⟨(Below.refl _ W).alloc q8.size _, fun v t hv => (Below.heap_alloc W _ _ (Array.getElem?_eq_some_iff.1 hv).1).trans hv⟩ ⟨⟨v, q1.alloc _, q2.alloc _, q3⟩, q4.alloc _, q5.alloc _, q6.alloc _, q7, q8.alloc q8.size _⟩ ⟨W.heap.size, by have := q6.lt; omega, conAt_new W x.2 34, rfl⟩
  case body =>
    rintro l pre x a' W hlw ⟨r, hr⟩ ⟨⟨v, hbx, hrow, -⟩, hbn, hb3, hbs, hlz, hB⟩ ⟨Bx, hBx, ⟨d0, d1, d2⟩, rfl⟩ hltp
    obtain ⟨a, cp, rfl⟩ := own_shapeT hrow
    have hpl : (pre.map (·.2)).length = pre.length := by simp
    have hsz := hB.size
    rw [hpl] at hbx hrow
    have hok := okJ_snoc pre x
    have hc0 := hbx.cell
    have hc3 := hb3.cell
    have hf3 := hb3.frozen
    have hBl : Bx < W.heap.size := lt_of_cell d0
    have HB3 := hide hb3
    have HOk := hide hok
    have HBX := hide hbx
    have HRW := hide hrow
    clear hok hb3 hbx hrow
    cases hO : okJ pre with
    | true =>
      rw [hO] at hc3 HB3 HOk
      by_cases hbrk : z = (pre.length : Int) + 1
      · gi_wp2_with (gi_at_builtin; refine wpListIn_append_own _ rfl _ _ 32 rfl w.heap.size 34 i0 (.agg #[.int .i64 0, .int .i64 0, .string ⟨#[]⟩]) 3 32 Try.underlying32 hi hz0 hz1 hz2 rfl (by decide) (.slice a pre.length cp) pre.length ((pre.map (·.2)).flatMap cells3) rfl ((ownsRow_setCell_other HRW.out (a := ⟨w.heap.size + 2, 0, none⟩) (fun e => HB3.out.not_row (by decide) HRW.out e.symm) _).alloc _) ⟨W.heap.size, 0, none⟩ 1 1 (cells3 x.2) rfl rfl (by have := con_new (w := W.setCell ⟨w.heap.size + 2, 0, none⟩ (.bool ((x.1 : Int) == (pre.length : Int)))) (c := x.2); rw [size_setCellT] at this; exact this) (by simp [cells3, Value.oneCell']) (by unfold maxLen; omega) (by omega) (by rw [World.size_alloc, size_setCellT]; omega) ?_; intro v2 w2 hown2 hgrow2 _; obtain ⟨g2, cap2, rfl⟩ := ownsRow_succ hown2; obtain ⟨hv1, hv2, hr2, hk2, hb2⟩ := (HBX.out.other (B' := w.heap.size + 2) (by omega) (.bool ((x.1 : Int) == (pre.length : Int)))).appended (n₀ := w.heap.size) (by decide) (ownsRow_setCell_other HRW.out (a := ⟨w.heap.size + 2, 0, none⟩) (fun e => HB3.out.not_row (by decide) HRW.out e.symm) (.bool ((x.1 : Int) == (pre.length : Int)))) (by rw [size_setCellT]; omega) (by omega) hown2 hgrow2; have hc1 := hv1.cell; have hf1 := hv1.frozen; have hbb := ((Below.refl w.heap.size W).setCell (p := ⟨w.heap.size + 2, 0, none⟩) (show w.heap.size ≤ w.heap.size + 2 by omega) (.bool ((x.1 : Int) == (pre.length : Int)))).trans hb2; have hc4 := hv2.cell; have hnba := boxed_appT (Bi := w.heap.size + 1) (v' := .slice (some ⟨g2, 0, none⟩) (pre.length + 1) cap2) (hbn.other (B' := w.heap.size + 2) (by omega) (.bool ((x.1 : Int) == (pre.length : Int)))) (by decide) (by omega) (ownsRow_setCell_other HRW.out (a := ⟨w.heap.size + 2, 0, none⟩) (fun e => HB3.out.not_row (by decide) HRW.out e.symm) (.bool ((x.1 : Int) == (pre.length : Int)))) hgrow2; have hcn4 := hnba.cell)
        have hb3a := boxed_appT (Bi := w.heap.size + 1) (v' := .slice (some ⟨g2, 0, none⟩) (pre.length + 1) cap2) (HB3.out.set (.bool ((x.1 : Int) == (pre.length : Int)))) (by decide) (by omega) (ownsRow_setCell_other HRW.out (a := ⟨w.heap.size + 2, 0, none⟩) (fun e => HB3.out.not_row (by decide) HRW.out e.symm) (.bool ((x.1 : Int) == (pre.length : Int)))) hgrow2
        have hbsa := boxed_appT (Bi := w.heap.size + 1) (v' := .slice (some ⟨g2, 0, none⟩) (pre.length + 1) cap2) (hbs.other (B' := w.heap.size + 2) (by omega) (.bool ((x.1 : Int) == (pre.length : Int)))) (by decide) (by omega) (ownsRow_setCell_other HRW.out (a := ⟨w.heap.size + 2, 0, none⟩) (fun e => HB3.out.not_row (by decide) HRW.out e.symm) (.bool ((x.1 : Int) == (pre.length : Int)))) hgrow2
        have hb3b : Boxed (w2.setCell ⟨w.heap.size + 1, 0, none⟩ (.slice (some ⟨g2, 0, none⟩) (pre.length + 1) cap2)) (w.heap.size + 2) 4 (.bool (okJ (pre ++ [x]))) := by rw [HOk.out]; exact hb3a
        refine ⟨((KeepsOthers.setCell _ _ _).trans hk2).from _, rfl, by rw [List.length_append]; simp; omega, by omega, ⟨_, hv2, ?_, trivial⟩, hb3b, hB.trans hbb⟩
        rw [List.map_append]; exact holds_append (n := pre.length) (m := 1) (b := [x.2]) hpl.symm rfl (by simpa using hr2)
      · gi_wp2_with (gi_at_builtin; refine wpListIn_append_own _ rfl _ _ 32 rfl w.heap.size 34 i0 (.agg #[.int .i64 0, .int .i64 0, .string ⟨#[]⟩]) 3 32 Try.underlying32 hi hz0 hz1 hz2 rfl (by decide) (.slice a pre.length cp) pre.length ((pre.map (·.2)).flatMap cells3) rfl ((ownsRow_setCell_other HRW.out (a := ⟨w.heap.size + 2, 0, none⟩) (fun e => HB3.out.not_row (by decide) HRW.out e.symm) _).alloc _) ⟨W.heap.size, 0, none⟩ 1 1 (cells3 x.2) rfl rfl (by have := con_new (w := W.setCell ⟨w.heap.size + 2, 0, none⟩ (.bool ((x.1 : Int) == (pre.length : Int)))) (c := x.2); rw [size_setCellT] at this; exact this) (by simp [cells3, Value.oneCell']) (by unfold maxLen; omega) (by omega) (by rw [World.size_alloc, size_setCellT]; omega) ?_; intro v2 w2 hown2 hgrow2 _; obtain ⟨g2, cap2, rfl⟩ := ownsRow_succ hown2; obtain ⟨hv1, hv2, hr2, hk2, hb2⟩ := (HBX.out.other (B' := w.heap.size + 2) (by omega) (.bool ((x.1 : Int) == (pre.length : Int)))).appended (n₀ := w.heap.size) (by decide) (ownsRow_setCell_other HRW.out (a := ⟨w.heap.size + 2, 0, none⟩) (fun e => HB3.out.not_row (by decide) HRW.out e.symm) (.bool ((x.1 : Int) == (pre.length : Int)))) (by rw [size_setCellT]; omega) (by omega) hown2 hgrow2; have hc1 := hv1.cell; have hf1 := hv1.frozen; have hbb := ((Below.refl w.heap.size W).setCell (p := ⟨w.heap.size + 2, 0, none⟩) (show w.heap.size ≤ w.heap.size + 2 by omega) (.bool ((x.1 : Int) == (pre.length : Int)))).trans hb2; have hc4 := hv2.cell; have hnba := boxed_appT (Bi := w.heap.size + 1) (v' := .slice (some ⟨g2, 0, none⟩) (pre.length + 1) cap2) (hbn.other (B' := w.heap.size + 2) (by omega) (.bool ((x.1 : Int) == (pre.length : Int)))) (by decide) (by omega) (ownsRow_setCell_other HRW.out (a := ⟨w.heap.size + 2, 0, none⟩) (fun e => HB3.out.not_row (by decide) HRW.out e.symm) (.bool ((x.1 : Int) == (pre.length : Int)))) hgrow2; have hcn4 := hnba.cell)
        have hb3a := boxed_appT (Bi := w.heap.size + 1) (v' := .slice (some ⟨g2, 0, none⟩) (pre.length + 1) cap2) (HB3.out.set (.bool ((x.1 : Int) == (pre.length : Int)))) (by decide) (by omega) (ownsRow_setCell_other HRW.out (a := ⟨w.heap.size + 2, 0, none⟩) (fun e => HB3.out.not_row (by decide) HRW.out e.symm) (.bool ((x.1 : Int) == (pre.length : Int)))) hgrow2
        have hbsa := boxed_appT (Bi := w.heap.size + 1) (v' := .slice (some ⟨g2, 0, none⟩) (pre.length + 1) cap2) (hbs.other (B' := w.heap.size + 2) (by omega) (.bool ((x.1 : Int) == (pre.length : Int)))) (by decide) (by omega) (ownsRow_setCell_other HRW.out (a := ⟨w.heap.size + 2, 0, none⟩) (fun e => HB3.out.not_row (by decide) HRW.out e.symm) (.bool ((x.1 : Int) == (pre.length : Int)))) hgrow2
        have hb3b : Boxed (w2.setCell ⟨w.heap.size + 1, 0, none⟩ (.slice (some ⟨g2, 0, none⟩) (pre.length + 1) cap2)) (w.heap.size + 2) 4 (.bool (okJ (pre ++ [x]))) := by rw [HOk.out]; exact hb3a
        refine ⟨((KeepsOthers.setCell _ _ _).trans hk2).from _, ⟨hbb, fun v t hv => ?_⟩, ⟨_, hv2, ?_, trivial⟩, hnba, hb3b, hbsa, by rw [List.length_append]; simp; omega, hB.trans hbb⟩
        · have e1 : W.heap[w.heap.size + 4]? = _ := hbs
          have e2 : (w2.setCell ⟨w.heap.size + 1, 0, none⟩ (.slice (some ⟨g2, 0, none⟩) (pre.length + 1) cap2)).heap[w.heap.size + 4]? = _ := hbsa
          rw [e2, ← hv, e1]
        · rw [List.map_append]; exact holds_append (n := pre.length) (m := 1) (b := [x.2]) hpl.symm rfl (by simpa using hr2)
    | false =>
      rw [hO] at hc3 HB3 HOk
      by_cases hbrk : z = (pre.length : Int) + 1
      · gi_wp2_with (gi_at_builtin; refine wpListIn_append_own _ rfl _ _ 32 rfl w.heap.size 34 i0 (.agg #[.int .i64 0, .int .i64 0, .string ⟨#[]⟩]) 3 32 Try.underlying32 hi hz0 hz1 hz2 rfl (by decide) (.slice a pre.length cp) pre.length ((pre.map (·.2)).flatMap cells3) rfl ((ownsRow_setCell_other HRW.out (a := ⟨w.heap.size + 2, 0, none⟩) (fun e => HB3.out.not_row (by decide) HRW.out e.symm) _).alloc _) ⟨W.heap.size, 0, none⟩ 1 1 (cells3 x.2) rfl rfl (by have := con_new (w := W.setCell ⟨w.heap.size + 2, 0, none⟩ (.bool false)) (c := x.2); rw [size_setCellT] at this; exact this) (by simp [cells3, Value.oneCell']) (by unfold maxLen; omega) (by omega) (by rw [World.size_alloc, size_setCellT]; omega) ?_; intro v2 w2 hown2 hgrow2 _; obtain ⟨g2, cap2, rfl⟩ := ownsRow_succ hown2; obtain ⟨hv1, hv2, hr2, hk2, hb2⟩ := (HBX.out.other (B' := w.heap.size + 2) (by omega) (.bool false)).appended (n₀ := w.heap.size) (by decide) (ownsRow_setCell_other HRW.out (a := ⟨w.heap.size + 2, 0, none⟩) (fun e => HB3.out.not_row (by decide) HRW.out e.symm) (.bool false)) (by rw [size_setCellT]; omega) (by omega) hown2 hgrow2; have hc1 := hv1.cell; have hf1 := hv1.frozen; have hbb := ((Below.refl w.heap.size W).setCell (p := ⟨w.heap.size + 2, 0, none⟩) (show w.heap.size ≤ w.heap.size + 2 by omega) (.bool false)).trans hb2; have hc4 := hv2.cell; have hnba := boxed_appT (Bi := w.heap.size + 1) (v' := .slice (some ⟨g2, 0, none⟩) (pre.length + 1) cap2) (hbn.other (B' := w.heap.size + 2) (by omega) (.bool false)) (by decide) (by omega) (ownsRow_setCell_other HRW.out (a := ⟨w.heap.size + 2, 0, none⟩) (fun e => HB3.out.not_row (by decide) HRW.out e.symm) (.bool false)) hgrow2; have hcn4 := hnba.cell)
        have hb3a := boxed_appT (Bi := w.heap.size + 1) (v' := .slice (some ⟨g2, 0, none⟩) (pre.length + 1) cap2) (HB3.out.set (.bool false)) (by decide) (by omega) (ownsRow_setCell_other HRW.out (a := ⟨w.heap.size + 2, 0, none⟩) (fun e => HB3.out.not_row (by decide) HRW.out e.symm) (.bool false)) hgrow2
        have hbsa := boxed_appT (Bi := w.heap.size + 1) (v' := .slice (some ⟨g2, 0, none⟩) (pre.length + 1) cap2) (hbs.other (B' := w.heap.size + 2) (by omega) (.bool false)) (by decide) (by omega) (ownsRow_setCell_other HRW.out (a := ⟨w.heap.size + 2, 0, none⟩) (fun e => HB3.out.not_row (by decide) HRW.out e.symm) (.bool false)) hgrow2
        have hb3b : Boxed (w2.setCell ⟨w.heap.size + 1, 0, none⟩ (.slice (some ⟨g2, 0, none⟩) (pre.length + 1) cap2)) (w.heap.size + 2) 4 (.bool (okJ (pre ++ [x]))) := by rw [HOk.out]; exact hb3a
        refine ⟨((KeepsOthers.setCell _ _ _).trans hk2).from _, rfl, by rw [List.length_append]; simp; omega, by omega, ⟨_, hv2, ?_, trivial⟩, hb3b, hB.trans hbb⟩
        rw [List.map_append]; exact holds_append (n := pre.length) (m := 1) (b := [x.2]) hpl.symm rfl (by simpa using hr2)
      · gi_wp2_with (gi_at_builtin; refine wpListIn_append_own _ rfl _ _ 32 rfl w.heap.size 34 i0 (.agg #[.int .i64 0, .int .i64 0, .string ⟨#[]⟩]) 3 32 Try.underlying32 hi hz0 hz1 hz2 rfl (by decide) (.slice a pre.length cp) pre.length ((pre.map (·.2)).flatMap cells3) rfl ((ownsRow_setCell_other HRW.out (a := ⟨w.heap.size + 2, 0, none⟩) (fun e => HB3.out.not_row (by decide) HRW.out e.symm) _).alloc _) ⟨W.heap.size, 0, none⟩ 1 1 (cells3 x.2) rfl rfl (by have := con_new (w := W.setCell ⟨w.heap.size + 2, 0, none⟩ (.bool false)) (c := x.2); rw [size_setCellT] at this; exact this) (by simp [cells3, Value.oneCell']) (by unfold maxLen; omega) (by omega) (by rw [World.size_alloc, size_setCellT]; omega) ?_; intro v2 w2 hown2 hgrow2 _; obtain ⟨g2, cap2, rfl⟩ := ownsRow_succ hown2; obtain ⟨hv1, hv2, hr2, hk2, hb2⟩ := (HBX.out.other (B' := w.heap.size + 2) (by omega) (.bool false)).appended (n₀ := w.heap.size) (by decide) (ownsRow_setCell_other HRW.out (a := ⟨w.heap.size + 2, 0, none⟩) (fun e => HB3.out.not_row (by decide) HRW.out e.symm) (.bool false)) (by rw [size_setCellT]; omega) (by omega) hown2 hgrow2; have hc1 := hv1.cell; have hf1 := hv1.frozen; have hbb := ((Below.refl w.heap.size W).setCell (p := ⟨w.heap.size + 2, 0, none⟩) (show w.heap.size ≤ w.heap.size + 2 by omega) (.bool false)).trans hb2; have hc4 := hv2.cell; have hnba := boxed_appT (Bi := w.heap.size + 1) (v' := .slice (some ⟨g2, 0, none⟩) (pre.length + 1) cap2) (hbn.other (B' := w.heap.size + 2) (by omega) (.bool false)) (by decide) (by omega) (ownsRow_setCell_other HRW.out (a := ⟨w.heap.size + 2, 0, none⟩) (fun e => HB3.out.not_row (by decide) HRW.out e.symm) (.bool false)) hgrow2; have hcn4 := hnba.cell)
        have hb3a := boxed_appT (Bi := w.heap.size + 1) (v' := .slice (some ⟨g2, 0, none⟩) (pre.length + 1) cap2) (HB3.out.set (.bool false)) (by decide) (by omega) (ownsRow_setCell_other HRW.out (a := ⟨w.heap.size + 2, 0, none⟩) (fun e => HB3.out.not_row (by decide) HRW.out e.symm) (.bool false)) hgrow2
        have hbsa := boxed_appT (Bi := w.heap.size + 1) (v' := .slice (some ⟨g2, 0, none⟩) (pre.length + 1) cap2) (hbs.other (B' := w.heap.size + 2) (by omega) (.bool false)) (by decide) (by omega) (ownsRow_setCell_other HRW.out (a := ⟨w.heap.size + 2, 0, none⟩) (fun e => HB3.out.not_row (by decide) HRW.out e.symm) (.bool false)) hgrow2
        have hb3b : Boxed (w2.setCell ⟨w.heap.size + 1, 0, none⟩ (.slice (some ⟨g2, 0, none⟩) (pre.length + 1) cap2)) (w.heap.size + 2) 4 (.bool (okJ (pre ++ [x]))) := by rw [HOk.out]; exact hb3a
        refine ⟨((KeepsOthers.setCell _ _ _).trans hk2).from _, ⟨hbb, fun v t hv => ?_⟩, ⟨_, hv2, ?_, trivial⟩, hnba, hb3b, hbsa, by rw [List.length_append]; simp; omega, hB.trans hbb⟩
        · have e1 : W.heap[w.heap.size + 4]? = _ := hbs
          have e2 : (w2.setCell ⟨w.heap.size + 1, 0, none⟩ (.slice (some ⟨g2, 0, none⟩) (pre.length + 1) cap2)).heap[w.heap.size + 4]? = _ := hbsa
          rw [e2, ← hv, e1]
        · rw [List.map_append]; exact holds_append (n := pre.length) (m := 1) (b := [x.2]) hpl.symm rfl (by simpa using hr2)
  case done =>
    rintro D ys W hD rfl ⟨⟨v, hbx, hrow, -⟩, hbn, hb3, hbs, hlz, hB⟩ hK
    rw [uptoC_take ks (Nat.le_refl _)] at hrow
    rw [okJ_upto] at hb3
    rw [uptoC_length] at hlz
    have hXS : ks.take ks.length = ks.take (dP ks.length z) := by unfold dP; split <;> first | rfl | (congr 1; omega)
    rw [hXS] at hrow
    clear hXS
    have hcb := hbx.cell
    have hcb3 := hb3.cell
    have HRow := hide hrow
    obtain ⟨a, cp, rfl⟩ := own_shapeT hrow
    generalize hq : (ks.take (dP ks.length z)).length = q at *
    have HQ := hide hq
    have HBF := hide hB
    clear hq hrow
    gi_wp2
    gi_quiet (fail)
    gi_wp2
    have hKq : (W.drewN nq).heap[D]? = some (.deferred (some [])) := hK
    refine ⟨by simp, .inl ⟨_, _, rfl, run_takeDeferred hKq, ?_⟩⟩
    exact ⟨.tuple #[.slice a q cp, .bool true], by simp [results, Try.results56, go_sem], _, rfl, ⟨by show World.ownsRow _ _ _ _ _ _ _; rw [HQ.out]; exact ownsRow_putObj3 (show (W.drewN nq).ownsRow _ _ _ _ _ _ from HRow.out) hKq, (HBF.out.trans (below_drewN _ _ _)).trans (belowK_b (w := w) (Nat.le_refl _) _ D _ _ (by omega) hKq rfl rfl)⟩⟩
  case stop =>
    rintro D c pre W hD ⟨kk, hkk, rfl⟩ ⟨rfl, hlz, hz9, ⟨v, hbx, hrow, -⟩, hb3, hB⟩ hK
    rw [uptoC_take ks hkk] at hrow
    rw [okJ_upto] at hb3
    rw [uptoC_length] at hlz
    have hXS : kk = dP ks.length z := by unfold dP; rw [if_pos ⟨hz9, by omega⟩]; omega
    rw [hXS] at hrow
    clear hXS
    have hcb := hbx.cell
    have hcb3 := hb3.cell
    have HRow := hide hrow
    obtain ⟨a, cp, rfl⟩ := own_shapeT hrow
    generalize hq : (ks.take (dP ks.length z)).length = q at *
    have HQ := hide hq
    have HBF := hide hB
    clear hq hrow
    gi_wp2
    gi_quiet (fail)
    gi_wp2
    have hKq : (W.drewN nq).heap[D]? = some (.deferred (some [])) := hK
    refine ⟨by simp, .inl ⟨_, _, rfl, run_takeDeferred hKq, ?_⟩⟩
    exact ⟨.tuple #[.slice a q cp, .bool true], by simp [results, Try.results56, go_sem], _, rfl, ⟨by show World.ownsRow _ _ _ _ _ _ _; rw [HQ.out]; exact ownsRow_putObj3 (show (W.drewN nq).ownsRow _ _ _ _ _ _ from HRow.out) hKq, (HBF.out.trans (below_drewN _ _ _)).trans (belowK_b (w := w) (Nat.le_refl _) _ D _ _ (by omega) hKq rfl rfl)⟩⟩
end Go.Proofs.Ytbagefemhidbjaa
