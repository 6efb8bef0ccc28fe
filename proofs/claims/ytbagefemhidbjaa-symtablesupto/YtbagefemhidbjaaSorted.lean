/- (*Table).Sorted: a new list of all ids, in the order of their constants; nothing that was there is changed. -/
import Derived.Test.YtbagefemhidbjaaAllCon
import Derived.Test.YtbagefemhidbjaaSortedFn
import Derived.Test.YtbagefemhidbjaaSortIdsMem
namespace Go.Proofs.Ytbagefemhidbjaa
set_option linter.unusedSimpArgs false
set_option linter.unusedVariables false
open Go.RowKit Go.Maps Go.Shelf Go.Sort
attribute [local go_sem] Oper.semAt_some

theorem Try.infoI : (Try.prog.info? 3).map (fun i => (i.zero, i.size, i.bytes)) = some (some (.int .i64 0), 1, 8) := by kernel_rfl

/-- Behind an append that fits and a store into the box of the list all other blocks are as they were. -/
theorem app_keeps {W w2 : World} {tmp : Obj} {g Bi k : Nat} {v' : Value} (hg : (W.alloc tmp).grownBy w2 (some g)) (hk : k < W.heap.size) (h1 : k ≠ g) (h2 : k ≠ Bi) : (w2.setCell ⟨Bi, 0, none⟩ v').heap[k]? = W.heap[k]? := by
  rw [Below.heap_setCell _ _ _ _ h2, hg.block k (by simp; omega) (by simpa using h1)]
  exact Below.heap_alloc _ _ _ hk

/-- What the sort of the ids is asked to do. -/
def SortIdsSaid : Prop := ∀ (W : World) (base n₀ p m nn cap B g cap' : Nat) (ao : Option Addr) (ks : List Con), TableAt base W p m nn ao cap ks → ks.Nodup → ks.length ≤ 65536 →
    W.cell? ⟨B, 0, none⟩ = some (.pointer (some ⟨p, 0, none⟩)) → W.ownsRow n₀ 3 1 (.slice (some ⟨g, 0, none⟩) ks.length cap') ks.length ((List.range ks.length).map encI) → g ≠ B →
    Calls Try.prog 44 #[.slice (some ⟨g, 0, none⟩) ks.length cap', .func (.func 45) #[] #[.pointer (some ⟨B, 0, none⟩)]] W fun e w' =>
      e = .returned (.tuple #[]) ∧ Hid (w'.ownsRow n₀ 3 1 (.slice (some ⟨g, 0, none⟩) ks.length cap') ks.length ((sortL ks).map encI) ∧ Only (fun k => k = g) W w')

set_option maxRecDepth 100000 in
set_option maxHeartbeats 4000000 in
theorem sorted_any (HSS : SortIdsSaid) {base : Nat} {w : World} {p m nn cap : Nat} {ao : Option Addr} {ks : List Con} (hT : TableAt base w p m nn ao cap ks) (hnd : ks.Nodup) (hl : ks.length ≤ 65536) :
    Calls Try.prog 13 #[.pointer (some ⟨p, 0, none⟩)] w fun e w' => ∃ g, e = .returned (.slice (some ⟨g, 0, none⟩) ks.length ks.length) ∧ w'.ownsRow w.heap.size 3 1 (.slice (some ⟨g, 0, none⟩) ks.length ks.length) ks.length ((sortL ks).map encI) ∧ Below w.heap.size w w' := by
  obtain ⟨i0, hi, hz0, hz1, hz2⟩ := info_parts Try.infoI
  obtain ⟨len, hlen⟩ : ∃ len, len = ks.length := ⟨_, rfl⟩
  have HLN := hide hlen
  have hplt := hT.plt
  have HT := hide hT
  have HL0 : ∀ W, Below w.heap.size w W → Calls Try.prog 12 #[.pointer (some ⟨p, 0, none⟩)] W fun e w' => e = .returned (.int .i64 len) ∧ w' = W := fun W hb => by rw [hlen]; exact lenCon_any (hT.grow hb)
  rw [← hlen] at hl ⊢
  replace HL0 := hide HL0
  clear hlen hT
  refine (callsIn_wide (n := 3)).1 ?_
  refine callsIn_of_wp_marks Try.func13 rfl trivial ?_ rfl
  simp only [Try.ntmps13, List.size_toArray, List.length_cons, List.length_nil, Nat.reduceAdd, Nat.reduceSub, Array.replicate_succ, Array.replicate_zero, List.push_toArray, List.append_toArray, List.nil_append, List.cons_append]
  gi_wp2_with (first
    | (refine ⟨trivial, ?_⟩; gi_at_call 12; refine (callsIn_wide.2 (HL0.out _ ((Below.refl _ _).alloc (Nat.le_refl _) _))).mono ?_; rintro e w' ⟨rfl, hw'⟩; have hw' := hw'.symm; subst hw')
    | (gi_at_make; refine wpListIn_make_own _ rfl _ _ 45 rfl w.heap.size 3 i0 (.int .i64 0) 1 Try.underlying45 hi hz0 hz1 _ _ _ len rfl rfl rfl (by rw [hz2]; omega) (by unfold maxLen; omega) (by simp) ?_; intro w1 hrow1 hg1; rw [World.size_alloc] at hrow1; have bt1 : Boxed w1 w.heap.size 36 (.pointer (some ⟨p, 0, none⟩)) := (Boxed.new w _ _).kept hg1 (by simp); have ct1 := fun o => (bt1.alloc o).cell)
    | (refine ⟨trivial, ?_⟩; gi_at_call 43; refine (callsIn_wide.2 (allCon_any p _)).mono ?_; rintro e w' ⟨rfl, rfl⟩))
  have bi1 : Boxed (w1.alloc (.cells #[.slice (some ⟨w.heap.size + 1, 0, none⟩) 0 len] 45)) w1.heap.size 45 (.slice (some ⟨w.heap.size + 1, 0, none⟩) 0 len) := Boxed.new _ _ _
  have hsz1 : w.heap.size + 1 < w1.heap.size := (hrow1.lt _ rfl).2
  have hB1 : Below w.heap.size w w1 := ((Below.refl _ w).alloc (Nat.le_refl _) _).grown hg1 (by simp) (by simp)
  have hrow2 := (hrow1.alloc (.cells #[.slice (some ⟨w.heap.size + 1, 0, none⟩) 0 len] 45)).alloc (.cells #[.pointer (some ⟨p, 0, none⟩)] 87)
  have hB2 := (hB1.alloc (by omega) (.cells #[.slice (some ⟨w.heap.size + 1, 0, none⟩) 0 len] 45)).alloc (by simp; omega) (.cells #[.pointer (some ⟨p, 0, none⟩)] 87)
  have bs2 : Boxed ((w1.alloc (.cells #[.slice (some ⟨w.heap.size + 1, 0, none⟩) 0 len] 45)).alloc (.cells #[.pointer (some ⟨p, 0, none⟩)] 87)) (w1.heap.size + 1) 87 (.pointer (some ⟨p, 0, none⟩)) := by
    have := Boxed.new (w1.alloc (.cells #[.slice (some ⟨w.heap.size + 1, 0, none⟩) 0 len] 45)) 87 (.pointer (some ⟨p, 0, none⟩))
    rwa [World.size_alloc] at this
  have bi2 := bi1.alloc (.cells #[.pointer (some ⟨p, 0, none⟩)] 87)
  have bt2 := (bt1.alloc (.cells #[.slice (some ⟨w.heap.size + 1, 0, none⟩) 0 len] 45)).alloc (.cells #[.pointer (some ⟨p, 0, none⟩)] 87)
  have hsz2 : ((w1.alloc (.cells #[.slice (some ⟨w.heap.size + 1, 0, none⟩) 0 len] 45)).alloc (.cells #[.pointer (some ⟨p, 0, none⟩)] 87)).heap.size = w1.heap.size + 2 := by simp
  clear bi1 bt1 ct1 hrow1 hg1 hB1
  generalize ((w1.alloc (.cells #[.slice (some ⟨w.heap.size + 1, 0, none⟩) 0 len] 45)).alloc (.cells #[.pointer (some ⟨p, 0, none⟩)] 87)) = W0 at *
  have hT0 := HT.out.grow hB2
  have hft := fun k hk => (HT.out.foot_lt (by decide) (k := k) hk).1
  refine wpIn_rangeFunc_ownF rfl (by omega) (gf := 65) (lb := #[.pointer (some ⟨w1.heap.size + 1, 0, none⟩)]) rfl trivial (enters_of Try.func65 (by kernel_rfl) rfl)
    (allCon_stops 2 (by omega) (n₀ := w.heap.size) W0 hT0 (by rw [← HLN.out]; omega) hB2.size (hft _ (.inl rfl)) (hft _ (.inr (.inl rfl))) (fun a e => hft _ (.inr (.inr ⟨a, e, rfl⟩))) bs2) kpI_t (kpI_b hB2.size) (Below.refl _ _) (fun _ => rfl)
    (fun pre W => (∃ v, Boxed W w1.heap.size 45 v ∧ W.ownsRow w.heap.size 3 1 v pre.length (pre.map fun x => encI x.1) ∧ v = .slice (some ⟨w.heap.size + 1, 0, none⟩) pre.length len) ∧ (Boxed W w.heap.size 36 (.pointer (some ⟨p, 0, none⟩)) ∧ Below w.heap.size w W))
    (fun _ _ _ => False)
    (OwnFrom.and (Own.from (holdsRow_own w.heap.size w1.heap.size _ _ 1 (fun pre : List (Nat × Con) => pre.length) (fun pre => pre.map fun x => encI x.1) (fun pre v => v = .slice (some ⟨w.heap.size + 1, 0, none⟩) pre.length len)) _) (OwnFrom.and (Own.from (boxed_own _ _ _) _) (ownFrom_below (Nat.le_refl _) hB2.size)))
    (fun _ _ _ _ _ hs _ _ => hs)
    ⟨⟨_, bi2, hrow2, rfl⟩, bt2, hB2⟩
    ?a1 ?assign ?body ?done ?stop
  case assign =>
    intro l x W K hK
    dsimp only [encC]
    gi_wp2
    exact hK
  case stop =>
    rintro D c pre W _ _ h _
    exact h.elim
  case body =>
    rintro l pre x W ⟨⟨v, hbx, hrow, rfl⟩, hbt, hB⟩ hlt
    have hcx := fun o => (hbx.alloc o).cell
    have hcx0 := hbx.cell
    have hlt2 : pre.length < len := by have := HLN.out; omega
    gi_wp2_with (gi_at_builtin; refine wpListIn_append_fits _ rfl _ _ 45 rfl w.heap.size 3 i0 1 Try.underlying45 hi hz1 (w.heap.size + 1) pre.length len _ rfl (hrow.alloc _) ⟨W.heap.size, 0, none⟩ 1 1 [.int .i64 (x.1 : Int)] rfl rfl (cell_one_new _ _ _) (by simp [Value.oneCell']) (by omega) ?_; intro w2 hown2 hgrow2; obtain ⟨hv1, hv2, hr2, hk2, hb2⟩ := hbx.appended (by decide) hrow hB.size (by omega) hown2 hgrow2; have hc1 := hv1.cell; have hf1 := hv1.frozen)
    refine ⟨hk2, ⟨hb2, fun v t hv => ?_⟩, ⟨_, hv2, ?_, ?_⟩, ?_, hB.trans hb2⟩
    · exact (app_keeps hgrow2 (Array.getElem?_eq_some_iff.1 hv).1 (by omega) (by omega)).trans hv
    · rw [List.map_append, List.length_append]; exact hr2
    · rw [List.length_append]; rfl
    · exact (app_keeps hgrow2 hbt.lt (by omega) (by omega)).trans hbt
  case done =>
    rintro D ys W hD rfl ⟨⟨v, hbx, hrow, rfl⟩, hbt, hB⟩ hK
    rw [uptoC_length, ← HLN.out] at hbx hrow
    have hmap : (uptoC ks len).map (fun x => encI x.1) = (List.range len).map encI := by simp [uptoC]
    rw [hmap] at hrow
    have hcb := hbx.cell
    have HS := HSS W base w.heap.size p m nn cap w.heap.size (w.heap.size + 1) len ao ks (HT.out.grow hB) hnd (by rw [← HLN.out]; exact hl) hbt.cell (by rw [← HLN.out]; exact hrow) (by omega)
    rw [← HLN.out] at HS
    replace HS := hide HS
    gi_wp2_with (refine ⟨trivial, ?_⟩; gi_at_call 44; refine (callsIn_wide.2 HS.out).mono ?_; rintro e W3 ⟨rfl, hp3⟩; obtain ⟨hrow3, ho3⟩ := hp3.out; have hbx3 : Boxed W3 w1.heap.size 45 (.slice (some ⟨w.heap.size + 1, 0, none⟩) len len) := (ho3.block _ hbx.lt (by omega)).trans hbx; have hcb3 := hbx3.cell; have HO := hide ho3; clear ho3 hp3)
    have hDl : D < W.heap.size := (Array.getElem?_eq_some_iff.1 hK).1
    have hK3 : W3.heap[D]? = some (.deferred (some [])) := (HO.out.block D hDl (by omega)).trans hK
    have hB3 : Below w.heap.size w W3 := hB.trans (HO.out.below hB.size (fun k hk => by omega))
    refine ⟨by simp, .inl ⟨_, _, rfl, run_takeDeferred hK3, ?_⟩⟩
    exact ⟨_, results_tmp rfl _ _ _, _, rfl, ownsRow_putObj hrow3 _ hK3 rfl, hB3.trans (belowK_b (w := w) (Nat.le_refl _) W3 D _ _ (by omega) hK3 rfl rfl)⟩
end Go.Proofs.Ytbagefemhidbjaa
