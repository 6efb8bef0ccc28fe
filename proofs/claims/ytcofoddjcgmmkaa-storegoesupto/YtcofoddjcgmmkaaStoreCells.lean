/- What cellsOf answers. -/
import Derived.Test.YtcofoddjcgmmkaaProg
import Derived.Test.YtcofoddjcgmmkaaStoreAsk
import Derived.Test.YtcofoddjcgmmkaaRegionLast
import Derived.Laws.CopyOwn
import Derived.Test.YtcofoddjcgmmkaaIdsCut
namespace Go.Proofs.Ytcofoddjcgmmkaa
set_option linter.unusedSimpArgs false
set_option linter.unusedVariables false
open Go.RowKit Go.Maps

/-- A row as cells: its predicate, its args, zeros. -/
def cellsP (q : Int) (l : List Int) : List Int := q :: (l ++ List.replicate (8 - l.length) 0)
theorem cellsP_len {q : Int} {l : List Int} (h : l.length ≤ 8) : (cellsP q l).length = 9 := by simp [cellsP]; omega

abbrev zeros8 : List Value := [.int .i64 0, .int .i64 0, .int .i64 0, .int .i64 0, .int .i64 0, .int .i64 0, .int .i64 0, .int .i64 0]

theorem splice_cells (q : Int) {l : List Int} (h : l.length ≤ 8) : splice (.int .i64 q :: zeros8) 1 (ints l) = ints (cellsP q l) := by
  have e : zeros8 = List.replicate 8 (.int .i64 0) := rfl
  unfold splice cellsP
  rw [e]
  simp only [List.take_succ_cons, List.take_zero, List.length_map, List.map_cons, List.map_append, List.map_replicate]
  rw [show 1 + l.length = l.length + 1 from by omega, List.drop_succ_cons, List.drop_replicate]
  rfl

theorem results_box {P : Program} {fn : Func} {tmps : Array Value} {w : World} {a : Nat} {t : TypeId} {ad : Addr} {v : Value} (h1 : fn.results = #[.cell a t]) (h2 : tmps.getD a undef = .pointer (some ad)) (h3 : (loadVar t ad).run P w = .ok v w) : (results fn tmps).run P w = .ok v w := by
  have h4 : tmps[a]?.getD undef = .pointer (some ad) := by simpa using h2
  unfold results
  simp [h1, asAddr, h4, h3]

set_option maxRecDepth 100000 in
set_option maxHeartbeats 2000000 in
theorem cellsOf_any {w : World} {q : Int} {ao : Option Addr} {len cap : Nat} {l : List Int} (h : IsInts w ao len l) (hl : len ≤ 8) :
    Calls Try.prog 27 #[.agg #[.int .i64 q, .slice ao len cap]] w fun e w' => e = .returned (.agg (ints (cellsP q l)).toArray) ∧ Below w.heap.size w w' := by
  have HI := hide h
  have HL := hide hl
  clear h hl
  go_enter Try.func27, Try.ntmps27
  go_upto_region 2 with fail
  have hB : Below w.heap.size w (((w.alloc (.cells #[.int .i64 q, .slice ao len cap] 31)).alloc (.cells (.int .i64 0 :: zeros8).toArray 56)).alloc (.cells (.int .i64 q :: zeros8).toArray 56)) := (((Below.refl _ w).alloc (Nat.le_refl _) _).alloc (by simp) _).alloc (by simp <;> omega) _
  have h0 : (((w.alloc (.cells #[.int .i64 q, .slice ao len cap] 31)).alloc (.cells (.int .i64 0 :: zeros8).toArray 56)).alloc (.cells (.int .i64 q :: zeros8).toArray 56)).heap[w.heap.size]? = some (.cells #[.int .i64 q, .slice ao len cap] 31 (0, 0)) := by
    rw [Below.heap_alloc _ _ _ (by simp <;> omega), Below.heap_alloc _ _ _ (by simp)]; exact heap_alloc_new _ _
  have h1 : (((w.alloc (.cells #[.int .i64 q, .slice ao len cap] 31)).alloc (.cells (.int .i64 0 :: zeros8).toArray 56)).alloc (.cells (.int .i64 q :: zeros8).toArray 56)).heap[w.heap.size + 1]? = some (.cells (.int .i64 0 :: zeros8).toArray 56 (0, 0)) := by
    rw [Below.heap_alloc _ _ _ (by simp)]
    have := heap_alloc_new (w.alloc (.cells #[.int .i64 q, .slice ao len cap] 31)) (.cells (.int .i64 0 :: zeros8).toArray 56)
    simpa using this
  have h2 : (((w.alloc (.cells #[.int .i64 q, .slice ao len cap] 31)).alloc (.cells (.int .i64 0 :: zeros8).toArray 56)).alloc (.cells (.int .i64 q :: zeros8).toArray 56)).heap[w.heap.size + 1 + 1]? = some (.cells (.int .i64 q :: zeros8).toArray 56 (0, 0)) := by
    have := heap_alloc_new ((w.alloc (.cells #[.int .i64 q, .slice ao len cap] 31)).alloc (.cells (.int .i64 0 :: zeros8).toArray 56)) (.cells (.int .i64 q :: zeros8).toArray 56)
    simpa using this
  have HB := hide hB
  have H0 := hide h0
  have H1 := hide h1
  have H2 := hide h2
  clear hB h0 h1 h2
  revert HB H0 H1 H2
  generalize (((w.alloc (.cells #[.int .i64 q, .slice ao len cap] 31)).alloc (.cells (.int .i64 0 :: zeros8).toArray 56)).alloc (.cells (.int .i64 q :: zeros8).toArray 56)) = WZ
  intro HB H0 H1 H2
  have c1 : WZ.cell? ⟨w.heap.size, 1, none⟩ = some (.slice ao len cap) := by simp [World.cell?, H0.out]
  have hsz : (Try.prog.info? 3).map (·.size) = some 1 := by kernel_rfl
  have HIz := hide (HI.out.kept HB.out)
  refine wp_region_last (by kernel_rfl) (fun w' => w'.cell? ⟨w.heap.size, 1, none⟩ = some (.slice ao len cap)) 3 ?_
  have HS1 : WZ.drew.cell? ⟨w.heap.size, 1, none⟩ = some (.slice ao len cap) := c1
  refine wpAnyM_take (i := 0) (v := ?_) rfl (by kernel_rfl) (by kernel_rfl) (by kernel_rfl) (by kernel_rfl) (fun _ _ _ h => h) HS1 (Or.inl ⟨by rfl, ?_⟩) ?_
  rotate_left
  · (intro w hSw; (try dsimp only at hSw); go_simp; try with_reducible rfl)
  simp only [Act.put, List.setIfInBounds_toArray, List.set_cons_zero, List.set_cons_succ]
  refine wpAnyM_one (i := 1) (by kernel_rfl) rfl (fun K hK => ?_)
  go_simp
  refine hK.out _ _ HS1 (fun _ => ?_)
  clear hK K
  refine wpAnyM_one (i := 2) (by kernel_rfl) rfl (fun K hK => ?_)
  go_simp
  refine hK.out _ _ HS1 (fun _ => ?_)
  clear hK K
  refine wpAnyM_end (by kernel_rfl) rfl (by kernel_rfl) (fun K hK => ?_)
  refine step_copy_splice (by rfl) _ _ _ _ (by rfl) 3 Try.underlying22 hsz (some ⟨w.heap.size + 1 + 1, 1, none⟩) ao 8 8 len cap (by rfl) (by rfl) (w.heap.size + 1 + 1) 1 (.int .i64 q :: zeros8) 56 H2.out (ints l) (by rw [List.length_map, HI.out.1]; have := HL.out; show len = min len 8; omega) (fun hp => ⟨rfl, by
    obtain ⟨b, off, e, hc⟩ := HIz.out.2.2.2 (by rw [List.length_map, HI.out.1] at hp; exact hp)
    refine ⟨_, e, fun j v hv => ?_⟩
    rw [List.getElem?_map] at hv
    cases hj : l[j]? with
    | none => rw [hj] at hv; simp at hv
    | some x =>
      rw [hj] at hv
      simp only [Option.map_some, Option.some.injEq] at hv
      subst hv
      rw [addr_add]
      exact hc j x hj⟩) (by rw [List.length_map, HI.out.1]; have := HL.out; simp; omega) (fun v hv => by obtain ⟨x, _, rfl⟩ := List.mem_map.1 hv; rfl) (w.heap.size + 1 + 1) WZ.drew (Below.refl _ _) (Nat.le_refl _) ?_
  intro w1 hH hBl
  refine hK.out _ _ ?_
  clear hK K
  have hH2 := hH.out
  rw [splice_cells q (by rw [HI.out.1]; exact HL.out)] at hH2
  have HRg : Hid (w1.rangeAt (w.heap.size + 1 + 1) 0 (ints (cellsP q l))) := fun j v hv => by rw [Nat.zero_add]; simp only [World.cell?, hH2]; simpa using hv
  have hl9 : (ints (cellsP q l)).length = 9 := by rw [List.length_map]; exact cellsP_len (by rw [HI.out.1]; exact HL.out)
  have hb1 : w1.heap[w.heap.size + 1]? = some (.cells (.int .i64 0 :: zeros8).toArray 56 (0, 0)) := by rw [hBl.block _ (by omega)]; exact H1.out
  have HTh : Hid (w1.there (w.heap.size + 1) 0 (ints (cellsP q l)).toArray.size) := fun j hj => by
    rw [List.size_toArray, hl9] at hj
    rw [Nat.zero_add]
    refine ⟨?_, by simp [World.frozen?, hb1]⟩
    simp only [World.cell?, hb1]
    rw [Array.getElem?_eq_getElem (by simpa using hj)]
    rfl
  have hinf : (Try.prog.info? 56).map (·.size) = some (ints (cellsP q l)).length := by rw [hl9]; kernel_rfl
  have hinf2 : (Try.prog.info? 56).map (·.size) = some (ints (cellsP q l)).toArray.size := by rw [List.size_toArray, hl9]; kernel_rfl
  have hone : ∀ v ∈ ints (cellsP q l), v.oneCell' = true := fun v hv => by obtain ⟨x, _, rfl⟩ := List.mem_map.1 hv; rfl
  have hall := all_oneCell_toArray hone
  have hu := Try.underlying56
  have HBf : Hid (Below w.heap.size w (w1.setCells (w.heap.size + 1) 0 (ints (cellsP q l)))) := by
    have hB1 : Below w.heap.size w w1 := (HB.out.trans (Below.refl _ WZ).drew).trans (hBl.mono (by omega) : Below w.heap.size WZ.drew w1)
    have hO := (setCells_only (w.heap.size + 1) (ints (cellsP q l)) 0 w1)
    exact hB1.trans (hO.below hB1.size (fun k hk e => by omega))
  have HRf : Hid ((w1.setCells (w.heap.size + 1) 0 (ints (cellsP q l))).rangeAt (w.heap.size + 1) 0 (ints (cellsP q l))) := World.rangeAt_setCells_same _ _ _ _ (by have := HTh.out; rw [List.size_toArray] at this; exact this)
  have HRun : Hid ((loadVar 56 ⟨w.heap.size + 1, 0, none⟩).run Try.prog (w1.setCells (w.heap.size + 1) 0 (ints (cellsP q l))) = .ok (.agg (ints (cellsP q l)).toArray) (w1.setCells (w.heap.size + 1) 0 (ints (cellsP q l)))) := run_loadVar_mid _ _ _ _ _ _ HRf.out hu rfl hinf
  have HHi := hide hall
  clear hall hone hH hH2 hb1 hl9 hBl c1 HS1
  simp only [List.getElem_toArray, List.getElem_cons_succ, List.getElem_cons_zero, Act.put, List.setIfInBounds_toArray, List.set_cons_zero, List.set_cons_succ]
  go_wp2_with
    (first
      | ((with_reducible refine wpList_load_mid ?_ 56 (.tmp 3) ?_ (w.heap.size + 1 + 1) 0 ?_ (ints (cellsP q l)) _ HRg.out hu ?_ hinf ?_); rfl; rfl; rfl; rfl)
      | ((with_reducible refine wpList_store_mid ?_ 56 (.tmp 2) (.tmp 11) ?_ (w.heap.size + 1) 0 (ints (cellsP q l)).toArray ?_ ?_ HTh.out hinf2 HHi.out ?_); rfl; rfl; rfl; rfl))
  have hrun := HRun.out
  exact bodyPost_ret (v := .agg (ints (cellsP q l)).toArray) (results_box Try.results27 rfl hrun) rfl ⟨rfl, HBf.out⟩
end Go.Proofs.Ytcofoddjcgmmkaa
