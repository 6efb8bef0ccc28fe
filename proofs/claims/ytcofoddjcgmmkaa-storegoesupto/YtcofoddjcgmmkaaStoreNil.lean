/- What a store that is none answers. -/
import Derived.Test.YtcofoddjcgmmkaaStoreTryAt
namespace Go.Proofs.Ytcofoddjcgmmkaa
set_option linter.unusedSimpArgs false
set_option linter.unusedVariables false
open Go.RowKit Go.Maps

set_option maxHeartbeats 1000000
theorem nil_add {w : World} {v : Value} : Calls Try.prog 9 #[.pointer none, v] w fun e w' => e = .returned (.tuple #[.int .i64 0, .int .i64 0]) ∧ w' = w := by
  go_enter Try.func9, Try.ntmps9
  go_wp2
  exact bodyPost_ret (v := .tuple #[.int .i64 0, .int .i64 0]) (by simp [results, Try.results9, go_sem]) rfl ⟨rfl, rfl⟩
theorem nil_len {w : World} : Calls Try.prog 22 #[.pointer none] w fun e w' => e = .returned (.int .i64 0) ∧ w' = w := by
  go_enter Try.func22, Try.ntmps22
  go_wp2
  go_ret
  exact ⟨rfl, rfl⟩
theorem nil_num {w : World} {a b : Value} : Calls Try.prog 23 #[.pointer none, .agg #[a, b]] w fun e w' => e = .returned (.int .i64 0) ∧ Below w.heap.size w w' := by
  go_enter Try.func23, Try.ntmps23
  go_wp2
  go_ret
  exact ⟨rfl, (Below.refl _ _).alloc (Nat.le_refl _) _⟩
theorem nil_row {w : World} {i : Int} : Calls Try.prog 16 #[.pointer none, .int .i64 i] w fun e w' => e = .returned (.tuple #[.agg #[.int .i64 0, .slice none 0 0], .int .i64 0]) ∧ Below w.heap.size w w' := by
  go_enter Try.func16, Try.ntmps16
  go_wp2
  exact bodyPost_ret (v := .tuple #[.agg #[.int .i64 0, .slice none 0 0], .int .i64 0]) (by simp [results, Try.results16, go_sem]) rfl ⟨rfl, (Below.refl _ _).alloc (Nat.le_refl _) _⟩
theorem nil_each {w : World} {i : Int} : Calls Try.prog 14 #[.pointer none, .int .i64 i, .nilFunc] w fun e w' => e = .returned (.tuple #[]) ∧ w' = w := by
  go_enter Try.func14, Try.ntmps14
  go_wp2
  first | (refine bodyPost_ret (results_none rfl _ _ _) rfl ?_; exact ⟨rfl, rfl⟩) | go_end0
theorem nil_of {w : World} {i : Int} : Calls Try.prog 18 #[.pointer none, .int .i64 i] w fun e w' => e = .returned (.slice none 0 0) ∧ w' = w := by
  go_enter Try.func18, Try.ntmps18
  go_wp2
  go_ret
  exact ⟨rfl, rfl⟩
theorem nil_where {w : World} {i j k : Int} : Calls Try.prog 34 #[.pointer none, .int .i64 i, .int .i64 j, .int .i64 k] w fun e w' => e = .returned (.slice none 0 0) ∧ w' = w := by
  go_enter Try.func34, Try.ntmps34
  go_wp2
  go_ret
  exact ⟨rfl, rfl⟩
theorem nil_undo {w : World} {i : Int} : Calls Try.prog 35 #[.pointer none, .int .i64 i] w fun e w' => e = .returned (.int .i64 0) ∧ w' = w := by
  go_enter Try.func35, Try.ntmps35
  go_wp2
  go_ret
  exact ⟨rfl, rfl⟩
theorem nil_copy {w : World} : Calls Try.prog 36 #[.pointer none] w fun e w' => e = .returned (.pointer none) ∧ Below w.heap.size w w' := by
  go_enter Try.func36, Try.ntmps36
  go_wp2
  go_ret
  first | exact ⟨rfl, Below.refl _ _⟩ | exact ⟨rfl, (Below.refl _ _).alloc (Nat.le_refl _) _⟩
theorem nil_try {w : World} : Calls Try.prog 10 #[.pointer none, .nilFunc] w fun e w' => e = .returned (.bool false) ∧ Below w.heap.size w w' := by
  go_enter_defers Try.func10, Try.ntmps10
  go_wp2
  have hb := ((Below.refl _ w).alloc (Nat.le_refl _) (.cells #[.pointer none] 27)).alloc (by simp) (.cells #[.bool false] 4)
  simp [bodyPostD, Leaves, settle, results, Try.results10, go_sem, hb]
theorem nil_has {w : World} {a b : Value} : Calls Try.prog 33 #[.pointer none, .agg #[a, b]] w fun e w' => e = .returned (.bool false) ∧ Below w.heap.size w w' := by
  go_enter Try.func33, Try.ntmps33
  go_wp2
  go_ret
  exact ⟨rfl, (Below.refl _ _).alloc (Nat.le_refl _) _⟩

set_option maxRecDepth 100000 in
set_option maxHeartbeats 4000000 in
theorem none_any {w : World} : Calls Try.prog 13 #[] w fun e w' => e = .returned (.bool true) ∧ Below w.heap.size w w' := by
  go_enter Try.func13, Try.ntmps13
  go_wp2_with fail
  have hi1 : IsInts (w.alloc (.cells #[.int .i64 1] 3)) (some ⟨w.heap.size, 0, none⟩) 1 [1] := ⟨rfl, by decide, by simp only [List.mem_singleton]; rintro x rfl; exact ⟨by decide, by decide⟩, fun _ => ⟨w.heap.size, 0, rfl, fun i x hx => by
    have hi0 : i = 0 := by
      have := (List.getElem?_eq_some_iff.1 hx).1
      simp only [List.length_singleton] at this
      omega
    subst hi0
    simp only [List.getElem?_cons_zero, Option.some.injEq] at hx
    subst hx
    simp⟩⟩
  refine (new_ok (cap := 1) hi1 (fun h => by cases h) (by decide) (by decide)).mono ?_
  rintro e w1 ⟨v, rfl, hF⟩
  obtain ⟨p, own, rfl, hS, hT, hB⟩ := hF.st (by decide) (by decide)
  have HS := hide hS
  have HT := hide hT
  have HB1 : Hid (Below w.heap.size w w1) := ((Below.refl _ w).alloc (Nat.le_refl _) _).trans (hB.mono (by simp))
  clear hS hT hB hF hi1
  have hl1 : own.lim w1.heap.size := HS.out.lim
  have hno : ∀ k, w1.heap.size ≤ k → own k = none := fun k hk => by
    cases ho : own k with
    | none => rfl
    | some t => exact absurd (hl1 k (by rw [ho]; simp)) (by omega)
  obtain ⟨Z, hZ⟩ : ∃ Z, Z = ((w1.alloc (.cells #[.int .i64 3] 3)).alloc (.cells #[.int .i64 0, .slice (some ⟨w1.heap.size, 0, none⟩) 1 1] 31)).alloc (.cells #[.int .i64 0, .slice (some ⟨w1.heap.size, 0, none⟩) 1 1] 31) := ⟨_, rfl⟩
  have hi3 : IsInts (w1.alloc (.cells #[.int .i64 3] 3)) (some ⟨w1.heap.size, 0, none⟩) 1 [3] := ⟨rfl, by decide, by simp only [List.mem_singleton]; rintro x rfl; exact ⟨by decide, by decide⟩, fun _ => ⟨w1.heap.size, 0, rfl, fun i x hx => by
    have hi0 : i = 0 := by
      have := (List.getElem?_eq_some_iff.1 hx).1
      simp only [List.length_singleton] at this
      omega
    subst hi0
    simp only [List.getElem?_cons_zero, Option.some.injEq] at hx
    subst hx
    simp⟩⟩
  have hf3 : FreeInts ((w1.alloc (.cells #[.int .i64 3] 3)).alloc (.cells #[.int .i64 0, .slice (some ⟨w1.heap.size, 0, none⟩) 1 1] 31)) own (some ⟨w1.heap.size, 0, none⟩) 1 [3] := ⟨hi3.kept ((Below.refl _ _).alloc (Nat.le_refl _) _), fun _ a ha => by cases ha; exact hno _ (Nat.le_refl _)⟩
  have hr3 : FreeRows Z own (some ⟨w1.heap.size + 1 + 1, 0, none⟩) 1 [((0 : Int), [(3 : Int)])] := by
    have := free_one ((w1.alloc (.cells #[.int .i64 3] 3)).alloc (.cells #[.int .i64 0, .slice (some ⟨w1.heap.size, 0, none⟩) 1 1] 31)) (own := own) (fun k hk => by have := hl1 k hk; simp; omega) (q := 0) ⟨by decide, by decide⟩ (c := 1) (l := [3]) hf3
    rw [hZ]
    simpa using this
  have hBZ : Below w1.heap.size w1 Z := by rw [hZ]; exact ((((Below.refl _ w1).alloc (Nat.le_refl _) _).alloc (by simp) _).alloc (by simp; omega) _)
  have zc : Z.cell? ⟨w1.heap.size + 1, 0, none⟩ = some (.int .i64 0) ∧ Z.cell? ⟨w1.heap.size + 1, 1, none⟩ = some (.slice (some ⟨w1.heap.size, 0, none⟩) 1 1) := by
    have e1 : Z.heap[w1.heap.size + 1]? = some (.cells #[.int .i64 0, .slice (some ⟨w1.heap.size, 0, none⟩) 1 1] 31 (0, 0)) := by
      rw [hZ]
      have := heap_alloc_old ((w1.alloc (.cells #[.int .i64 3] 3)).alloc (.cells #[.int .i64 0, .slice (some ⟨w1.heap.size, 0, none⟩) 1 1] 31)) (.cells #[.int .i64 0, .slice (some ⟨w1.heap.size, 0, none⟩) 1 1] 31) (r := w1.heap.size + 1) (by simp)
      rw [this]
      have h2 := heap_alloc_new (w1.alloc (.cells #[.int .i64 3] 3)) (.cells #[.int .i64 0, .slice (some ⟨w1.heap.size, 0, none⟩) 1 1] 31)
      rw [show (w1.alloc (.cells #[.int .i64 3] 3)).heap.size = w1.heap.size + 1 from by simp] at h2
      exact h2
    exact ⟨by unfold World.cell?; rw [e1]; rfl, by unfold World.cell?; rw [e1]; rfl⟩
  have hfZ : FreeInts Z own (some ⟨w1.heap.size, 0, none⟩) 1 [3] := by rw [hZ]; exact hf3.below ((Below.refl _ _).alloc (Nat.le_refl _) _)
  have HA := hide (add_ok (cap := 1) (HS.out.below hBZ) hr3 (by decide) (by decide))
  rw [show (addC ([] : List (List Int)) [((0 : Int), [(3 : Int)])]) = [cellsP 0 [3]] from rfl] at HA
  have HBZ : Hid (Below w.heap.size w Z) := HB1.out.trans (hBZ.mono HB1.out.size)
  have HZc := hide zc
  have HFZ := hide hfZ
  have HN0 := hide (hno (w1.heap.size + 1) (by omega))
  have hTw : Hid (∀ k, own k ≠ none → w.heap.size ≤ k) := fun k hk => by have := HT.out k hk; simp at this; omega
  clear zc hfZ hr3 hf3 hi3 hno hl1 hBZ
  go_wp2_with fail
  rw [← hZ]
  clear hZ
  refine HA.out.mono ?_
  rintro e w2 ⟨rfl, own', s2, t2⟩
  have HS2 := hide s2
  have HC2 := hide (And.intro (t2.cell HZc.out.1 HN0.out) (t2.cell HZc.out.2 HN0.out))
  have HI2 := hide (HFZ.out.turn t2).1
  have HB2 : Hid (Below w.heap.size w w2) := by
    obtain ⟨g1, g2⟩ := t2.from (base := w.heap.size) hTw.out HBZ.out.size
    exact HBZ.out.trans g2
  have HSc : Hid (∀ V, Below w2.heap.size w2 V → V.cell? ⟨w1.heap.size + 1, 0, none⟩ = some (.int .i64 0) ∧ V.cell? ⟨w1.heap.size + 1, 1, none⟩ = some (.slice (some ⟨w1.heap.size, 0, none⟩) 1 1)) := fun V hV => ⟨kept_cell hV HC2.out.1, kept_cell hV HC2.out.2⟩
  clear s2 t2 HA
  obtain ⟨x0, x1⟩ := HSc.out w2 (Below.refl _ _)
  have hn0 : numP [1] [cellsP 0 [3]] 0 [3] = 0 := by decide
  have HNm := hide (num_any (cap := 1) HS2.out (q := 0) ⟨by decide, by decide⟩ HI2.out)
  rw [hn0] at HNm
  simp only [List.length_singleton, List.length_nil]
  go_wp2_with fail
  clear x0 x1
  refine HNm.out.mono ?_
  rintro e w3 ⟨rfl, g3⟩
  have HD3 := hide g3
  clear g3 HNm
  have HHs := hide (has_any (cap := 1) (HS2.out.below HD3.out) (q := 0) ⟨by decide, by decide⟩ (HI2.out.kept HD3.out))
  rw [hn0] at HHs
  obtain ⟨x0, x1⟩ := HSc.out w3 HD3.out
  go_wp2_with fail
  clear x0 x1
  refine HHs.out.mono ?_
  rintro e w4 ⟨rfl, g4⟩
  have HD4 := hide (HD3.out.trans (g4.mono HD3.out.size))
  clear g4 HHs
  obtain ⟨x0, x1⟩ := HSc.out w4 HD4.out
  simp only [Int.le_refl, decide_true]
  go_wp2_with fail
  clear x0 x1
  refine nil_add.mono ?_
  rintro e w5 ⟨rfl, hw⟩
  have HD5 : Hid (Below w2.heap.size w2 w5) := by rw [hw]; exact HD4.out.alloc HD4.out.size _
  clear hw
  obtain ⟨x0, x1⟩ := HSc.out w5 HD5.out
  go_wp2_with fail
  clear x0 x1
  refine nil_has.mono ?_
  rintro e w6 ⟨rfl, g6⟩
  have HD6 := hide (HD5.out.trans (g6.mono HD5.out.size))
  clear g6
  obtain ⟨x0, x1⟩ := HSc.out w6 HD6.out
  go_wp2_with fail
  clear x0 x1
  refine nil_num.mono ?_
  rintro e w7 ⟨rfl, g7⟩
  have HD7 := hide (HD6.out.trans (g7.mono HD6.out.size))
  clear g7
  go_wp2_with fail
  refine nil_len.mono ?_
  rintro e w8 ⟨rfl, hw⟩
  have hw := hw.symm
  subst hw
  go_wp2_with fail
  refine nil_row.mono ?_
  rintro e w9 ⟨rfl, g9⟩
  have HD9 := hide (HD7.out.trans (g9.mono HD7.out.size))
  clear g9
  go_wp2_with fail
  refine nil_each.mono ?_
  rintro e wa ⟨rfl, hw⟩
  have HDa : Hid (Below w2.heap.size w2 wa) := by rw [hw]; exact HD9.out.alloc HD9.out.size _
  clear hw
  go_wp2_with fail
  refine nil_of.mono ?_
  rintro e wb ⟨rfl, hw⟩
  have hw := hw.symm
  subst hw
  go_wp2_with fail
  refine nil_where.mono ?_
  rintro e wb ⟨rfl, hw⟩
  have hw := hw.symm
  subst hw
  go_wp2_with fail
  refine nil_undo.mono ?_
  rintro e wb ⟨rfl, hw⟩
  have hw := hw.symm
  subst hw
  go_wp2_with fail
  refine nil_undo.mono ?_
  rintro e wb ⟨rfl, hw⟩
  have hw := hw.symm
  subst hw
  go_wp2_with fail
  refine nil_try.mono ?_
  rintro e wb ⟨rfl, gb⟩
  have HDb := hide (HDa.out.trans (gb.mono HDa.out.size))
  clear gb
  go_wp2_with fail
  refine nil_copy.mono ?_
  rintro e wd ⟨rfl, gd⟩
  have HDd := hide (HDb.out.trans (gd.mono HDb.out.size))
  clear gd
  go_wp2_with fail
  go_ret
  exact ⟨rfl, HB2.out.trans (HDd.out.mono HB2.out.size)⟩
end Go.Proofs.Ytcofoddjcgmmkaa
