/- LexSpelled's own spelling: the ways with a call. -/
import Derived.Test.YtaemcbabegjfnaaDoorProg
import Derived.Test.YtaemcbabegjfnaaDoorPartSpell
import Derived.Deep.RegionHeld3
namespace Go.Proofs.YtaemcbabegjfnaaDoor
set_option linter.unusedSimpArgs false
set_option linter.unusedVariables false
open Go.RowKit
attribute [local go_sem] over_cellAt over_frozenAt over_setAt

set_option maxRecDepth 100000 in
set_option maxHeartbeats 8000000 in
theorem spell1 (pw : ByteArray) (pn pop pg pst : Int) (w : World) (hs : pw.size ≤ 10000000) : SpOk ⟨1, pw, pn, pop, pg, pst⟩ (pw) ⟨1, pw, 0, 0, 0, 0⟩ (wordB pw.data.toList true) w := by
  have HW := hide (fun W => wordOK_any pw true W (by omega))
  clear hs
  obtain ⟨b, hb⟩ : ∃ b, b = wordB pw.data.toList true := ⟨_, rfl⟩
  rw [← hb] at HW ⊢
  clear hb
  unfold SpOk partV
  simp only
  go_enter Tryd.func4, Tryd.ntmps4
  go_wp2
  go_region_held3 (fun V => V.cell? ⟨w.heap.size, 0, none⟩ = some (.int .i64 1) ∧ V.cell? ⟨w.heap.size, 1, none⟩ = some (.string pw) ∧ V.cell? ⟨w.heap.size + 1 + 1, 0, none⟩ = some (.int .i64 1) ∧ V.cell? ⟨w.heap.size + 1 + 1, 1, none⟩ = some (.string pw) ∧ V.cell? ⟨w.heap.size + 1 + 1, 2, none⟩ = some (.int .i64 0) ∧ V.cell? ⟨w.heap.size + 1 + 1, 3, none⟩ = some (.int .i64 0) ∧ V.cell? ⟨w.heap.size + 1 + 1, 4, none⟩ = some (.int .i64 0) ∧ V.cell? ⟨w.heap.size + 1 + 1, 5, none⟩ = some (.int .i64 0))
    (first | (go_keep; done) | (simp [go_sem]; done))
    (first | (go_at_call 9; refine (HW.out _).mono ?_; rintro e w2 ⟨rfl, hw2⟩; have hw2 := hw2.symm; subst hw2))
  all_goals
    go_wp2
    refine bodyPost_ret (v := spV pw ⟨1, pw, 0, 0, 0, 0⟩ b) (by simp [results, Tryd.results4, go_sem, spV]) rfl ⟨rfl, ?_⟩
    first | exact below3d w _ _ _ | exact below3 w _ _ _ | exact below3do w _ _ _ _ | exact below3o w _ _ _ _
set_option maxRecDepth 100000 in
set_option maxHeartbeats 8000000 in
theorem spell2 (pw : ByteArray) (pn pop pg pst : Int) (w : World) (hs : pw.size ≤ 10000000) : SpOk ⟨2, pw, pn, pop, pg, pst⟩ (pw) ⟨2, pw, 0, 0, 0, 0⟩ (wordB pw.data.toList false) w := by
  have HW := hide (fun W => wordOK_any pw false W (by omega))
  clear hs
  obtain ⟨b, hb⟩ : ∃ b, b = wordB pw.data.toList false := ⟨_, rfl⟩
  rw [← hb] at HW ⊢
  clear hb
  unfold SpOk partV
  simp only
  go_enter Tryd.func4, Tryd.ntmps4
  go_wp2
  go_region_held3 (fun V => V.cell? ⟨w.heap.size, 0, none⟩ = some (.int .i64 2) ∧ V.cell? ⟨w.heap.size, 1, none⟩ = some (.string pw) ∧ V.cell? ⟨w.heap.size + 1 + 1, 0, none⟩ = some (.int .i64 2) ∧ V.cell? ⟨w.heap.size + 1 + 1, 1, none⟩ = some (.string pw) ∧ V.cell? ⟨w.heap.size + 1 + 1, 2, none⟩ = some (.int .i64 0) ∧ V.cell? ⟨w.heap.size + 1 + 1, 3, none⟩ = some (.int .i64 0) ∧ V.cell? ⟨w.heap.size + 1 + 1, 4, none⟩ = some (.int .i64 0) ∧ V.cell? ⟨w.heap.size + 1 + 1, 5, none⟩ = some (.int .i64 0))
    (first | (go_keep; done) | (simp [go_sem]; done))
    (first | (go_at_call 9; refine (HW.out _).mono ?_; rintro e w2 ⟨rfl, hw2⟩; have hw2 := hw2.symm; subst hw2))
  all_goals
    go_wp2
    refine bodyPost_ret (v := spV pw ⟨2, pw, 0, 0, 0, 0⟩ b) (by simp [results, Tryd.results4, go_sem, spV]) rfl ⟨rfl, ?_⟩
    first | exact below3d w _ _ _ | exact below3 w _ _ _ | exact below3do w _ _ _ _ | exact below3o w _ _ _ _
set_option maxRecDepth 100000 in
set_option maxHeartbeats 8000000 in
theorem spell3 (pw : ByteArray) (pn pop pg pst : Int) (w : World) (hv : I64 pn) (ht : TabLaidL w) : SpOk ⟨3, pw, pn, pop, pg, pst⟩ (⟨(intZ pn pst).toArray⟩) ⟨3, ⟨#[]⟩, pn, 0, 0, 0⟩ true w := by
  have HW : Hid (∀ W, Below w.heap.size w W → Calls Tryd.prog 10 #[.int .i64 pn, .int .i64 pst] W fun e w' => e = .returned (.string ⟨(intZ pn pst).toArray⟩) ∧ Below W.heap.size W w') := fun W hW => intZ_any pn pst hv W (ht.kept hW)
  clear hv ht
  obtain ⟨S, hS⟩ : ∃ S : ByteArray, S = ⟨(intZ pn pst).toArray⟩ := ⟨_, rfl⟩
  rw [← hS] at HW ⊢
  clear hS
  unfold SpOk partV
  simp only
  go_enter Tryd.func4, Tryd.ntmps4
  go_wp2
  go_region_held3 (fun V => V.cell? ⟨w.heap.size, 2, none⟩ = some (.int .i64 pn) ∧ V.cell? ⟨w.heap.size, 5, none⟩ = some (.int .i64 pst) ∧ V.cell? ⟨w.heap.size + 1 + 1, 0, none⟩ = some (.int .i64 3) ∧ V.cell? ⟨w.heap.size + 1 + 1, 1, none⟩ = some (.string ⟨#[]⟩) ∧ V.cell? ⟨w.heap.size + 1 + 1, 2, none⟩ = some (.int .i64 pn) ∧ V.cell? ⟨w.heap.size + 1 + 1, 3, none⟩ = some (.int .i64 0) ∧ V.cell? ⟨w.heap.size + 1 + 1, 4, none⟩ = some (.int .i64 0) ∧ V.cell? ⟨w.heap.size + 1 + 1, 5, none⟩ = some (.int .i64 0))
    (first | (go_keep; done) | (simp [go_sem]; done))
    (first | (go_at_call 10; refine (HW.out _ (by first | exact below3d w _ _ _ | exact below3 w _ _ _)).mono ?_; rintro e w2 ⟨rfl, hb⟩; obtain ⟨x, rfl⟩ := over_of hb; clear hb))
  all_goals
    go_wp2
    refine bodyPost_ret (v := spV S ⟨3, ⟨#[]⟩, pn, 0, 0, 0⟩ true) (by simp [results, Tryd.results4, go_sem, spV]) rfl ⟨rfl, ?_⟩
    first | exact below3d w _ _ _ | exact below3 w _ _ _ | exact below3do w _ _ _ _ | exact below3o w _ _ _ _
set_option maxRecDepth 100000 in
set_option maxHeartbeats 8000000 in
theorem spell4 (pw : ByteArray) (pn pop pg pst : Int) (w : World) (hs : pw.size ≤ 10000000) : SpOk ⟨4, pw, pn, pop, pg, pst⟩ (⟨(writL pw.data.toList pst).toArray⟩) ⟨4, pw, 0, 0, 0, 0⟩ (decide (pw.size ≤ 255)) w := by
  have HW := hide (fun W => written_any pw pst W hs)
  obtain ⟨S, hS⟩ : ∃ S : ByteArray, S = ⟨(writL pw.data.toList pst).toArray⟩ := ⟨_, rfl⟩
  rw [← hS] at HW ⊢
  clear hS
  have hd : decide (pw.size ≤ 255) = decide ((pw.size : Int) ≤ 255) := decide_eq_decide.2 (by omega)
  rw [hd]
  clear hd hs
  unfold SpOk partV
  simp only
  go_enter Tryd.func4, Tryd.ntmps4
  go_wp2
  go_region_held3 (fun V => V.cell? ⟨w.heap.size, 1, none⟩ = some (.string pw) ∧ V.cell? ⟨w.heap.size, 5, none⟩ = some (.int .i64 pst) ∧ V.cell? ⟨w.heap.size + 1 + 1, 0, none⟩ = some (.int .i64 4) ∧ V.cell? ⟨w.heap.size + 1 + 1, 1, none⟩ = some (.string pw) ∧ V.cell? ⟨w.heap.size + 1 + 1, 2, none⟩ = some (.int .i64 0) ∧ V.cell? ⟨w.heap.size + 1 + 1, 3, none⟩ = some (.int .i64 0) ∧ V.cell? ⟨w.heap.size + 1 + 1, 4, none⟩ = some (.int .i64 0) ∧ V.cell? ⟨w.heap.size + 1 + 1, 5, none⟩ = some (.int .i64 0))
    (first | (go_keep; done) | (simp [go_sem]; done))
    (first | (go_at_call 11; refine (HW.out _).mono ?_; rintro e w2 ⟨rfl, hb⟩; obtain ⟨x, rfl⟩ := over_of hb; clear hb))
  all_goals
    go_wp2
    refine bodyPost_ret (v := spV S ⟨4, pw, 0, 0, 0, 0⟩ (decide ((pw.size : Int) ≤ 255))) (by simp [results, Tryd.results4, go_sem, spV]) rfl ⟨rfl, ?_⟩
    first | exact below3d w _ _ _ | exact below3 w _ _ _ | exact below3do w _ _ _ _ | exact below3o w _ _ _ _
end Go.Proofs.YtaemcbabegjfnaaDoor
