/- LexSpelled's own spelling. -/
import Derived.Test.YtaemcbabegjfnaaDoorProg
import Derived.Test.YtaemcbabegjfnaaDoorPartWord2
import Derived.Test.YtaemcbabegjfnaaDoorPartInt
import Derived.Test.YtaemcbabegjfnaaDoorPartWrit
import Derived.Test.YtaemcbabegjfnaaDoorOverAt
namespace Go.Proofs.YtaemcbabegjfnaaDoor
set_option linter.unusedSimpArgs false
set_option linter.unusedVariables false
open Go.RowKit
attribute [local go_sem] over_cellAt over_frozenAt over_setAt

def partV (p : Prt) : Value := .agg #[.int .i64 p.k, .string p.w, .int .i64 p.n, .int .i64 p.op, .int .i64 p.g, .int .i64 p.st]
def spV (s : ByteArray) (x : Tok) (b : Bool) : Value := .tuple #[.string s, .agg #[.int .i64 x.k, .string x.t, .int .i64 x.n, .int .i64 x.op, .int .i64 0, .int .i64 0], .bool b]
def SpOk (p : Prt) (s : ByteArray) (x : Tok) (b : Bool) (w : World) : Prop := Calls Tryd.prog 4 #[partV p] w fun e w' => e = .returned (spV s x b) ∧ Below w.heap.size w w'
theorem below3 (w : World) (a b c : Obj) : Below w.heap.size w (((w.alloc a).alloc b).alloc c) := (((Below.refl w.heap.size w).alloc (Nat.le_refl _) _).alloc (by simp) _).alloc (by simp; omega) _
theorem below3d (w : World) (a b c : Obj) : Below w.heap.size w (((w.alloc a).alloc b).alloc c).drew := (below3 w a b c).drew
theorem below3o (w x : World) (a b c : Obj) : Below w.heap.size w (over (((w.alloc a).alloc b).alloc c) x) := (below3 w a b c).trans ((over_below _ x).mono (by simp; omega))
theorem below3do (w x : World) (a b c : Obj) : Below w.heap.size w (over (((w.alloc a).alloc b).alloc c).drew x) := (below3d w a b c).trans ((over_below _ x).mono (by simp; omega))

set_option maxRecDepth 100000 in
set_option maxHeartbeats 8000000 in
theorem spell5 (pw : ByteArray) (pn pop pg pst : Int) (w : World)  : SpOk ⟨5, pw, pn, pop, pg, pst⟩ (⟨#[40]⟩ : ByteArray) ⟨5, ⟨#[]⟩, 0, 0, 0, 0⟩ true w := by
  unfold SpOk partV
  simp only
  go_enter Tryd.func4, Tryd.ntmps4
  go_wp2
  go_region
  all_goals
    go_wp2
    refine bodyPost_ret (v := spV (⟨#[40]⟩ : ByteArray) ⟨5, ⟨#[]⟩, 0, 0, 0, 0⟩ true) (by simp [results, Tryd.results4, go_sem, spV]) rfl ⟨rfl, ?_⟩
    first | exact below3d w _ _ _ | exact below3 w _ _ _ | exact below3do w _ _ _ _ | exact below3o w _ _ _ _
set_option maxRecDepth 100000 in
set_option maxHeartbeats 8000000 in
theorem spell6 (pw : ByteArray) (pn pop pg pst : Int) (w : World)  : SpOk ⟨6, pw, pn, pop, pg, pst⟩ (⟨#[41]⟩ : ByteArray) ⟨6, ⟨#[]⟩, 0, 0, 0, 0⟩ true w := by
  unfold SpOk partV
  simp only
  go_enter Tryd.func4, Tryd.ntmps4
  go_wp2
  go_region
  all_goals
    go_wp2
    refine bodyPost_ret (v := spV (⟨#[41]⟩ : ByteArray) ⟨6, ⟨#[]⟩, 0, 0, 0, 0⟩ true) (by simp [results, Tryd.results4, go_sem, spV]) rfl ⟨rfl, ?_⟩
    first | exact below3d w _ _ _ | exact below3 w _ _ _ | exact below3do w _ _ _ _ | exact below3o w _ _ _ _
set_option maxRecDepth 100000 in
set_option maxHeartbeats 8000000 in
theorem spell7 (pw : ByteArray) (pn pop pg pst : Int) (w : World)  : SpOk ⟨7, pw, pn, pop, pg, pst⟩ (⟨#[44]⟩ : ByteArray) ⟨7, ⟨#[]⟩, 0, 0, 0, 0⟩ true w := by
  unfold SpOk partV
  simp only
  go_enter Tryd.func4, Tryd.ntmps4
  go_wp2
  go_region
  all_goals
    go_wp2
    refine bodyPost_ret (v := spV (⟨#[44]⟩ : ByteArray) ⟨7, ⟨#[]⟩, 0, 0, 0, 0⟩ true) (by simp [results, Tryd.results4, go_sem, spV]) rfl ⟨rfl, ?_⟩
    first | exact below3d w _ _ _ | exact below3 w _ _ _ | exact below3do w _ _ _ _ | exact below3o w _ _ _ _
set_option maxRecDepth 100000 in
set_option maxHeartbeats 8000000 in
theorem spell8 (pw : ByteArray) (pn pop pg pst : Int) (w : World)  : SpOk ⟨8, pw, pn, pop, pg, pst⟩ (⟨#[46]⟩ : ByteArray) ⟨8, ⟨#[]⟩, 0, 0, 0, 0⟩ true w := by
  unfold SpOk partV
  simp only
  go_enter Tryd.func4, Tryd.ntmps4
  go_wp2
  go_region
  all_goals
    go_wp2
    refine bodyPost_ret (v := spV (⟨#[46]⟩ : ByteArray) ⟨8, ⟨#[]⟩, 0, 0, 0, 0⟩ true) (by simp [results, Tryd.results4, go_sem, spV]) rfl ⟨rfl, ?_⟩
    first | exact below3d w _ _ _ | exact below3 w _ _ _ | exact below3do w _ _ _ _ | exact below3o w _ _ _ _
set_option maxRecDepth 100000 in
set_option maxHeartbeats 8000000 in
theorem spell9 (pw : ByteArray) (pn pop pg pst : Int) (w : World)  : SpOk ⟨9, pw, pn, pop, pg, pst⟩ (⟨#[58, 45]⟩ : ByteArray) ⟨9, ⟨#[]⟩, 0, 0, 0, 0⟩ true w := by
  unfold SpOk partV
  simp only
  go_enter Tryd.func4, Tryd.ntmps4
  go_wp2
  go_region
  all_goals
    go_wp2
    refine bodyPost_ret (v := spV (⟨#[58, 45]⟩ : ByteArray) ⟨9, ⟨#[]⟩, 0, 0, 0, 0⟩ true) (by simp [results, Tryd.results4, go_sem, spV]) rfl ⟨rfl, ?_⟩
    first | exact below3d w _ _ _ | exact below3 w _ _ _ | exact below3do w _ _ _ _ | exact below3o w _ _ _ _
set_option maxRecDepth 100000 in
set_option maxHeartbeats 8000000 in
theorem spell10 (pw : ByteArray) (pn pop pg pst : Int) (w : World)  : SpOk ⟨10, pw, pn, pop, pg, pst⟩ (⟨#[110, 111, 116]⟩ : ByteArray) ⟨10, ⟨#[]⟩, 0, 0, 0, 0⟩ true w := by
  unfold SpOk partV
  simp only
  go_enter Tryd.func4, Tryd.ntmps4
  go_wp2
  go_region
  all_goals
    go_wp2
    refine bodyPost_ret (v := spV (⟨#[110, 111, 116]⟩ : ByteArray) ⟨10, ⟨#[]⟩, 0, 0, 0, 0⟩ true) (by simp [results, Tryd.results4, go_sem, spV]) rfl ⟨rfl, ?_⟩
    first | exact below3d w _ _ _ | exact below3 w _ _ _ | exact below3do w _ _ _ _ | exact below3o w _ _ _ _
set_option maxRecDepth 100000 in
set_option maxHeartbeats 8000000 in
theorem spellO1 (pw : ByteArray) (pn pg pst : Int) (w : World)  : SpOk ⟨11, pw, pn, 1, pg, pst⟩ (⟨#[61]⟩ : ByteArray) ⟨11, ⟨#[]⟩, 0, 1, 0, 0⟩ true w := by
  unfold SpOk partV
  simp only
  go_enter Tryd.func4, Tryd.ntmps4
  go_wp2
  go_region
  all_goals
    go_wp2
    refine bodyPost_ret (v := spV (⟨#[61]⟩ : ByteArray) ⟨11, ⟨#[]⟩, 0, 1, 0, 0⟩ true) (by simp [results, Tryd.results4, go_sem, spV]) rfl ⟨rfl, ?_⟩
    first | exact below3d w _ _ _ | exact below3 w _ _ _ | exact below3do w _ _ _ _ | exact below3o w _ _ _ _
set_option maxRecDepth 100000 in
set_option maxHeartbeats 8000000 in
theorem spellO2 (pw : ByteArray) (pn pg pst : Int) (w : World)  : SpOk ⟨11, pw, pn, 2, pg, pst⟩ (⟨#[33, 61]⟩ : ByteArray) ⟨11, ⟨#[]⟩, 0, 2, 0, 0⟩ true w := by
  unfold SpOk partV
  simp only
  go_enter Tryd.func4, Tryd.ntmps4
  go_wp2
  go_region
  all_goals
    go_wp2
    refine bodyPost_ret (v := spV (⟨#[33, 61]⟩ : ByteArray) ⟨11, ⟨#[]⟩, 0, 2, 0, 0⟩ true) (by simp [results, Tryd.results4, go_sem, spV]) rfl ⟨rfl, ?_⟩
    first | exact below3d w _ _ _ | exact below3 w _ _ _ | exact below3do w _ _ _ _ | exact below3o w _ _ _ _
set_option maxRecDepth 100000 in
set_option maxHeartbeats 8000000 in
theorem spellO3 (pw : ByteArray) (pn pg pst : Int) (w : World)  : SpOk ⟨11, pw, pn, 3, pg, pst⟩ (⟨#[60]⟩ : ByteArray) ⟨11, ⟨#[]⟩, 0, 3, 0, 0⟩ true w := by
  unfold SpOk partV
  simp only
  go_enter Tryd.func4, Tryd.ntmps4
  go_wp2
  go_region
  all_goals
    go_wp2
    refine bodyPost_ret (v := spV (⟨#[60]⟩ : ByteArray) ⟨11, ⟨#[]⟩, 0, 3, 0, 0⟩ true) (by simp [results, Tryd.results4, go_sem, spV]) rfl ⟨rfl, ?_⟩
    first | exact below3d w _ _ _ | exact below3 w _ _ _ | exact below3do w _ _ _ _ | exact below3o w _ _ _ _
set_option maxRecDepth 100000 in
set_option maxHeartbeats 8000000 in
theorem spellO4 (pw : ByteArray) (pn pg pst : Int) (w : World)  : SpOk ⟨11, pw, pn, 4, pg, pst⟩ (⟨#[60, 61]⟩ : ByteArray) ⟨11, ⟨#[]⟩, 0, 4, 0, 0⟩ true w := by
  unfold SpOk partV
  simp only
  go_enter Tryd.func4, Tryd.ntmps4
  go_wp2
  go_region
  all_goals
    go_wp2
    refine bodyPost_ret (v := spV (⟨#[60, 61]⟩ : ByteArray) ⟨11, ⟨#[]⟩, 0, 4, 0, 0⟩ true) (by simp [results, Tryd.results4, go_sem, spV]) rfl ⟨rfl, ?_⟩
    first | exact below3d w _ _ _ | exact below3 w _ _ _ | exact below3do w _ _ _ _ | exact below3o w _ _ _ _
set_option maxRecDepth 100000 in
set_option maxHeartbeats 8000000 in
theorem spellO5 (pw : ByteArray) (pn pg pst : Int) (w : World)  : SpOk ⟨11, pw, pn, 5, pg, pst⟩ (⟨#[62]⟩ : ByteArray) ⟨11, ⟨#[]⟩, 0, 5, 0, 0⟩ true w := by
  unfold SpOk partV
  simp only
  go_enter Tryd.func4, Tryd.ntmps4
  go_wp2
  go_region
  all_goals
    go_wp2
    refine bodyPost_ret (v := spV (⟨#[62]⟩ : ByteArray) ⟨11, ⟨#[]⟩, 0, 5, 0, 0⟩ true) (by simp [results, Tryd.results4, go_sem, spV]) rfl ⟨rfl, ?_⟩
    first | exact below3d w _ _ _ | exact below3 w _ _ _ | exact below3do w _ _ _ _ | exact below3o w _ _ _ _
set_option maxRecDepth 100000 in
set_option maxHeartbeats 8000000 in
theorem spellO6 (pw : ByteArray) (pn pg pst : Int) (w : World)  : SpOk ⟨11, pw, pn, 6, pg, pst⟩ (⟨#[62, 61]⟩ : ByteArray) ⟨11, ⟨#[]⟩, 0, 6, 0, 0⟩ true w := by
  unfold SpOk partV
  simp only
  go_enter Tryd.func4, Tryd.ntmps4
  go_wp2
  go_region
  all_goals
    go_wp2
    refine bodyPost_ret (v := spV (⟨#[62, 61]⟩ : ByteArray) ⟨11, ⟨#[]⟩, 0, 6, 0, 0⟩ true) (by simp [results, Tryd.results4, go_sem, spV]) rfl ⟨rfl, ?_⟩
    first | exact below3d w _ _ _ | exact below3 w _ _ _ | exact below3do w _ _ _ _ | exact below3o w _ _ _ _
set_option maxRecDepth 100000 in
set_option maxHeartbeats 8000000 in
theorem spellOx (pw : ByteArray) (pn pop pg pst : Int) (w : World) (f1 : (pop == 1) = false) (f2 : (pop == 2) = false) (f3 : (pop == 3) = false) (f4 : (pop == 4) = false) (f5 : (pop == 5) = false) (f6 : (pop == 6) = false) : SpOk ⟨11, pw, pn, pop, pg, pst⟩ (⟨#[]⟩ : ByteArray) ⟨11, ⟨#[]⟩, 0, pop, 0, 0⟩ false w := by
  unfold SpOk partV
  simp only
  go_enter Tryd.func4, Tryd.ntmps4
  go_wp2
  go_region
  all_goals
    go_wp2
    refine bodyPost_ret (v := spV (⟨#[]⟩ : ByteArray) ⟨11, ⟨#[]⟩, 0, pop, 0, 0⟩ false) (by simp [results, Tryd.results4, go_sem, spV]) rfl ⟨rfl, ?_⟩
    first | exact below3d w _ _ _ | exact below3 w _ _ _ | exact below3do w _ _ _ _ | exact below3o w _ _ _ _
set_option maxRecDepth 100000 in
set_option maxHeartbeats 8000000 in
theorem spellX (pk : Int) (pw : ByteArray) (pn pop pg pst : Int) (w : World) (f1 : (pk == 1) = false) (f2 : (pk == 2) = false) (f3 : (pk == 3) = false) (f4 : (pk == 4) = false) (f5 : (pk == 5) = false) (f6 : (pk == 6) = false) (f7 : (pk == 7) = false) (f8 : (pk == 8) = false) (f9 : (pk == 9) = false) (f10 : (pk == 10) = false) (f11 : (pk == 11) = false) : SpOk ⟨pk, pw, pn, pop, pg, pst⟩ (⟨#[]⟩ : ByteArray) ⟨pk, ⟨#[]⟩, 0, 0, 0, 0⟩ false w := by
  unfold SpOk partV
  simp only
  go_enter Tryd.func4, Tryd.ntmps4
  go_wp2
  go_region
  all_goals
    go_wp2
    refine bodyPost_ret (v := spV (⟨#[]⟩ : ByteArray) ⟨pk, ⟨#[]⟩, 0, 0, 0, 0⟩ false) (by simp [results, Tryd.results4, go_sem, spV]) rfl ⟨rfl, ?_⟩
    first | exact below3d w _ _ _ | exact below3 w _ _ _ | exact below3do w _ _ _ _ | exact below3o w _ _ _ _
end Go.Proofs.YtaemcbabegjfnaaDoor
