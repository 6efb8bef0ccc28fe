/- The law that either levels hold or a walk is cyclic: its walk. -/
import Derived.Test.YtkbicgkocmibfaaLawEitherA
import Derived.Test.YtkbicgkocmibfaaLawEitherB
namespace Go.Proofs.Ytkbicgkocmibfaa
set_option linter.unusedSimpArgs false
set_option linter.unusedVariables false
open Go.RowKit Go.Maps

set_option maxRecDepth 100000 in
set_option maxHeartbeats 2000000 in
theorem strataEither_walk (n : Int) (v : Value) (es : List Edg) (u : Value) (ls : List Int) (q : Value) (ws : List Int) (w : World) (h : Has elEdg w v es) (hu : Has elInt w u ls) (hq : Has elInt w q ws) :
    Calls Try.prog 7 #[.agg #[.int .i64 n, v, u, q]] w fun e w' => e = .returned (.bool true) ∧ Below w.heap.size w w' := by
  have hfc : fitP n es = false ∨ fitP n es = true := by cases fitP n es <;> simp
  rcases hfc with hf | hf
  · obtain ⟨va, vc, rfl, -, -, hlen⟩ := h.shape
    obtain ⟨ua, uc, rfl, -, -, hlen2⟩ := hu.shape
    obtain ⟨qa, qc, rfl, -, -, hlen3⟩ := hq.shape
    obtain ⟨Y, hY⟩ : ∃ Y, Y = w.alloc (.cells #[.int .i64 n, .slice va es.length vc, .slice ua ls.length uc, .slice qa ws.length qc] 43) := ⟨_, rfl⟩
    have hb0 : Below w.heap.size w Y := by rw [hY]; exact belo1 w _
    have HL := hide (h.kept hb0)
    have HU := hide (hu.kept hb0)
    have HQ := hide (hq.kept hb0)
    have x0 : Y.cell? ⟨w.heap.size, 0, none⟩ = some (.int .i64 n) := by rw [hY]; simp
    have x1 : Y.cell? ⟨w.heap.size, 1, none⟩ = some (.slice va es.length vc) := by rw [hY]; simp
    have x2 : Y.cell? ⟨w.heap.size, 2, none⟩ = some (.slice ua ls.length uc) := by rw [hY]; simp
    have x3 : Y.cell? ⟨w.heap.size, 3, none⟩ = some (.slice qa ws.length qc) := by rw [hY]; simp
    have HB0 := hide hb0
    have HX : Hid (∀ V : World, Below Y.heap.size Y V → V.cell? ⟨w.heap.size, 0, none⟩ = some (.int .i64 n) ∧ V.cell? ⟨w.heap.size, 1, none⟩ = some (.slice va es.length vc) ∧ V.cell? ⟨w.heap.size, 2, none⟩ = some (.slice ua ls.length uc) ∧ V.cell? ⟨w.heap.size, 3, none⟩ = some (.slice qa ws.length qc)) := fun V hV => ⟨kept_cell hV x0, kept_cell hV x1, kept_cell hV x2, kept_cell hV x3⟩
    have HF := hide (lfit_any HL.out n)
    clear h hu hq hb0
    rw [hf] at HF
    go_enter Try.func7, Try.ntmps7
    go_upto_region 1 with fail
    rw [← hY]
    clear hY
    go_wp2_with (go_at_call 9; refine HF.out.mono ?_; rintro e w1 ⟨rfl, b1⟩; have HB1 := hide (HB0.out.trans (b1.mono HB0.out.size)); clear b1)
    go_ret
    exact ⟨rfl, HB1.out⟩
  · obtain ⟨⟨hk0, hk1⟩, -⟩ := fit_in8 hf
    obtain ⟨k, rfl⟩ : ∃ k : Nat, n = k := ⟨n.toNat, by omega⟩
    rcases Classical.em (HasBad k es) with hb | hb
    · exact strataEither_A k v es u ls q ws w h hu hq hf hb
    · exact strataEither_B k v es u ls q ws w h hu hq hf hb
end Go.Proofs.Ytkbicgkocmibfaa
