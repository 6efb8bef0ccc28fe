/- alpha.Covers. -/
import Derived.Test.YtgligipgjakecaaDoorAlphaFit
import Derived.Test.YtgligipgjakecaaDoorAlphaSame
import Derived.Test.YtgligipgjakecaaDoorCoverPure
namespace Go.Proofs.YtgligipgjakecaaDoor
set_option linter.unusedSimpArgs false
set_option linter.unusedVariables false
open Go.RowKit

/-- Two shapes by value, each in a box of its own. -/
theorem boxes2 {w : World} {p q : Int} {u v : Value} {W0 : World} (hW0 : W0 = (w.alloc (.cells #[.int .i64 p, u] 25)).alloc (.cells #[.int .i64 q, v] 25)) :
    Below w.heap.size w W0 ∧ W0.cell? ⟨w.heap.size, 0, none⟩ = some (.int .i64 p) ∧ W0.cell? ⟨w.heap.size, 1, none⟩ = some u ∧ W0.cell? ⟨w.heap.size + 1, 0, none⟩ = some (.int .i64 q) ∧ W0.cell? ⟨w.heap.size + 1, 1, none⟩ = some v := by
  subst hW0
  have h0 := new_cells (w := w.alloc (.cells #[.int .i64 p, u] 25)) (t := 25) (cs := #[.int .i64 q, v]) 0 _ rfl
  have h1 := new_cells (w := w.alloc (.cells #[.int .i64 p, u] 25)) (t := 25) (cs := #[.int .i64 q, v]) 1 _ rfl
  simp only [size_alloc10] at h0 h1
  exact ⟨belot (belo1 w _) (belo1 _ _), kept_cell (belo1 _ _) (new_cells (cs := #[.int .i64 p, u]) 0 _ rfl), kept_cell (belo1 _ _) (new_cells (cs := #[.int .i64 p, u]) 1 _ rfl), h0, h1⟩

set_option maxHeartbeats 2000000 in
theorem cov_any {w : World} {p q : Int} {u v : Value} {xs bs : List Int} (h1 : Has elInt w u xs) (h2 : Has elInt w v bs) :
    Calls Tryd.prog 15 #[.agg #[.int .i64 p, u], .agg #[.int .i64 q, v]] w fun e w' => e = .returned (.bool (covB p xs q bs)) ∧ Below w.heap.size w w' := by
  obtain ⟨va, vc, rfl, -, -, hlen⟩ := h1.shape
  obtain ⟨ua, uc, rfl, -, -, hlen2⟩ := h2.shape
  obtain ⟨hb, c0, c1, c2, c3⟩ := boxes2 (w := w) (p := p) (q := q) (u := .slice va xs.length vc) (v := .slice ua bs.length uc) rfl
  have HB := hide hb
  have H1 := hide (h1.kept hb)
  have H2 := hide (h2.kept hb)
  have HV := hide (valid_any (q := q) (h2.kept hb))
  clear h1 h2 hb
  cases hv : vldB q bs with
  | false =>
    have HN : Hid (covB p xs q bs = false) := by show _ = _; unfold covB; rw [hv]; rfl
    rw [hv] at HV
    go_enter Tryd.func15, Tryd.ntmps15
    go_wp2_with (go_at_call 8; refine HV.out.mono ?_; rintro e w2 ⟨rfl, h2⟩; have HB2 := hide (belot HB.out h2); clear h2)
    go_ret
    exact ⟨by rw [HN.out]; rfl, HB2.out⟩
  | true =>
    have HN : Hid (covB p xs q bs = fitB p xs q bs) := by show _ = _; unfold covB; rw [hv]; rfl
    rw [hv] at HV
    have HF := hide (fun V hV => fits_any (q := p) (p := q) (H1.out.kept hV) (H2.out.kept hV) (w := V))
    obtain ⟨f, hf⟩ : ∃ f, fitB p xs q bs = f := ⟨_, rfl⟩
    rw [hf] at HF HN
    clear hf
    go_enter Tryd.func15, Tryd.ntmps15
    go_wp2_with (first | (go_at_call 8; refine HV.out.mono ?_; rintro e w2 ⟨rfl, h2⟩; have HB2 := hide (belot HB.out h2); have c0' := kept_cell h2 c0; have c1' := kept_cell h2 c1; have c2' := kept_cell h2 c2; have c3' := kept_cell h2 c3; have HF2 := hide (HF.out _ h2); clear h2 c0 c1 c2 c3) | (go_at_call 22; refine HF2.out.mono ?_; rintro e w3 ⟨rfl, h3⟩; have HB3 := hide (belot HB2.out h3); clear h3))
    go_ret
    exact ⟨by rw [HN.out]; rfl, HB3.out⟩
end Go.Proofs.YtgligipgjakecaaDoor
