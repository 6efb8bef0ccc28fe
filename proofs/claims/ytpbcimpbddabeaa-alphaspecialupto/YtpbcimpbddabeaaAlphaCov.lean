/- alpha.Covers and the document's Covers: one answer. -/
import Derived.Test.YtpbcimpbddabeaaAlphaCover
namespace Go.Proofs.Ytpbcimpbddabeaa
set_option linter.unusedSimpArgs false
set_option linter.unusedVariables false
open Go.RowKit

/-- Two shapes by value, each in a box of its own. -/
theorem boxes2 {w : World} {p q : Int} {u v : Value} {W0 : World} (hW0 : W0 = (w.alloc (.cells #[.int .i64 p, u] 32)).alloc (.cells #[.int .i64 q, v] 32)) :
    Below w.heap.size w W0 ∧ W0.cell? ⟨w.heap.size, 0, none⟩ = some (.int .i64 p) ∧ W0.cell? ⟨w.heap.size, 1, none⟩ = some u ∧ W0.cell? ⟨w.heap.size + 1, 0, none⟩ = some (.int .i64 q) ∧ W0.cell? ⟨w.heap.size + 1, 1, none⟩ = some v := by
  subst hW0
  have h0 := new_cells (w := w.alloc (.cells #[.int .i64 p, u] 32)) (t := 32) (cs := #[.int .i64 q, v]) 0 _ rfl
  have h1 := new_cells (w := w.alloc (.cells #[.int .i64 p, u] 32)) (t := 32) (cs := #[.int .i64 q, v]) 1 _ rfl
  simp only [size_alloc10] at h0 h1
  exact ⟨belot (belo1 w _) (belo1 _ _), kept_cell (belo1 _ _) (new_cells (cs := #[.int .i64 p, u]) 0 _ rfl), kept_cell (belo1 _ _) (new_cells (cs := #[.int .i64 p, u]) 1 _ rfl), h0, h1⟩

set_option maxHeartbeats 2000000 in
theorem cov_any {w : World} {p q : Int} {u v : Value} {xs bs : List Int} (h1 : Has elInt w u xs) (h2 : Has elInt w v bs) :
    Calls Try.prog 18 #[.agg #[.int .i64 p, u], .agg #[.int .i64 q, v]] w fun e w' => e = .returned (.bool (covB p xs q bs)) ∧ Below w.heap.size w w' := by
  obtain ⟨va, vc, rfl, -, -, hlen⟩ := h1.shape
  obtain ⟨ua, uc, rfl, -, -, hlen2⟩ := h2.shape
  obtain ⟨hb, c0, c1, c2, c3⟩ := boxes2 (w := w) (p := p) (q := q) (u := .slice va xs.length vc) (v := .slice ua bs.length uc) rfl
  have HB := hide hb
  have H1 := hide (h1.kept hb)
  have H2 := hide (h2.kept hb)
  have HV := hide (valid_any (q := q) (h2.kept hb))
  clear h1 h2 hb
  cases hv : vldB q bs with
  | false =>
    have HN : Hid (covB p xs q bs = false) := by show _ = _; unfold covB; rw [hv]; rfl
    rw [hv] at HV
    go_enter Try.func18, Try.ntmps18
    go_wp2_with (go_at_call 9; refine HV.out.mono ?_; rintro e w2 ⟨rfl, h2⟩; have HB2 := hide (belot HB.out h2); clear h2)
    go_ret
    exact ⟨by rw [HN.out]; rfl, HB2.out⟩
  | true =>
    have HN : Hid (covB p xs q bs = fitB p xs q bs) := by show _ = _; unfold covB; rw [hv]; rfl
    rw [hv] at HV
    have HF := hide (fun V hV => fits_any (q := p) (p := q) (H1.out.kept hV) (H2.out.kept hV) (w := V))
    obtain ⟨f, hf⟩ : ∃ f, fitB p xs q bs = f := ⟨_, rfl⟩
    rw [hf] at HF HN
    clear hf
    go_enter Try.func18, Try.ntmps18
    go_wp2_with (first | (go_at_call 9; refine HV.out.mono ?_; rintro e w2 ⟨rfl, h2⟩; have HB2 := hide (belot HB.out h2); have c0' := kept_cell h2 c0; have c1' := kept_cell h2 c1; have c2' := kept_cell h2 c2; have c3' := kept_cell h2 c3; have HF2 := hide (HF.out _ h2); clear h2 c0 c1 c2 c3) | (go_at_call 10; refine HF2.out.mono ?_; rintro e w3 ⟨rfl, h3⟩; have HB3 := hide (belot HB2.out h3); clear h3))
    go_ret
    exact ⟨by rw [HN.out]; rfl, HB3.out⟩

set_option maxHeartbeats 2000000 in
theorem rcov_any {w : World} {p q : Int} {u v : Value} {xs bs : List Int} (h1 : Has elInt w u xs) (h2 : Has elInt w v bs) :
    Calls Try.prog 19 #[.agg #[.int .i64 p, u], .agg #[.int .i64 q, v]] w fun e w' => e = .returned (.bool (covB p xs q bs)) ∧ Below w.heap.size w w' := by
  obtain ⟨va, vc, rfl, -, -, hlen⟩ := h1.shape
  obtain ⟨ua, uc, rfl, -, -, hlen2⟩ := h2.shape
  obtain ⟨hb, c0, c1, c2, c3⟩ := boxes2 (w := w) (p := p) (q := q) (u := .slice va xs.length vc) (v := .slice ua bs.length uc) rfl
  have HB := hide hb
  have H1 := hide (h1.kept hb)
  have H2 := hide (h2.kept hb)
  have HV1 := hide (rvalid_any (q := p) (h1.kept hb))
  have HV2 := hide (fun V hV => rvalid_any (q := q) (H2.out.kept hV) (w := V))
  clear h1 h2 hb
  cases hv : vldB p xs with
  | false =>
    have HN : Hid (covB p xs q bs = false) := by show _ = _; unfold covB fitB; rw [hv]; simp
    rw [hv] at HV1
    go_enter Try.func19, Try.ntmps19
    go_wp2_with (go_at_call 14; refine HV1.out.mono ?_; rintro e w2 ⟨rfl, h2⟩; have HB2 := hide (belot HB.out h2); clear h2)
    go_ret
    exact ⟨by rw [HN.out]; rfl, HB2.out⟩
  | true =>
    rw [hv] at HV1
    cases hv2 : vldB q bs with
    | false =>
      have HN : Hid (covB p xs q bs = false) := by show _ = _; unfold covB; rw [hv2]; rfl
      rw [hv2] at HV2
      go_enter Try.func19, Try.ntmps19
      go_wp2_with (first | (go_at_call 14; refine HV1.out.mono ?_; rintro e w2 ⟨rfl, h2⟩; have HB2 := hide (belot HB.out h2); have c0' := kept_cell h2 c0; have c1' := kept_cell h2 c1; have c2' := kept_cell h2 c2; have c3' := kept_cell h2 c3; have HV2' := hide (HV2.out _ h2); clear h2 c0 c1 c2 c3 HV1) | (go_at_call 14; refine HV2'.out.mono ?_; rintro e w3 ⟨rfl, h3⟩; have HB3 := hide (belot HB2.out h3); clear h3))
      go_ret
      exact ⟨by rw [HN.out]; rfl, HB3.out⟩
    | true =>
      rw [hv2] at HV2
      have HY1 := hide (vldB_iff.1 hv)
      have HY2 := hide (vldB_iff.1 hv2)
      have HLo := hide (fun V hV => loosest_any (p := p) (H1.out.kept hV) (H2.out.kept hV) HY2.out (w := V))
      go_enter Try.func19, Try.ntmps19
      go_wp2_with (first
        | (go_at_call 14; refine HV1.out.mono ?_; rintro e w2 ⟨rfl, h2⟩; have HB2 := hide h2; have c0' := kept_cell h2 c0; have c1' := kept_cell h2 c1; have c2' := kept_cell h2 c2; have c3' := kept_cell h2 c3; have HV2' := hide (HV2.out _ h2); clear h2 c0 c1 c2 c3 HV1)
        | (go_at_call 14; refine HV2'.out.mono ?_; rintro e w3 ⟨rfl, h3⟩; have HB3 := hide (belot HB2.out h3); have d0 := kept_cell h3 c0'; have d1 := kept_cell h3 c1'; have d2 := kept_cell h3 c2'; have d3 := kept_cell h3 c3'; have HLo' := hide (HLo.out _ HB3.out); clear h3 c0' c1' c2' c3' HV2' HB2)
        | (go_at_call 28; refine HLo'.out.mono ?_; rintro e w4 ⟨lv, rfl, row, hrow, hlo, h4⟩; have HB4 := hide (belot HB3.out h4); have e0 := kept_cell h4 d0; have e1 := kept_cell h4 d1; have e2 := kept_cell h4 d2; have e3 := kept_cell h4 d3; have HFt := hide (rfits_any (q := p) (p := q) (H1.out.kept HB4.out) hrow); obtain ⟨nn, hlo⟩ := hlo; rw [loose_fitB hlo HY1.out HY2.out] at HFt; obtain ⟨la, lc, hlv, -⟩ := hrow.shape; subst hlv; clear h4 d0 d1 d2 d3 HLo' HB3 hlo hrow)
        | (go_at_call 15; refine HFt.out.mono ?_; rintro e w5 ⟨rfl, h5⟩; have HB5 := hide (belot HB.out (belot HB4.out h5)); clear h5))
      go_ret
      exact ⟨rfl, HB5.out⟩
end Go.Proofs.Ytpbcimpbddabeaa
